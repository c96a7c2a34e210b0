/- A number's bytes. -/
import Derived.Test.YtdebccghjbfgdaaGreatDoorNatD
import Derived.Lib.Tables
import Derived.Lib.BitFns
set_option maxRecDepth 1000000
set_option maxHeartbeats 16000000
set_option linter.unusedSimpArgs false
set_option linter.unusedVariables false
namespace Go.Proofs.YtdebccghjbfgdaaGreatDoor
open Go Go.RowKit Go.Proofs.YtdebccghjbfgdaaGreatDoor.Flow
theorem len8tab_lit:(⟨((([0,1,2,2,3,3,3,3,4,4,4,4,4,4,4,4,5,5,5,5,5,5,5,5,5,5,5,5,5,5,5,5,6,6,6,6,6,6,6,6,6,6,6,6,6,6,6,6,6,6,6,6,6,6,6,6,6,6,6,6,6,6,6,6]:List UInt8).append [7,7,7,7,7,7,7,7,7,7,7,7,7,7,7,7,7,7,7,7,7,7,7,7,7,7,7,7,7,7,7,7,7,7,7,7,7,7,7,7,7,7,7,7,7,7,7,7,7,7,7,7,7,7,7,7,7,7,7,7,7,7,7,7]).append (([8,8,8,8,8,8,8,8,8,8,8,8,8,8,8,8,8,8,8,8,8,8,8,8,8,8,8,8,8,8,8,8,8,8,8,8,8,8,8,8,8,8,8,8,8,8,8,8,8,8,8,8,8,8,8,8,8,8,8,8,8,8,8,8]:List UInt8).append [8,8,8,8,8,8,8,8,8,8,8,8,8,8,8,8,8,8,8,8,8,8,8,8,8,8,8,8,8,8,8,8,8,8,8,8,8,8,8,8,8,8,8,8,8,8,8,8,8,8,8,8,8,8,8,8,8,8,8,8,8,8,8,8])).toArray⟩:ByteArray)=Lib.len8tab:=by kernel_rfl
theorem len8_blen:∀ n:Fin 256,Lib.len8 (n.val:Int)=(blen n.val:Int):=by decide +kernel
theorem tab_get (y:Int) (h0:0 <= y) (h1:y <= 255) (h:y.toNat < Lib.len8tab.size):((Lib.len8tab[y.toNat]'h).toNat:Int)=(blen y.toNat:Nat):=by
 have e:=len8_blen ⟨y.toNat,by omega⟩
 simp only [Int.toNat_of_nonneg h0] at e
 rw [<- e]
 unfold Lib.len8
 rw [getElem?_pos Lib.len8tab y.toNat h]
 rfl
theorem wrap_blen (k:Nat) (m n:Nat) (hk:k <= 24) (hm:blen m <= 64) (e:blen n=k + blen m):wrap64 ((k:Int) + wrap64 (blen m:Nat))=(blen n:Nat):=by
 rw [e,IntWalk.wrap64_in (blen m:Nat) ⟨by omega,by omega⟩,IntWalk.wrap64_in _ ⟨by omega,by omega⟩]; omega
theorem wrap_blen0 (m:Nat) (hm:blen m <= 64):wrap64 (wrap64 (blen m:Nat))=(blen m:Nat):=by
 rw [IntWalk.wrap64_in (blen m:Nat) ⟨by omega,by omega⟩,IntWalk.wrap64_in _ ⟨by omega,by omega⟩]
theorem len32_int (x:Int) (w:World) (h0:0 <= x) (hx:x <= 4294967295) :
  Calls Tryz.prog 181 #[.int .u32 x] w fun e w'=>e=.returned (.int .i64 (blen x.toNat:Nat)) /\ w=w':=by
 have hs:Lib.len8tab.size=256:=Lib.len8tab_size
 go_enter Tryz.func181,Tryz.ntmps181
 rw [len8tab_lit]
 go_wp2
 all_goals first
  | (go_ret; refine ⟨congrArg Ending.returned (congrArg (Value.int IntKind.i64) ?_),rfl⟩)
  | (exfalso; omega)
 all_goals first
  | (rw [tab_get (x / 65536 / 256) (by omega) (by omega)]; exact wrap_blen 24 _ _ (by omega) (blen_byte (by omega)) (by rw [show (x / 65536 / 256).toNat=x.toNat / 2 ^ 24 by omega]; exact blen_shift _ _ (by omega)))
  | (rw [tab_get (x / 65536) (by omega) (by omega)]; exact wrap_blen 16 _ _ (by omega) (blen_byte (by omega)) (by rw [show (x / 65536).toNat=x.toNat / 2 ^ 16 by omega]; exact blen_shift _ _ (by omega)))
  | (rw [tab_get (x / 256) (by omega) (by omega)]; exact wrap_blen 8 _ _ (by omega) (blen_byte (by omega)) (by rw [show (x / 256).toNat=x.toNat / 2 ^ 8 by omega]; exact blen_shift _ _ (by omega)))
  | (rw [tab_get x (by omega) (by omega)]; exact wrap_blen0 _ (blen_byte (by omega)))
theorem len32_calls (x:Nat) (w:World) (hx:x < 4294967296) :
  Calls Tryz.prog 181 #[.int .u32 x] w fun e w'=>e=.returned (.int .i64 (blen x:Nat)) /\ w=w':=by
 have:=len32_int x w (by omega) (by omega)
 simpa using this
theorem blen_words {ws:List Nat} {x:Nat} (hw:Words (ws ++ [x])) (hx:x ≠ 0):blen (val (ws ++ [x]))=32 * ws.length + blen x:=by
 rw [val_snoc]
 have hb:B32 ws.length=2 ^ (32 * ws.length):=by unfold B32; rw [show (4294967296:Nat)=2 ^ 32 from rfl,<- Nat.pow_mul]
 have h1:val ws < B32 ws.length:=Words.lt fun y hy=>hw y (by simp [hy])
 have hd:(val ws + B32 ws.length * x) / 2 ^ (32 * ws.length)=x:=by
  rw [<- hb,Nat.add_mul_div_left _ _ (B32_pos _),Nat.div_eq_of_lt h1,Nat.zero_add]
 have:=blen_shift (val ws + B32 ws.length * x) (32 * ws.length) (by rw [hd]; omega)
 rw [hd] at this
 exact this
theorem bits_calls (w:World) (p:Option Addr) (n c N:Nat) (h:NatAt w p n c N) (hn:n < 1000000) :
  Calls Tryz.prog 147 #[.agg #[.slice p n c]] w fun e w'=>e=.returned (.int .i64 (blen N:Nat)) /\ Below w.heap.size w w':=by
 have hbx:=Box1.mk1 w (.slice p n c) 36
 by_cases h0:n=0
 ·have hN:N=0:=h.zero.1 h0
  subst hN
  have hd:decide (n=0)=true:=by simpa using h0
  clear h0
  go_enter Tryz.func147,Tryz.ntmps147
  go_wp2_with fail
  refine (zero_calls _ p n c).mono ?_
  rintro e w1 ⟨rfl,hb1⟩
  go_wp2
  go_ret
  exact ⟨rfl,(hbx.later hb1).bel⟩
 ·obtain ⟨m,rfl⟩:∃ m,n=m + 1:=⟨n - 1,by omega⟩
  obtain ⟨ws,h1,h2,h3,h4⟩:=h.ex
  have hl:=h1.len
  obtain ⟨xs,x,rfl⟩:∃ xs x,ws=xs ++ [x]:=by
   rcases List.eq_nil_or_concat ws with rfl | ⟨xs,x,h⟩
   ·simp at hl
   ·exact ⟨xs,x,by simpa using h⟩
  have hxm:xs.length=m:=by simp at hl; omega
  have hx0:x ≠ 0:=by simpa using h3
  have hx1:x < 4294967296:=h2 x (by simp)
  have hbl:=blen_words h2 hx0
  rw [h4,hxm] at hbl
  have HBL:=Lib.hid hbl
  have hxb:blen x <= 32:=by rw [blen_le]; exact hx1
  obtain ⟨b,off,rfl,hb,hc⟩:=h1.pos (by omega)
  have hci:∀ w',Below w.heap.size w w' -> w'.cell? ⟨b,off + m,none⟩=some (.int .u32 (x:Nat)):=fun w' hb'=>by
   rw [(bcell hb').1 _ _ hb]
   exact hc m x (by rw [<- hxm]; simp)
  have hd:decide (m + 1=0)=false:=by simp
  clear hc hl h4 hbl hxm
  go_enter Tryz.func147,Tryz.ntmps147
  go_wp2_with fail
  refine (zero_calls _ _ (m + 1) c).mono ?_
  rintro e w1 ⟨rfl,hb1⟩
  have hbx1:=hbx.later hb1
  have c0:=hbx1.c0
  have hcx:=hci w1 hbx1.bel
  clear hci
  go_wp2_with fail
  refine (len32_calls x _ hx1).mono ?_
  rintro e w2 ⟨rfl,rfl⟩
  go_wp2
  go_ret
  refine ⟨?_,hbx1.bel⟩
  rw [HBL.out]
  exact congrArg (fun z=>Ending.returned (.int .i64 z)) (by omega)
def leOf (N n:Nat):List Nat:=(List.range n).map fun i=>N / B8 i % 256
def beOf (N n:Nat):List Nat:=(leOf N n).reverse
def bsize (N:Nat):Nat:=(blen N + 7) / 8
theorem leOf_length (N n:Nat):(leOf N n).length=n:=by simp [leOf]
theorem leOf_succ (N n:Nat):leOf N (n + 1)=leOf N n ++ [N / B8 n % 256]:=by simp [leOf,List.range_succ]
theorem leOf_bytes (N n:Nat):Bytes8 (leOf N n):=by
 intro x hx
 simp only [leOf,List.mem_map] at hx
 obtain ⟨j,_,rfl⟩:=hx
 exact Nat.mod_lt _ (by omega)
theorem bsize_lt (N:Nat):N < B8 (bsize N):=by
 rw [B8_pow]
 refine (blen_le N _).1 ?_
 unfold bsize; omega
theorem bsize_le {N n:Nat}:bsize N <= n ↔ N < B8 n:=by
 rw [B8_pow,<- blen_le]; unfold bsize; omega
theorem leOf_pad {N k n:Nat} (h:N < B8 k) (hk:k <= n):leOf N k ++ List.replicate (n - k) 0=leOf N n:=by
 obtain ⟨d,rfl⟩:∃ d,n=k + d:=⟨n - k,by omega⟩
 rw [Nat.add_sub_cancel_left]
 clear hk
 induction d with
 | zero=>simp
 | succ d ih =>
  rw [List.replicate_succ',<- List.append_assoc,ih,<- Nat.add_assoc,leOf_succ]
  congr 2
  have:B8 k <= B8 (k + d):=B8_mono (by omega)
  rw [Nat.div_eq_of_lt (by omega)]
theorem le_leOf (N:Nat):∀ n,le (leOf N n)=N % B8 n
 | 0=>by simp [leOf,le,B8_zero,Nat.mod_one]
 | n + 1=>by rw [leOf_succ,le_snoc,leOf_length,le_leOf N n,B8_succ,Nat.mul_comm 256,Nat.mod_mul]
theorem set_reverse (l:List Nat) (k x:Nat) (hk:k < l.length):l.reverse.set (l.length - 1 - k) x=(l.set k x).reverse:=by
 apply List.ext_getElem (by simp)
 intro i h1 h2
 simp only [List.length_set,List.length_reverse] at h1
 rw [List.getElem_set,List.getElem_reverse,List.getElem_reverse,List.getElem_set]
 simp only [List.length_set]
 by_cases h:l.length - 1 - k=i
 ·rw [if_pos h,if_pos (by omega)]
 ·rw [if_neg h,if_neg (by omega)]
theorem byte_of_word {N q r:Nat} (hr:r < 4):N / B32 q % 4294967296 / B8 r % 256=N / B8 (4 * q + r) % 256:=by
 have e:(4294967296:Nat)=B8 r * (256 * B8 (3 - r)):=by
  rw [<- B8_succ,<- B8_add,show r + (3 - r + 1)=4 by omega]; rfl
 rw [e,Nat.mod_mul_right_div_self,Nat.mod_mul_right_mod,Nat.div_div_eq_div_mul,B8_add,B8_four]
theorem size_calls (w:World) (p:Option Addr) (n c N:Nat) (h:NatAt w p n c N) (hn:n < 1000000) (hN:blen N <= 1000000000) :
  Calls Tryz.prog 120 #[.agg #[.slice p n c]] w fun e w'=>e=.returned (.int .i64 (bsize N:Nat)) /\ Below w.heap.size w w':=by
 have hbx:=Box1.mk1 w (.slice p n c) 36
 obtain ⟨k,hk⟩:∃ k,blen N=k:=⟨_,rfl⟩
 have HK:Hid (bsize N=(k + 7) / 8):=by rw [<- hk]; rfl
 go_enter Tryz.func120,Tryz.ntmps120
 go_wp2_with fail
 refine (bits_calls _ p n c N (h.below hbx.bel) hn).mono ?_
 rintro e w1 ⟨rfl,hb1⟩
 rw [hk] at hN
 simp only [hk]
 clear hk
 go_wp2
 go_ret
 refine ⟨?_,(hbx.later hb1).bel⟩
 rw [HK.out]
 exact congrArg (fun z=>Ending.returned (.int .i64 z)) (by omega)
def GivesBytes (N:Nat) (size:Int) (w:World) (e:Ending) (w':World):Prop :=
 ∃ q n d k,e=.returned (.tuple #[.slice q n d,.int .i64 k]) /\ Row w' .u8 q n d (if size < 0 then [] else if size < bsize N then [] else beOf N size.toNat) /\
  (k=if size < 0 then 1 else if size < bsize N then 2 else 0) /\ Below w.heap.size w w' /\ New w.heap.size q
theorem bytes_blk (w:World) (p:Option Addr) (n c N s:Nat) (h:NatAt w p n c N) (hn:n < 1000000) (hN:blen N <= 1000000000) (hs:(s:Int) <= 1000000) (h2:¬ (s:Int) < bsize N) :
  Calls Tryz.prog 119 #[.agg #[.slice p n c],.int .i64 s] w fun e w'=>∃ g,e=.returned (.tuple #[.slice (some ⟨g,0,none⟩) s s,.int .i64 0]) /\ Blk w' g 5 .u8 (beOf N s) /\ Below w.heap.size w w' /\ w.heap.size <= g:=by
 have hbx:=Box1.mk1 w (.slice p n c) 36
 have h1:¬ (s:Int) < 0:=by omega
 obtain ⟨m,hm⟩:∃ m,bsize N=m:=⟨_,rfl⟩
 have HM:Hid (∀ k,m <= k ↔ N < B8 k):=fun k=>by rw [<- hm]; exact bsize_le
 rw [hm] at h2
 obtain ⟨ws,r1,r2,r3,r4⟩:=h.ex
 have hmk:=make_u8 s (by omega)
 have hms:m <= s:=by omega
 have HR4:=Lib.hid r4
 go_enter Tryz.func119,Tryz.ntmps119
 go_wp2_with fail
 refine (size_calls _ p n c N (h.below hbx.bel) hn hN).mono ?_
 rintro e w1 ⟨rfl,hb1⟩
 simp only [hm]
 clear hm r4
 have hbx1:=hbx.later hb1
 have hz1:w.heap.size < w1.heap.size:=hbx1.size
 go_wp2
 go_loopw [24] (fun i wr=>∃ k:Nat,k <= m /\ i=.int .i64 k /\ Box1 w wr (.slice p n c) /\ w1.heap.size < wr.heap.size /\ Below w1.heap.size w1 wr /\ Blk wr w1.heap.size 5 .u8 ((leOf N k ++ List.replicate (s - k) 0).reverse)) (fun i _=>m - (intOf i).toNat)
 case atStart =>
  refine ⟨0,by omega,rfl,hbx1.alloc _,by simp,(Below.refl _ _).alloc (Nat.le_refl _) _,?_⟩
  have:=Blk.zeros w1 5 .u8 s
  simpa [leOf] using this
 case round =>
  obtain ⟨k,hk,rfl,hbr,hsz,hbw,hblk⟩:=hrel
  have c0:=hbr.c0
  by_cases hkm:k < m
  ·have hkn:k / 4 < n:=by
    rcases Nat.lt_or_ge (k / 4) n with h3 | h3
    ·exact h3
    ·exfalso
     have h4:=r2.lt
     rw [<- r1.len] at h4
     have h5:N < B8 k:=by
      have:B32 n <= B8 k:=by rw [<- B8_four]; exact B8_mono (by omega)
      have:=HR4.out; omega
     have h6:=(HM.out k).2 h5
     omega
   obtain ⟨b,off,rfl,hb,hc⟩:=r1.pos (by omega)
   obtain ⟨x,hx⟩:∃ x,ws.getD (k / 4) 0=x:=⟨_,rfl⟩
   have hci:wr.cell? ⟨b,off + k / 4,none⟩=some (.int .u32 (x:Nat)):=by
    rw [(bcell hbr.bel).1 _ _ hb]
    exact hc _ x (by rw [<- hx,List.getD_eq_getElem?_getD]; simp [show k / 4 < ws.length by have:=r1.len; omega])
   have hx1:x < 4294967296:=by rw [<- hx]; exact r2.get _
   have hlen:(leOf N k ++ List.replicate (s - k) 0).length=s:=by rw [List.length_append,leOf_length,List.length_replicate]; omega
   have hcl:wr.cell? ⟨w1.heap.size,s - 1 - k,none⟩=some (.int .u8 (((leOf N k ++ List.replicate (s - k) 0).reverse.getD (s - 1 - k) 0:Nat))):=hblk.cell (by
    rw [List.getD_eq_getElem?_getD]
    have:s - 1 - k < (leOf N k ++ List.replicate (s - k) 0).reverse.length:=by rw [List.length_reverse,hlen]; omega
    simp only [List.getElem?_eq_getElem this,Option.getD_some])
   have hfr:=hblk.free (s - 1 - k)
   have hbyte:x / 2 ^ (k % 4 * 8) % 256=N / B8 k % 256:=by
    have hd:=digit ws r2 (k / 4)
    rw [HR4.out,hx] at hd
    rw [<- hd,Nat.mul_comm (k % 4) 8,<- B8_pow,byte_of_word (Nat.mod_lt _ (by omega))]
    congr 3; omega
   have hset:Hid (Blk (wr.setCell ⟨w1.heap.size,s - 1 - k,none⟩ (.int .u8 ((N / B8 k % 256:Nat)))) w1.heap.size 5 .u8 ((leOf N (k + 1) ++ List.replicate (s - (k + 1)) 0).reverse)):=by
    have h5:=hblk.set (s - 1 - k) (N / B8 k % 256)
    have h6:=set_reverse (leOf N k ++ List.replicate (s - k) 0) k (N / B8 k % 256) (by rw [hlen]; omega)
    rw [hlen] at h6
    rw [h6] at h5
    have h7:s - k=(s - (k + 1)) + 1:=by omega
    have h8:(leOf N k ++ List.replicate (s - k) 0).set k (N / B8 k % 256)=leOf N (k + 1) ++ List.replicate (s - (k + 1)) 0:=by
     rw [h7,leOf_succ]
     have:=set_zeros (leOf N k) (s - (k + 1)) (N / B8 k % 256)
     rw [leOf_length] at this
     exact this
    rw [h8] at h5
    exact h5
   have HX:=Lib.hid hx
   have HB:=Lib.hid hbyte
   have hk3:k % 4 < 4:=Nat.mod_lt _ (by omega)
   clear hc hx hbyte hlen
   go_wp2
   go_roundw
   case rel =>
    have e:((x:Int) / 2 ^ (k % 4 * 8) % 256)=((N / B8 k % 256:Nat):Int):=by
     rw [<- HB.out]; simp
    rw [e]
    exact ⟨k + 1,by omega,by go_num,hbr.below (B:=w.heap.size + 1) ((Below.refl _ _).setCell (by simp; omega) _) (Nat.le_refl _),by simpa using hsz,hbw.setCell (by simp) _,hset.out⟩
   case measure=>simp [intOf]; omega
  ·have hkm':m <= k:=by omega
   rw [leOf_pad ((HM.out k).1 hkm') (by omega)] at hblk
   have HRow:Hid (Blk wr w1.heap.size 5 .u8 (beOf N s)):=hblk
   have hbel:=hbr.bel
   go_wp2
   go_ret2
   exact ⟨_,rfl,HRow.out,hbel,Nat.le_of_lt hz1⟩
theorem bytes_calls (w:World) (p:Option Addr) (n c N:Nat) (size:Int) (h:NatAt w p n c N) (hn:n < 1000000) (hN:blen N <= 1000000000) (hs:size <= 1000000) (hs0:-9223372036854775808 <= size) :
  Calls Tryz.prog 119 #[.agg #[.slice p n c],.int .i64 size] w (GivesBytes N size w):=by
 have hbx:=Box1.mk1 w (.slice p n c) 36
 by_cases h1:size < 0
 ·have HG:Hid (∀ w',Below w.heap.size w w' -> GivesBytes N size w (.returned (.tuple #[.slice none 0 0,.int .i64 1])) w'):=fun w' hb=>⟨none,0,0,1,rfl,by rw [if_pos h1]; exact Row.nil _ _,by rw [if_pos h1],hb,New.none _⟩
  go_enter Tryz.func119,Tryz.ntmps119
  go_wp2_with fail
  refine (size_calls _ p n c N (h.below hbx.bel) hn hN).mono ?_
  rintro e w1 ⟨rfl,hb1⟩
  go_wp2
  go_ret2
  exact HG.out _ (hbx.later hb1).bel
 ·by_cases h2:size < bsize N
  ·have HG:Hid (∀ w',Below w.heap.size w w' -> GivesBytes N size w (.returned (.tuple #[.slice none 0 0,.int .i64 2])) w'):=fun w' hb=>⟨none,0,0,2,rfl,by rw [if_neg h1,if_pos h2]; exact Row.nil _ _,by rw [if_neg h1,if_pos h2],hb,New.none _⟩
   go_enter Tryz.func119,Tryz.ntmps119
   go_wp2_with fail
   refine (size_calls _ p n c N (h.below hbx.bel) hn hN).mono ?_
   rintro e w1 ⟨rfl,hb1⟩
   go_wp2
   go_ret2
   exact HG.out _ (hbx.later hb1).bel
  ·obtain ⟨s,rfl⟩:=Int.eq_ofNat_of_zero_le (show 0 <= size by omega)
   refine (bytes_blk w p n c N s h hn hN hs h2).mono ?_
   rintro e w' ⟨g,rfl,hb,hbel,hg⟩
   have hl:(beOf N s).length=s:=by rw [beOf,List.length_reverse,leOf_length]
   exact ⟨some ⟨g,0,none⟩,s,s,0,rfl,by rw [if_neg h1,if_neg h2]; exact hb.row hl.symm (Nat.le_refl _) (by omega),by rw [if_neg h1,if_neg h2],hbel,fun q hq=>by cases hq; exact hg⟩
end Go.Proofs.YtdebccghjbfgdaaGreatDoor
