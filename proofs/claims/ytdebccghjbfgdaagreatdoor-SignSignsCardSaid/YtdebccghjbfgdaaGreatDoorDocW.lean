/- The document's numbers: their order; a bit. -/
import Derived.Test.YtdebccghjbfgdaaGreatDoorNatD
import Derived.Deep.QuietTactic
import Derived.BigQuiet
import Derived.RangeFuncNested
set_option maxRecDepth 1000000
set_option maxHeartbeats 16000000
set_option linter.unusedSimpArgs false
set_option linter.unusedVariables false
namespace Go.Proofs.YtdebccghjbfgdaaGreatDoor
open Go Go.RowKit Go.Proofs.YtdebccghjbfgdaaGreatDoor.Flow
def bit (N i:Nat):Bool:=decide (N / 2 ^ i % 2=1)
def bitsOf (N:Nat):List Bool:=(List.range (blen N)).map (bit N)
def bitsUp (N k:Nat):List Bool:=(List.range k).map (bit N)
theorem bitsUp_succ (N k:Nat):bitsUp N (k + 1)=bitsUp N k ++ [bit N k]:=by simp [bitsUp,List.range_succ]
theorem bitsUp_length (N k:Nat):(bitsUp N k).length=k:=by simp [bitsUp]
theorem bitsOf_length (N:Nat):(bitsOf N).length=blen N:=by simp [bitsOf]
theorem bitsOf_get {N i:Nat} (h:i < blen N):(bitsOf N)[i]? = some (bit N i):=by simp [bitsOf,h]
theorem blen_gt {N k:Nat} (h:0 < N / 2 ^ k):k < blen N:=by
 rcases Nat.lt_or_ge k (blen N) with h1 | h1
 ·exact h1
 ·rw [Nat.div_eq_of_lt ((blen_le N k).1 h1)] at h; omega
theorem blen_eq {N k:Nat} (h:N / 2 ^ k=0) (hk:k <= blen N):k=blen N:=by
 refine Nat.le_antisymm hk ((blen_le N k).2 ?_)
 exact (Nat.div_eq_zero_iff.1 h).resolve_left (by have:=Nat.pow_pos (n:=k) (show 0 < 2 by omega); omega)
theorem mod_bit (N k:Nat):N % 2 ^ (k + 1)=N % 2 ^ k + (if bit N k then 2 ^ k else 0):=by
 rw [Nat.pow_succ,Nat.mod_mul]
 unfold bit
 have:N / 2 ^ k % 2 < 2:=Nat.mod_lt _ (by omega)
 by_cases h:N / 2 ^ k % 2=1
 ·simp [h]
 ·have:N / 2 ^ k % 2=0:=by omega
  simp [this]
structure BRow (w:World) (p:Option Addr) (n c:Nat) (xs:List Bool):Prop where
 len:n=xs.length
 cap:n <= c
 max:c <= 9223372036854775807
 at_:(p=none /\ n=0 /\ c=0) ∨ ∃ b off,p=some ⟨b,off,none⟩ /\ b < w.heap.size /\ ∀ (i:Nat) (x:Bool),xs[i]? = some x -> w.cell? ⟨b,off + i,none⟩=some (.bool x)
theorem BRow.below {w w':World} {p:Option Addr} {n c:Nat} {xs:List Bool} (h:BRow w p n c xs) (hb:Below w.heap.size w w'):BRow w' p n c xs:=by
 refine ⟨h.len,h.cap,h.max,?_⟩
 rcases h.at_ with h1 | ⟨b,off,h1,h2,h3⟩
 ·exact .inl h1
 ·refine .inr ⟨b,off,h1,Nat.lt_of_lt_of_le h2 hb.size,fun i x hx=>?_⟩
  rw [hb.cell (p:=⟨b,off + i,none⟩) h2]
  exact h3 i x hx
theorem BRow.nil (w:World):BRow w none 0 0 []:=⟨rfl,Nat.le_refl _,by omega,.inl ⟨rfl,rfl,rfl⟩⟩
theorem BRow.pos {w:World} {p:Option Addr} {n c:Nat} {xs:List Bool} (h:BRow w p n c xs) (hn:0 < n) :
  ∃ b off,p=some ⟨b,off,none⟩ /\ b < w.heap.size /\ ∀ (i:Nat) (x:Bool),xs[i]? = some x -> w.cell? ⟨b,off + i,none⟩=some (.bool x):=by
 rcases h.at_ with h1 | h1
 ·omega
 ·exact h1
theorem BRow.of_owns {w:World} {base:Nat} {e:TypeId} {v:Value} {n:Nat} {ws:List Bool} (h:w.ownsRow base e 1 v n (ws.map Value.bool)) :
  ∃ q d,v=.slice q n d /\ BRow w q n d ws /\ New base q:=by
 have hl:ws.length=n:=by have:=h.1; simpa using this
 rcases h.2 with ⟨rfl,rfl⟩ | ⟨g,cap,cur,rfl,hb,hg,hnc,hcm,hcs,htake⟩
 ·have:ws=[]:=List.eq_nil_of_length_eq_zero hl
  subst this
  exact ⟨none,0,rfl,BRow.nil _,New.none _⟩
 ·refine ⟨_,cap,rfl,⟨hl.symm,hnc,by simpa [maxLen] using hcm,.inr ⟨g,0,rfl,(Array.getElem?_eq_some_iff.1 hg).1,fun i x hx=>?_⟩⟩,fun q hq=>by cases hq; exact hb⟩
  rw [Nat.zero_add,cell_of_row w g i cur e (0,0) hg]
  have hi:i < n:=by rw [<- hl]; exact (List.getElem?_eq_some_iff.1 hx).1
  have:(cur.toList.take (n * 1))[i]? = some (.bool x):=by rw [htake]; simp [hx]
  rw [List.getElem?_take,if_pos (by omega)] at this
  simpa using this
theorem Tryz.info_bool:(Tryz.prog.info? 4).map (fun i=>(i.zero,i.size,i.bytes))=some (some (.bool false),1,1):=by kernel_rfl
def BitsAt (w:World) (p:Option Addr) (n c N:Nat):Prop:=BRow w p n c (bitsOf N)
theorem BitsAt.below {w w':World} {p:Option Addr} {n c N:Nat} (h:BitsAt w p n c N) (hb:Below w.heap.size w w'):BitsAt w' p n c N:=BRow.below h hb
theorem bits_len {w:World} {q:Option Addr} {m d N:Nat} (k:BitsAt w q m d N):m=blen N:=by have:=k.len; rwa [bitsOf_length] at this
def GivesBits (N:Nat) (w:World) (e:Ending) (w':World):Prop:=∃ p n c,e=.returned (.slice p n c) /\ BitsAt w' p n c N /\ Below w.heap.size w w' /\ New w.heap.size p
theorem small_calls (N:Nat) (w:World) (hN:N < 18446744073709551616) :
  Calls Tryz.prog 26 #[.int .u64 N] w (GivesBits N w):=by
 obtain ⟨i0,hi,hz0,hz1,hz2⟩:=info_parts Tryz.info_bool
 have h64:blen N <= 64:=(blen_le N 64).2 hN
 have hown:=World.ownsRow_made w (base:=w.heap.size) (e := 4) (size:=1) #[] 0 (Nat.le_refl _) (by simp [maxLen]) (by simp)
 go_enter Tryz.func26,Tryz.ntmps26
 go_wp2
 go_loopw [0,3] (fun u v wr=>∃ k x:Nat,k <= blen N /\ Hid (N / 2 ^ k=x) /\ u=.int .u64 x /\ x < 18446744073709551616 /\ wr.ownsRow w.heap.size 4 1 v k ((bitsUp N k).map Value.bool) /\ Below w.heap.size w wr) (fun u _ _=>(intOf u).toNat)
 case atStart =>
  refine ⟨0,N,Nat.zero_le _,Lib.hid (by simp),rfl,hN,?_,(Below.refl _ _).alloc (Nat.le_refl _) _⟩
  simpa [bitsUp] using hown
 case round =>
  obtain ⟨k,x,hk,hx,rfl,hx1,ho,hbw⟩:=hrel
  have hh:Hid (N / 2 ^ (k + 1)=x / 2):=Lib.hid (by rw [Nat.pow_succ,<- Nat.div_div_eq_div_mul,hx.out])
  have hbt:bit N k=((x:Int) % 2 == 1):=by
   unfold bit; rw [hx.out,Bool.eq_iff_iff]; simp; omega
  have HB:=Lib.hid hbt
  clear hbt
  go_wp2_with (at_builtin; refine wpList_append_own _ rfl _ _ 28 rfl w.heap.size 4 i0 (.bool false) 1 1 Tryz.underlying28 hi hz0 hz1 hz2 rfl (by decide) _ _ _ rfl (ho.alloc _) ⟨wr.heap.size,0,none⟩ 1 1 [.bool ((x:Int) % 2 == 1)] rfl rfl ?c1 ?c2 ?c3 ?c4 ?c5 ?_)
  case c1 =>
   intro j u hj
   match j,hj with
   | 0,hj=>simp at hj; subst hj; simp [Addr.add]
  case c2=>intro u hu; simp at hu; subst hu; rfl
  case c3=>unfold maxLen; omega
  case c4=>omega
  case c5=>have:=hbw.size; simp; omega
  ·intro v' w1 ho' hg _
   have hx0:0 < x:=by assumption
   have hkl:k < blen N:=blen_gt (by rw [hx.out]; exact hx0)
   have hbw1:Below w.heap.size w w1:=(hbw.alloc hbw.size _).grown hg (by have:=hbw.size; simp; omega) (fun j hj=>(ho.lt j hj).1)
   have ho1:w1.ownsRow w.heap.size 4 1 v' (k + 1) ((bitsUp N (k + 1)).map Value.bool):=by
    rw [bitsUp_succ,List.map_append,HB.out]; exact ho'
   clear ho' hg ho
   go_wp2
   go_roundw
   case rel=>exact ⟨k + 1,x / 2,by omega,hh,by simp [Int.natCast_ediv],by omega,ho1,hbw1⟩
   case measure=>simp [intOf]; omega
  ·have hx0:¬ 0 < x:=by assumption
   have hkl:k=blen N:=blen_eq (by rw [hx.out]; omega) hk
   subst hkl
   obtain ⟨q,d,rfl,hrow,hq⟩:=BRow.of_owns ho
   go_ret
   exact ⟨q,blen N,d,rfl,hrow,hbw,hq⟩
theorem bitsUp_get {N L i:Nat} (h:i < L):(bitsUp N L)[i]? = some (bit N i):=by simp [bitsUp,h]
theorem bitsOf_up (N:Nat):bitsOf N=bitsUp N (blen N):=rfl
theorem bitsUp_take {N L k:Nat} (h:k <= L):(bitsUp N L).take k=bitsUp N k:=by
 apply List.ext_getElem?
 intro i
 rw [List.getElem?_take]
 split
 ·rw [bitsUp_get (by omega),bitsUp_get (by omega)]
 ·rw [List.getElem?_eq_none (by rw [bitsUp_length]; omega)]
theorem lt_of_bit {N m:Nat} (h:N < 2 ^ (m + 1)) (hb:bit N m=false):N < 2 ^ m:=by
 have h1:=mod_bit N m
 rw [Nat.mod_eq_of_lt h,hb] at h1
 simp only [Bool.false_eq_true,if_false,Nat.add_zero] at h1
 rw [h1]
 exact Nat.mod_lt _ (Nat.pow_pos (by omega))
theorem blen_of_bit {N m:Nat} (h:N < 2 ^ (m + 1)) (hb:bit N m=true):blen N=m + 1:=by
 refine Nat.le_antisymm ((blen_le N _).2 h) ?_
 refine blen_gt ?_
 unfold bit at hb
 have h3:N / 2 ^ m % 2=1:=by simpa using hb
 generalize N / 2 ^ m=z at *
 omega
theorem BRow.take {w:World} {p:Option Addr} {n c:Nat} {xs:List Bool} (h:BRow w p n c xs) (m:Nat) (hm:m <= n):BRow w p m c (xs.take m):=by
 have hl:=h.len
 refine ⟨by simp; omega,Nat.le_trans hm h.cap,h.max,?_⟩
 rcases h.at_ with ⟨h1,h2,h3⟩ | ⟨b,off,h1,h2,h3⟩
 ·exact .inl ⟨h1,by omega,h3⟩
 ·refine .inr ⟨b,off,h1,h2,fun i x hx=>h3 i x ?_⟩
  rw [List.getElem?_take] at hx
  split at hx
  ·exact hx
  ·cases hx
def GivesTrimB (N:Nat) (p:Option Addr) (c:Nat) (w:World) (e:Ending) (w':World):Prop:=∃ m,e=.returned (.slice p m c) /\ BitsAt w p m c N /\ w=w'
theorem trimB_calls (w:World) (p:Option Addr) (n c N:Nat) (h:BRow w p n c (bitsUp N n)) (hN:N < 2 ^ n) :
  Calls Tryz.prog 124 #[.slice p n c] w (GivesTrimB N p c w):=by
 have hm:=h.max
 have hcp:=h.cap
 go_enter Tryz.func124,Tryz.ntmps124
 go_wp2
 go_loop [0] (fun s=>∃ k:Nat,k <= n /\ s=.slice p k c /\ Hid (N < 2 ^ k)) (fun s=>match s with | .slice _ k _=>k | _=>0)
 case atStart=>exact ⟨n,Nat.le_refl _,rfl,Lib.hid hN⟩
 case round =>
  obtain ⟨k,hk,rfl,hv⟩:=hrel
  cases k with
  | zero =>
   have hN0:N=0:=by have:=hv.out; simp at this; omega
   have HN:=Lib.hid hN0
   clear hN0
   go_wp2
   go_ret
   refine ⟨0,rfl,?_,rfl⟩
   have:=h.take 0 (by omega)
   rw [HN.out]
   exact this
  | succ m =>
   obtain ⟨b,off,rfl,hb,hc⟩:=h.pos (by omega)
   obtain ⟨x,hx⟩:∃ x,bit N m=x:=⟨_,rfl⟩
   have hci:w.cell? ⟨b,off + m,none⟩=some (.bool x):=hc m x (by rw [bitsUp_get (by omega),hx])
   have HX:=Lib.hid hx
   clear hc hx
   cases x with
   | false =>
    go_wp2
    go_round
    case rel=>exact ⟨m,by omega,rfl,Lib.hid (lt_of_bit hv.out HX.out)⟩
    case measure=>simp
   | true =>
    go_wp2
    go_ret
    have e:=blen_of_bit hv.out HX.out
    refine ⟨m + 1,rfl,?_,rfl⟩
    have:=h.take (m + 1) hk
    rw [bitsUp_take hk,<- e,<- bitsOf_up] at this
    rw [<- e]
    exact this
theorem le_div (xs:List Nat) (h:Bytes8 xs):∀ j,le xs / B8 j % 256=xs.getD j 0:=by
 induction xs with
 | nil=>intro j; simp [le]
 | cons x xs ih =>
  have hx:x < 256:=h x (by simp)
  have ih:=ih (fun y hy=>h y (by simp [hy]))
  intro j
  cases j with
  | zero=>simp only [le,B8_zero,Nat.div_one,List.getD_cons_zero]; omega
  | succ j =>
   simp only [le,B8_succ,List.getD_cons_succ]
   rw [<- Nat.div_div_eq_div_mul,show (x + 256 * le xs) / 256=le xs by omega]
   exact ih j
theorem bit_testBit (N i:Nat):bit N i=N.testBit i:=by
 unfold bit; rw [Nat.testBit_eq_decide_div_mod_eq]
theorem bit_byte {N j k x:Nat} (hx:N / B8 j % 256=x) (hk:k < 8):bit N (8 * j + k)=decide (x / 2 ^ k % 2=1):=by
 show _=bit x k
 rw [bit_testBit,bit_testBit,<- hx,B8_pow,show (256:Nat)=2 ^ 8 from rfl,Nat.testBit_mod_two_pow,Nat.testBit_div_two_pow]
 simp [hk,Nat.add_comm]
theorem bit_ge {N i:Nat} (h:blen N <= i):bit N i=false:=by
 have h1:N < 2 ^ i:=(blen_le N i).1 h
 unfold bit
 rw [Nat.div_eq_of_lt h1]; rfl
theorem blen_lt_lt {N M:Nat} (h:blen N < blen M):N < M:=by
 rcases Nat.lt_or_ge N M with h1 | h1
 ·exact h1
 ·have:blen M <= blen N:=(blen_le M _).2 (Nat.lt_of_le_of_lt h1 (blen_lt N))
  omega
theorem bit_div (N i:Nat):N / 2 ^ i=2 * (N / 2 ^ (i + 1)) + (bit N i).toNat:=by
 rw [Nat.pow_succ,<- Nat.div_div_eq_div_mul]
 unfold bit
 generalize N / 2 ^ i=z
 by_cases h:z % 2=1
 ·simp [h]; omega
 ·simp [h]; omega
theorem lt_of_bits {N M i:Nat} (h:N / 2 ^ (i + 1)=M / 2 ^ (i + 1)) (h1:bit N i=false) (h2:bit M i=true):N < M:=by
 have e1:=bit_div N i
 have e2:=bit_div M i
 rw [h1] at e1
 rw [h2] at e2
 rcases Nat.lt_or_ge N M with h3 | h3
 ·exact h3
 ·have:=Nat.div_le_div_right (c:=2 ^ i) h3
  simp only [Bool.toNat_true,Bool.toNat_false] at e1 e2
  omega
theorem eq_of_bits {N M i:Nat} (h:N / 2 ^ (i + 1)=M / 2 ^ (i + 1)) (h1:bit N i=bit M i):N / 2 ^ i=M / 2 ^ i:=by
 rw [bit_div N i,bit_div M i,h,h1]
def GivesCmp (N M:Nat) (w:World) (e:Ending) (w':World):Prop:=e=.returned (.int .i64 (cmpI N M)) /\ Below w.heap.size w w'
theorem rcmp_calls (w:World) (p:Option Addr) (n c N:Nat) (q:Option Addr) (m d M:Nat) (hA:BitsAt w p n c N) (hB:BitsAt w q m d M) (hn:n <= 1000000000) (hm:m <= 1000000000) :
  Calls Tryz.prog 56 #[.slice p n c,.slice q m d] w (GivesCmp N M w):=by
 have hl:n=blen N:=by have:=hA.len; rwa [bitsOf_length] at this
 have hk:m=blen M:=by have:=hB.len; rwa [bitsOf_length] at this
 have HN:=Lib.hid hl
 have HM:=Lib.hid hk
 clear hl hk
 by_cases h1:n < m
 ·have HC:Hid (cmpI N M = -1):=Lib.hid (cmpI_lt (blen_lt_lt (by rw [<- HN.out,<- HM.out]; exact h1)))
  go_enter Tryz.func56,Tryz.ntmps56
  go_wp2
  go_ret
  exact ⟨by rw [HC.out]; rfl,Below.refl _ _⟩
 by_cases h2:m < n
 ·have HC:Hid (cmpI N M=1):=Lib.hid (cmpI_gt (blen_lt_lt (by rw [<- HN.out,<- HM.out]; exact h2)))
  go_enter Tryz.func56,Tryz.ntmps56
  go_wp2
  go_ret
  exact ⟨by rw [HC.out]; rfl,Below.refl _ _⟩
 obtain rfl:n=m:=by omega
 clear h1 h2
 have hlt:¬ (n:Int) < n:=by omega
 go_enter Tryz.func56,Tryz.ntmps56
 go_wp2
 go_loopw [5] (fun i wr=>∃ k:Nat,k <= n /\ i=.int .i64 ((k:Int) - 1) /\ Hid (N / 2 ^ k=M / 2 ^ k) /\ Below w.heap.size w wr) (fun i _=>(intOf i + 1).toNat)
 case atStart =>
  refine ⟨n,Nat.le_refl _,rfl,Lib.hid ?_,Below.refl _ _⟩
  rw [Nat.div_eq_of_lt ((blen_le N n).1 (by rw [<- HN.out]; exact Nat.le_refl _)),Nat.div_eq_of_lt ((blen_le M n).1 (by rw [<- HM.out]; exact Nat.le_refl _))]
 case round =>
  obtain ⟨k,hk,rfl,hq,hbw⟩:=hrel
  cases k with
  | zero =>
   have HC:Hid (cmpI N M=0):=Lib.hid (by
    have:=hq.out
    rw [Nat.pow_zero,Nat.div_one,Nat.div_one] at this
    rw [this]; exact cmpI_eq _)
   go_wp2
   go_ret
   exact ⟨by rw [HC.out]; rfl,hbw⟩
  | succ k =>
   obtain ⟨b,off,rfl,hb,hc⟩:=hA.pos (by omega)
   obtain ⟨b2,off2,rfl,hb2,hc2⟩:=hB.pos (by omega)
   obtain ⟨x,hx⟩:∃ x,bit N k=x:=⟨_,rfl⟩
   obtain ⟨y,hy⟩:∃ y,bit M k=y:=⟨_,rfl⟩
   have hcx:wr.cell? ⟨b,off + k,none⟩=some (.bool x):=by
    rw [(bcell hbw).1 _ _ hb]; exact hc k x (by rw [bitsOf_get (by rw [<- HN.out]; omega),hx])
   have hcy:wr.cell? ⟨b2,off2 + k,none⟩=some (.bool y):=by
    rw [(bcell hbw).1 _ _ hb2]; exact hc2 k y (by rw [bitsOf_get (by rw [<- HM.out]; omega),hy])
   have HX:=Lib.hid hx
   have HY:=Lib.hid hy
   have e1:(((k + 1:Nat):Int) - 1)=(k:Int):=by omega
   simp only [e1]
   clear hc hc2 hx hy e1
   cases x <;> cases y
   ·go_wp2
    go_quiet (fail)
    go_wp2
    go_roundw
    case rel=>exact ⟨k,by omega,rfl,Lib.hid (eq_of_bits hq.out (by rw [HX.out,HY.out])),below_drewN hbw _⟩
    case measure=>simp [intOf]
   ·have HC:Hid (cmpI N M = -1):=Lib.hid (cmpI_lt (lt_of_bits hq.out HX.out HY.out))
    go_wp2
    go_quiet (fail)
    go_wp2
    go_ret
    exact ⟨by rw [HC.out]; rfl,below_drewN hbw _⟩
   ·have HC:Hid (cmpI N M=1):=Lib.hid (cmpI_gt (lt_of_bits hq.out.symm HY.out HX.out))
    go_wp2
    go_quiet (fail)
    go_wp2
    go_ret
    exact ⟨by rw [HC.out]; rfl,below_drewN hbw _⟩
   ·go_wp2
    go_quiet (fail)
    go_wp2
    go_roundw
    case rel=>exact ⟨k,by omega,rfl,Lib.hid (eq_of_bits hq.out (by rw [HX.out,HY.out])),below_drewN hbw _⟩
    case measure=>simp [intOf]
theorem at_calls (w:World) (p:Option Addr) (n c N i:Nat) (h:BitsAt w p n c N) (hi:i <= 1000000000000) :
  Calls Tryz.prog 166 #[.slice p n c,.int .i64 i] w fun e w'=>e=.returned (.int .i64 ((bit N i).toNat:Nat)) /\ w=w':=by
 have hl:n=blen N:=by have:=h.len; rwa [bitsOf_length] at this
 have HN:=Lib.hid hl
 clear hl
 by_cases h1:i < n
 ·obtain ⟨b,off,rfl,hb,hc⟩:=h.pos (by omega)
  obtain ⟨x,hx⟩:∃ x,bit N i=x:=⟨_,rfl⟩
  have hcx:w.cell? ⟨b,off + i,none⟩=some (.bool x):=hc i x (by rw [bitsOf_get (by rw [<- HN.out]; omega),hx])
  rw [hx]
  clear hc hx
  cases x
  ·go_enter Tryz.func166,Tryz.ntmps166
   go_wp2
   go_ret
   exact ⟨rfl,rfl⟩
  ·go_enter Tryz.func166,Tryz.ntmps166
   go_wp2
   go_ret
   exact ⟨rfl,rfl⟩
 ·rw [bit_ge (by rw [<- HN.out]; omega)]
  go_enter Tryz.func166,Tryz.ntmps166
  go_wp2
  go_ret
  exact ⟨rfl,rfl⟩
end Go.Proofs.YtdebccghjbfgdaaGreatDoor
