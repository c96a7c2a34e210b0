/- The document's number as bytes. -/
import Derived.Test.YtdebccghjbfgdaaGreatDoorNatK
import Derived.Test.YtdebccghjbfgdaaGreatDoorNatN
set_option maxRecDepth 1000000
set_option maxHeartbeats 16000000
set_option linter.unusedSimpArgs false
set_option linter.unusedVariables false
namespace Go.Proofs.YtdebccghjbfgdaaGreatDoor
open Go Go.RowKit Go.Proofs.YtdebccghjbfgdaaGreatDoor.Flow
def bit (N i:Nat):Bool:=decide (N / 2 ^ i % 2=1)
def bitsOf (N:Nat):List Bool:=(List.range (blen N)).map (bit N)
def bitsUp (N k:Nat):List Bool:=(List.range k).map (bit N)
theorem bitsUp_succ (N k:Nat):bitsUp N (k + 1)=bitsUp N k ++ [bit N k]:=by simp [bitsUp,List.range_succ]
theorem bitsUp_length (N k:Nat):(bitsUp N k).length=k:=by simp [bitsUp]
theorem bitsOf_length (N:Nat):(bitsOf N).length=blen N:=by simp [bitsOf]
theorem bitsOf_get {N i:Nat} (h:i < blen N):(bitsOf N)[i]? = some (bit N i):=by simp [bitsOf,h]
theorem blen_gt {N k:Nat} (h:0 < N / 2 ^ k):k < blen N:=by
 rcases Nat.lt_or_ge k (blen N) with h1 | h1
 ·exact h1
 ·rw [Nat.div_eq_of_lt ((blen_le N k).1 h1)] at h; omega
theorem blen_eq {N k:Nat} (h:N / 2 ^ k=0) (hk:k <= blen N):k=blen N:=by
 refine Nat.le_antisymm hk ((blen_le N k).2 ?_)
 exact (Nat.div_eq_zero_iff.1 h).resolve_left (by have:=Nat.pow_pos (n:=k) (show 0 < 2 by omega); omega)
theorem mod_bit (N k:Nat):N % 2 ^ (k + 1)=N % 2 ^ k + (if bit N k then 2 ^ k else 0):=by
 rw [Nat.pow_succ,Nat.mod_mul]
 unfold bit
 have:N / 2 ^ k % 2 < 2:=Nat.mod_lt _ (by omega)
 by_cases h:N / 2 ^ k % 2=1
 ·simp [h]
 ·have:N / 2 ^ k % 2=0:=by omega
  simp [this]
structure BRow (w:World) (p:Option Addr) (n c:Nat) (xs:List Bool):Prop where
 len:n=xs.length
 cap:n <= c
 max:c <= 9223372036854775807
 at_:(p=none /\ n=0 /\ c=0) ∨ ∃ b off,p=some ⟨b,off,none⟩ /\ b < w.heap.size /\ ∀ (i:Nat) (x:Bool),xs[i]? = some x -> w.cell? ⟨b,off + i,none⟩=some (.bool x)
theorem BRow.below {w w':World} {p:Option Addr} {n c:Nat} {xs:List Bool} (h:BRow w p n c xs) (hb:Below w.heap.size w w'):BRow w' p n c xs:=by
 refine ⟨h.len,h.cap,h.max,?_⟩
 rcases h.at_ with h1 | ⟨b,off,h1,h2,h3⟩
 ·exact .inl h1
 ·refine .inr ⟨b,off,h1,Nat.lt_of_lt_of_le h2 hb.size,fun i x hx=>?_⟩
  rw [hb.cell (p:=⟨b,off + i,none⟩) h2]
  exact h3 i x hx
theorem BRow.nil (w:World):BRow w none 0 0 []:=⟨rfl,Nat.le_refl _,by omega,.inl ⟨rfl,rfl,rfl⟩⟩
theorem BRow.pos {w:World} {p:Option Addr} {n c:Nat} {xs:List Bool} (h:BRow w p n c xs) (hn:0 < n) :
  ∃ b off,p=some ⟨b,off,none⟩ /\ b < w.heap.size /\ ∀ (i:Nat) (x:Bool),xs[i]? = some x -> w.cell? ⟨b,off + i,none⟩=some (.bool x):=by
 rcases h.at_ with h1 | h1
 ·omega
 ·exact h1
theorem BRow.of_owns {w:World} {base:Nat} {e:TypeId} {v:Value} {n:Nat} {ws:List Bool} (h:w.ownsRow base e 1 v n (ws.map Value.bool)) :
  ∃ q d,v=.slice q n d /\ BRow w q n d ws /\ New base q:=by
 have hl:ws.length=n:=by have:=h.1; simpa using this
 rcases h.2 with ⟨rfl,rfl⟩ | ⟨g,cap,cur,rfl,hb,hg,hnc,hcm,hcs,htake⟩
 ·have:ws=[]:=List.eq_nil_of_length_eq_zero hl
  subst this
  exact ⟨none,0,rfl,BRow.nil _,New.none _⟩
 ·refine ⟨_,cap,rfl,⟨hl.symm,hnc,by simpa [maxLen] using hcm,.inr ⟨g,0,rfl,(Array.getElem?_eq_some_iff.1 hg).1,fun i x hx=>?_⟩⟩,fun q hq=>by cases hq; exact hb⟩
  rw [Nat.zero_add,cell_of_row w g i cur e (0,0) hg]
  have hi:i < n:=by rw [<- hl]; exact (List.getElem?_eq_some_iff.1 hx).1
  have:(cur.toList.take (n * 1))[i]? = some (.bool x):=by rw [htake]; simp [hx]
  rw [List.getElem?_take,if_pos (by omega)] at this
  simpa using this
theorem Tryz.info_bool:(Tryz.prog.info? 4).map (fun i=>(i.zero,i.size,i.bytes))=some (some (.bool false),1,1):=by kernel_rfl
def BitsAt (w:World) (p:Option Addr) (n c N:Nat):Prop:=BRow w p n c (bitsOf N)
theorem BitsAt.below {w w':World} {p:Option Addr} {n c N:Nat} (h:BitsAt w p n c N) (hb:Below w.heap.size w w'):BitsAt w' p n c N:=BRow.below h hb
theorem bits_len {w:World} {q:Option Addr} {m d N:Nat} (k:BitsAt w q m d N):m=blen N:=by have:=k.len; rwa [bitsOf_length] at this
def GivesBits (N:Nat) (w:World) (e:Ending) (w':World):Prop:=∃ p n c,e=.returned (.slice p n c) /\ BitsAt w' p n c N /\ Below w.heap.size w w' /\ New w.heap.size p
theorem small_calls (N:Nat) (w:World) (hN:N < 18446744073709551616) :
  Calls Tryz.prog 26 #[.int .u64 N] w (GivesBits N w):=by
 obtain ⟨i0,hi,hz0,hz1,hz2⟩:=info_parts Tryz.info_bool
 have h64:blen N <= 64:=(blen_le N 64).2 hN
 have hown:=World.ownsRow_made w (base:=w.heap.size) (e := 4) (size:=1) #[] 0 (Nat.le_refl _) (by simp [maxLen]) (by simp)
 go_enter Tryz.func26,Tryz.ntmps26
 go_wp2
 go_loopw [0,3] (fun u v wr=>∃ k x:Nat,k <= blen N /\ Hid (N / 2 ^ k=x) /\ u=.int .u64 x /\ x < 18446744073709551616 /\ wr.ownsRow w.heap.size 4 1 v k ((bitsUp N k).map Value.bool) /\ Below w.heap.size w wr) (fun u _ _=>(intOf u).toNat)
 case atStart =>
  refine ⟨0,N,Nat.zero_le _,Lib.hid (by simp),rfl,hN,?_,(Below.refl _ _).alloc (Nat.le_refl _) _⟩
  simpa [bitsUp] using hown
 case round =>
  obtain ⟨k,x,hk,hx,rfl,hx1,ho,hbw⟩:=hrel
  have hh:Hid (N / 2 ^ (k + 1)=x / 2):=Lib.hid (by rw [Nat.pow_succ,<- Nat.div_div_eq_div_mul,hx.out])
  have hbt:bit N k=((x:Int) % 2 == 1):=by
   unfold bit; rw [hx.out,Bool.eq_iff_iff]; simp; omega
  have HB:=Lib.hid hbt
  clear hbt
  go_wp2_with (at_builtin; refine wpList_append_own _ rfl _ _ 28 rfl w.heap.size 4 i0 (.bool false) 1 1 Tryz.underlying28 hi hz0 hz1 hz2 rfl (by decide) _ _ _ rfl (ho.alloc _) ⟨wr.heap.size,0,none⟩ 1 1 [.bool ((x:Int) % 2 == 1)] rfl rfl ?c1 ?c2 ?c3 ?c4 ?c5 ?_)
  case c1 =>
   intro j u hj
   match j,hj with
   | 0,hj=>simp at hj; subst hj; simp [Addr.add]
  case c2=>intro u hu; simp at hu; subst hu; rfl
  case c3=>unfold maxLen; omega
  case c4=>omega
  case c5=>have:=hbw.size; simp; omega
  ·intro v' w1 ho' hg _
   have hx0:0 < x:=by assumption
   have hkl:k < blen N:=blen_gt (by rw [hx.out]; exact hx0)
   have hbw1:Below w.heap.size w w1:=(hbw.alloc hbw.size _).grown hg (by have:=hbw.size; simp; omega) (fun j hj=>(ho.lt j hj).1)
   have ho1:w1.ownsRow w.heap.size 4 1 v' (k + 1) ((bitsUp N (k + 1)).map Value.bool):=by
    rw [bitsUp_succ,List.map_append,HB.out]; exact ho'
   clear ho' hg ho
   go_wp2
   go_roundw
   case rel=>exact ⟨k + 1,x / 2,by omega,hh,by simp [Int.natCast_ediv],by omega,ho1,hbw1⟩
   case measure=>simp [intOf]; omega
  ·have hx0:¬ 0 < x:=by assumption
   have hkl:k=blen N:=blen_eq (by rw [hx.out]; omega) hk
   subst hkl
   obtain ⟨q,d,rfl,hrow,hq⟩:=BRow.of_owns ho
   go_ret
   exact ⟨q,blen N,d,rfl,hrow,hbw,hq⟩
def BytesVal (bs:List Nat) (B:Nat) (v:Value) (w:World):Prop:=∃ q n d,v=.slice q n d /\ Row w .u8 q n d bs /\ New B q
theorem BytesVal.below {bs:List Nat} {B:Nat} {v:Value} {w w':World} (h:BytesVal bs B v w) (hb:Below w.heap.size w w'):BytesVal bs B v w' :=
 let ⟨q,n,d,h1,h2,h3⟩:=h
 ⟨q,n,d,h1,h2.below hb,h3⟩
theorem least_calls (w:World) (p:Option Addr) (n c N:Nat) (h:NatAt w p n c N) (hn:n < 1000000) (hN:blen N <= 1000000) :
  Calls Tryz.prog 74 #[.agg #[.slice p n c]] w fun e w'=>∃ v,e=.returned v /\ BytesVal (beOf N (bsize N)) w.heap.size v w' /\ Below w.heap.size w w':=by
 have hbx:=Box1.mk1 w (.slice p n c) 36
 have hbs:bsize N <= 1000000:=by unfold bsize; omega
 go_enter Tryz.func74,Tryz.ntmps74
 go_wp2
 refine wp_region_duties (by kernel_rfl) (by kernel_rfl)
  [some (.agg #[.slice p n c]),some (.agg #[.slice p n c]),none,none,none,none,none,none,none]
  [false,false,true,true,true,true,true,true,true] rfl
  (fun w1 w2=>Below w1.heap.size w1 w2)
  (fun _ w'=>Box1 w w' (.slice p n c))
  (fun i v w'=>match i with
   | 2=>v=.int .i64 (bsize N:Nat)
   | 3 | 4=>∃ u,v=.tuple #[u,.int .i64 0] /\ BytesVal (beOf N (bsize N)) w.heap.size u w'
   | 5 | 7=>BytesVal (beOf N (bsize N)) w.heap.size v w'
   | _=>v=.int .i64 0)
  ?_ (hbx.below (Below.refl _ _).drew (Nat.le_refl _)) ?_ ?_
 ·intro i v w1 w2 hf hb
  split at hf
  ·exact hf
  ·exact hf.imp fun u h=>⟨h.1,h.2.below hb⟩
  ·exact hf.imp fun u h=>⟨h.1,h.2.below hb⟩
  ·exact hf.below hb
  ·exact hf.below hb
  ·exact hf
 ·simp only [Duties,Nat.reduceAdd]
  refine ⟨?_,?_,?_,?_,?_,?_,?_,?_,?_,trivial⟩
  case refine_3 =>
   intro D sp w' hD hW hdp hbx'
   (with_reducible refine asked_call (w1:=w') (f := 120) (args:=#[.agg #[.slice p n c]]) ?_ ?_ ?_)
   ·simp only [Region.wanted]
   ·simp [Act.eval,Act.put,go_sem]
   ·refine (size_calls w' p n c N (h.below hbx'.bel) hn (by omega)).mono ?_
    rintro e w2 ⟨rfl,hb⟩
    exact ⟨_,rfl,hb,rfl,hbx'.later hb⟩
  case refine_4 =>
   intro D sp w' hD hW hdp hbx'
   have h2:sp 2=.int .i64 (bsize N:Nat):=(hdp 2 (mq (by kernel_rfl))).2
   (with_reducible refine asked_call (w1:=w') (f := 119) (args:=#[.agg #[.slice p n c],.int .i64 (bsize N:Nat)]) ?_ ?_ ?_)
   ·simp only [Region.wanted]
   ·simp [Act.eval,Act.put,go_sem,h2]
   ·refine (bytes_calls w' p n c N (bsize N:Nat) (h.below hbx'.bel) hn (by omega) (by omega) (by omega)).mono ?_
    rintro e w2 ⟨q,m,d,k,rfl,hrow,hk,hb,hq⟩
    have e1:¬ ((bsize N:Nat):Int) < 0:=by omega
    have e2:¬ ((bsize N:Nat):Int) < bsize N:=by omega
    rw [if_neg e1,if_neg e2] at hrow hk
    rw [hk]
    exact ⟨_,rfl,hb,⟨_,rfl,q,m,d,rfl,hrow,hq.mono hbx'.bel.size⟩,hbx'.later hb⟩
  case refine_5 =>
   intro D sp w' hD hW hdp hbx'
   have hx:∃ u,sp 3=.tuple #[u,.int .i64 0] /\ BytesVal (beOf N (bsize N)) w.heap.size u w':=(hdp 3 (mq (by kernel_rfl))).2
   (with_reducible refine Exists.elim hx fun u hu=>?_)
   have h1:=hu.1
   have h2:=hu.2
   (with_reducible refine asked_value (w1:=w') (v:=.tuple #[u,.int .i64 0]) ?_ ?_ ?_)
   ·simp only [Region.wanted]
   ·simp [execOp,Act.eval,Act.put,go_sem,h1]
   ·exact ⟨Below.refl _ _,⟨u,rfl,h2⟩,hbx'⟩
  case refine_6 =>
   intro D sp w' hD hW hdp hbx'
   have hx:∃ u,sp 4=.tuple #[u,.int .i64 0] /\ BytesVal (beOf N (bsize N)) w.heap.size u w':=(hdp 4 (mq (by kernel_rfl))).2
   (with_reducible refine Exists.elim hx fun u hu=>?_)
   have h1:=hu.1
   have h2:=hu.2
   (with_reducible refine asked_value (w1:=w') (v:=u) ?_ ?_ ?_)
   ·simp only [Region.wanted]
   ·simp [execOp,Act.eval,Act.put,go_sem,h1]
   ·exact ⟨Below.refl _ _,h2,hbx'⟩
  case refine_7 =>
   intro D sp w' hD hW hdp hbx'
   have hx:∃ u,sp 4=.tuple #[u,.int .i64 0] /\ BytesVal (beOf N (bsize N)) w.heap.size u w':=(hdp 4 (mq (by kernel_rfl))).2
   (with_reducible refine Exists.elim hx fun u hu=>?_)
   have h1:=hu.1
   have h2:=hu.2
   (with_reducible refine asked_value (w1:=w') (v:=.int .i64 0) ?_ ?_ ?_)
   ·simp only [Region.wanted]
   ·simp [execOp,Act.eval,Act.put,go_sem,h1]
   ·exact ⟨Below.refl _ _,rfl,hbx'⟩
  case refine_8 =>
   intro D sp w' hD hW hdp hbx'
   have h2:BytesVal (beOf N (bsize N)) w.heap.size (sp 5) w':=(hdp 5 (mq (by kernel_rfl))).2
   (with_reducible refine asked_value (w1:=w') (v:=sp 5) ?_ ?_ ?_)
   ·simp only [Region.wanted]
   ·simp [execOp,Act.eval,Act.put,go_sem]
   ·exact ⟨Below.refl _ _,h2,hbx'⟩
  case refine_9 =>
   intro D sp w' hD hW hdp hbx'
   have h2:sp 6=.int .i64 0:=(hdp 6 (mq (by kernel_rfl))).2
   (with_reducible refine asked_value (w1:=w') (v:=.int .i64 0) ?_ ?_ ?_)
   ·simp only [Region.wanted]
   ·simp [execOp,Act.eval,Act.put,go_sem,h2]
   ·exact ⟨Below.refl _ _,rfl,hbx'⟩
  all_goals
   intro D sp w' hD hW hdp hbx'
   have c0:=hbx'.c0
   simp [asked,Region.wanted,Oper.gives,execOp,Act.eval,Act.put,go_sem,c0]
 ·intro sp w' hsp hbx'
  have h7:BytesVal (beOf N (bsize N)) w.heap.size (sp 7) w':=hsp 7 rfl
  clear hsp
  simp only [frameOf,Nat.reduceAdd]
  generalize sp 7=u at *
  go_simp
  go_wp2
  go_ret
  exact ⟨_,rfl,h7,hbx'.bel⟩
theorem leOf_cons (V n:Nat):leOf V (n + 1)=(V % 256) :: leOf (V / 256) n:=by
 simp [leOf,List.range_succ_eq_map,Function.comp_def,B8_succ,B8_zero,Nat.div_div_eq_div_mul]
theorem leOf_le:∀ (xs:List Nat),Bytes8 xs -> leOf (le xs) xs.length=xs
 | [],_=>by simp [leOf]
 | x :: xs,h=>by
  have hx:x < 256:=h x (by simp)
  have e:=leOf_le xs (fun y hy=>h y (by simp [hy]))
  rw [List.length_cons,leOf_cons]
  simp only [le]
  rw [show (x + 256 * le xs) % 256=x by omega,show (x + 256 * le xs) / 256=le xs by omega,e]
theorem le_set:∀ (xs:List Nat) (q d:Nat),q < xs.length -> le (xs.set q (xs.getD q 0 + d))=le xs + B8 q * d
 | x :: xs,0,d,_=>by simp [le,B8_zero]; omega
 | x :: xs,q + 1,d,h=>by
  have e:=le_set xs q d (by simpa using h)
  simp only [List.set_cons_succ,le,List.getD_cons_succ,B8_succ]
  rw [e,Nat.mul_add,Nat.mul_assoc]; omega
theorem leOf_get {V n j:Nat} (h:j < n):(leOf V n)[j]? = some (V / B8 j % 256):=by simp [leOf,h]
theorem leOf_getD {V n j:Nat} (h:j < n):(leOf V n).getD j 0=V / B8 j % 256:=by rw [List.getD_eq_getElem?_getD,leOf_get h]; rfl
theorem leOf_bit {M k n:Nat} (hM:M < 2 ^ k) (hk:k / 8 < n) :
  M / B8 (k / 8) % 256 < 2 ^ (k % 8) /\ (leOf M n).set (k / 8) (M / B8 (k / 8) % 256 + 2 ^ (k % 8))=leOf (M + 2 ^ k) n:=by
 have e2:2 ^ k=B8 (k / 8) * 2 ^ (k % 8):=by
  rw [B8_pow,<- Nat.pow_add,Nat.div_add_mod]
 have hlt:M / B8 (k / 8) < 2 ^ (k % 8):=by
  rw [Nat.div_lt_iff_lt_mul (B8_pos _),Nat.mul_comm,<- e2]; exact hM
 have hp:2 ^ (k % 8) <= 2 ^ 7:=Nat.pow_le_pow_right (by omega) (by omega)
 have hmod:M / B8 (k / 8) % 256 < 2 ^ (k % 8):=Nat.lt_of_le_of_lt (Nat.mod_le _ _) hlt
 refine ⟨hmod,?_⟩
 have hset:=le_set (leOf M n) (k / 8) (2 ^ (k % 8)) (by rw [leOf_length]; exact hk)
 rw [leOf_getD hk,<- e2] at hset
 have hM8:M < B8 n:=by
  rw [B8_pow]
  exact Nat.lt_of_lt_of_le hM (Nat.pow_le_pow_right (by omega) (by omega))
 rw [le_leOf,Nat.mod_eq_of_lt hM8] at hset
 have hb:Bytes8 ((leOf M n).set (k / 8) (M / B8 (k / 8) % 256 + 2 ^ (k % 8))):=by
  intro y hy
  rcases List.mem_or_eq_of_mem_set hy with h | rfl
  ·exact leOf_bytes M n y h
  ·omega
 have:=leOf_le _ hb
 rw [hset,List.length_set,leOf_length] at this
 exact this.symm
theorem beOf_bit {M k n j:Nat} (hM:M < 2 ^ k) (hk:k / 8 < n) (hj:j=n - 1 - k / 8) :
  (beOf M n).set j (M / B8 (k / 8) % 256 + 2 ^ (k % 8))=beOf (M + 2 ^ k) n:=by
 subst hj
 have:=set_reverse (leOf M n) (k / 8) (M / B8 (k / 8) % 256 + 2 ^ (k % 8)) (by rw [leOf_length]; exact hk)
 rw [leOf_length] at this
 unfold beOf
 rw [this,(leOf_bit hM hk).2]
theorem beOf_get {M n j q:Nat} (hq:q < n) (hj:j=n - 1 - q):(beOf M n)[j]? = some (M / B8 q % 256):=by
 subst hj
 unfold beOf
 rw [List.getElem?_reverse (by rw [leOf_length]; omega),leOf_length,show n - 1 - (n - 1 - q)=q by omega,leOf_get hq]
theorem beOf_zero (n:Nat):beOf 0 n=List.replicate n 0:=by
 unfold beOf leOf
 apply List.ext_getElem (by simp)
 intro i h1 h2
 simp
theorem beOf_length (M n:Nat):(beOf M n).length=n:=by simp [beOf,leOf_length]
def GivesRB (N s:Nat) (w:World) (e:Ending) (w':World):Prop:=∃ v,e=.returned (.tuple #[v,.bool (decide (bsize N <= s))]) /\
 BytesVal (if bsize N <= s then beOf N s else []) w.heap.size v w' /\ Below w.heap.size w w'
theorem rbytes_calls (w:World) (p:Option Addr) (n c N s:Nat) (h:BitsAt w p n c N) (hs:s <= 1000000) (hN:blen N <= 1000000000) :
  Calls Tryz.prog 73 #[.slice p n c,.int .i64 s] w (GivesRB N s w):=by
 have hl:n=blen N:=by have:=h.len; rwa [bitsOf_length] at this
 by_cases h2:s < bsize N
 ·have hd:decide (bsize N <= s)=false:=by simp; omega
  have h3:(s:Int) < ((n:Int) + 7) / 8:=by unfold bsize at h2; omega
  have hw7:IntKind.i64.wrap ((n:Int) + 7)=(n:Int) + 7:=IntWalk.i64_in _ (by omega)
  have hw8:IntKind.i64.wrap (((n:Int) + 7) / 8)=((n:Int) + 7) / 8:=IntWalk.i64_in _ (by omega)
  have hw9:wrap64 (((n:Int) + 7).tdiv 8)=((n:Int) + 7) / 8:=by
   rw [Int.tdiv_eq_ediv_of_nonneg (by omega)]; exact IntWalk.wrap64_in _ (by omega)
  have H2:=Lib.hid h2
  have HD:=Lib.hid hd
  clear hl h2 hd
  go_enter Tryz.func73,Tryz.ntmps73
  go_wp2
  go_ret2
  refine ⟨.slice none 0 0,by simp [HD.out],?_,Below.refl _ _⟩
  rw [if_neg (by have:=H2.out; omega)]
  exact ⟨none,0,0,rfl,Row.nil _ _,New.none _⟩
 ·have hd:decide (bsize N <= s)=true:=by simp; omega
  have hmk:=make_u8 s (by omega)
  have hsn:n <= 8 * s:=by unfold bsize at h2; omega
  have h3:¬ (s:Int) < ((n:Int) + 7) / 8:=by omega
  have hw7:IntKind.i64.wrap ((n:Int) + 7)=(n:Int) + 7:=IntWalk.i64_in _ (by omega)
  have hw8:IntKind.i64.wrap (((n:Int) + 7) / 8)=((n:Int) + 7) / 8:=IntWalk.i64_in _ (by omega)
  have H2:=Lib.hid h2
  have HD:=Lib.hid hd
  have HL:=Lib.hid hl
  have hn9:n <= 1000000000:=by omega
  clear hl h2 hd
  go_enter Tryz.func73,Tryz.ntmps73
  go_wp2
  go_loopw [19] (fun i wr=>∃ k:Nat,k <= n /\ i=.int .i64 k /\ w.heap.size < wr.heap.size /\ Below w.heap.size w wr /\ Blk wr w.heap.size 5 .u8 (beOf (N % 2 ^ k) s)) (fun i _=>n - (intOf i).toNat)
  case atStart =>
   refine ⟨0,by omega,rfl,by simp,(Below.refl _ _).alloc (Nat.le_refl _) _,?_⟩
   have:=Blk.zeros w 5 .u8 s
   rw [Nat.pow_zero,Nat.mod_one,beOf_zero]
   exact this
  case round =>
   obtain ⟨k,hk,rfl,hsz,hbw,hblk⟩:=hrel
   by_cases hkn:k < n
   ·obtain ⟨b,off,rfl,hb,hc⟩:=h.pos (by omega)
    obtain ⟨x,hx⟩:∃ x,bit N k=x:=⟨_,rfl⟩
    have hci:wr.cell? ⟨b,off + k,none⟩=some (.bool x):=by
     rw [(bcell hbw).1 _ _ hb]
     exact hc k x (by rw [bitsOf_get (by rw [<- HL.out]; exact hkn),hx])
    have HX:=Lib.hid hx
    clear hc hx
    go_wp2
    ·have hxt:x=true:=by assumption
     have HB:Hid (N % 2 ^ (k + 1)=N % 2 ^ k + 2 ^ k):=Lib.hid (by rw [mod_bit,HX.out,if_pos hxt])
     have hMk:N % 2 ^ k < 2 ^ k:=Nat.mod_lt _ (Nat.pow_pos (by omega))
     obtain ⟨q,hq⟩:∃ q,k / 8=q:=⟨_,rfl⟩
     obtain ⟨r,hr⟩:∃ r,k % 8=r:=⟨_,rfl⟩
     have hqs:q < s:=by omega
     obtain ⟨j,hj⟩:∃ j,s - 1 - q=j:=⟨_,rfl⟩
     obtain ⟨z,hz⟩:∃ z,2 ^ r=z:=⟨_,rfl⟩
     have hset:=beOf_bit (n:=s) hMk (by omega) (j:=j) (by omega)
     have hget:=beOf_get (M:=N % 2 ^ k) hqs hj.symm
     have hlt:=(leOf_bit (n:=s) hMk (by omega)).1
     rw [hq,hr] at hset hlt
     obtain ⟨d,hd⟩:∃ d,N % 2 ^ k / B8 q % 256=d:=⟨_,rfl⟩
     rw [hd] at hset hget hlt
     rw [hz] at hset hlt
     have hr8:r < 8:=by omega
     have hz8:z <= 128:=by rw [<- hz]; exact Nat.pow_le_pow_right (show 0 < 2 by omega) (show r <= 7 by omega)
     have t1:IntKind.i64.wrap ((k:Int) / 8)=(q:Int):=by rw [IntWalk.i64_in _ (by omega)]; omega
     have t2:(k:Int).tmod 8=(r:Int):=by rw [Int.tmod_eq_emod_of_nonneg (by omega)]; omega
     have t4:IntKind.i64.wrap ((s:Int) - 1)=(s:Int) - 1:=IntWalk.i64_in _ (by omega)
     have t5:IntKind.i64.wrap ((s:Int) - 1 - q)=(j:Nat):=by
      rw [IntWalk.i64_in _ (by omega)]; omega
     have t6:(j:Int) < s:=by omega
     have t7:j < s:=by omega
     have t8:IntKind.u8.wrap ((d:Int) + z)=(d:Int) + z:=IntWalk.u8_in _ (by omega)
     have t9:IntKind.u8.wrap ((2:Int) ^ r)=z:=by
      rw [show ((2:Int) ^ r)=(z:Nat) by rw [<- hz,Int.natCast_pow]; rfl]
      exact IntWalk.u8_in _ (by omega)
     clear hq hr hd hj hMk
     have HJ:=Lib.hid hz
     clear hz
     refine wp_region_duties (by kernel_rfl) (by kernel_rfl)
      [some (.slice (some ⟨w.heap.size,0,none⟩) s s),some (.int .i64 s),some (.int .i64 ((s:Int) - 1)),some (.int .i64 k),some (.int .i64 (q:Nat)),some (.int .i64 (j:Nat)),some (.pointer (some ⟨w.heap.size,j,none⟩)),some (.int .u8 (d:Nat)),
       some (.int .i64 k),some (.int .i64 (r:Nat)),some (.int .u8 (z:Nat)),some (.int .u8 (d + z:Nat)),some (.pointer (some ⟨w.heap.size,j,none⟩)),none]
      [false,false,false,false,false,false,false,false,false,false,false,false,false,true] rfl
      (fun _ _=>True)
      (fun D w'=>Below w.heap.size w w' /\ w.heap.size < w'.heap.size /\ Blk w' w.heap.size 5 .u8 (if D 13 then beOf (N % 2 ^ k + 2 ^ k) s else beOf (N % 2 ^ k) s))
      (fun _ _ _=>True)
      (fun _ _ _ _ h _=>h) ⟨hbw.trans ((Below.refl _ _).drew.mono (Nat.le_refl _)),hsz,hblk⟩ ?_ ?_
     ·simp only [Duties,Nat.reduceAdd]
      refine ⟨?_,?_,?_,?_,?_,?_,?_,?_,?_,?_,?_,?_,?_,?_,trivial⟩
      case refine_8 =>
       intro D sp w' hD hW hdp ⟨hb',hsz',hblk'⟩
       have h13:D 13=false:=hW 13 (mq (by kernel_rfl))
       rw [h13] at hblk'
       simp only [Bool.false_eq_true,if_false] at hblk'
       have hcl:w'.cell? ⟨w.heap.size,j,none⟩=some (.int .u8 (d:Nat)):=hblk'.cell hget
       simp [asked,Region.wanted,Oper.gives,execOp,Act.eval,Act.put,go_sem,hcl]
      case refine_14 =>
       intro D sp w' hD hW hdp ⟨hb',hsz',hblk'⟩
       rw [hD] at hblk'
       simp only [Bool.false_eq_true,if_false] at hblk'
       have hcl:w'.cell? ⟨w.heap.size,j,none⟩=some (.int .u8 (d:Nat)):=hblk'.cell hget
       have hfr:=hblk'.free j
       (with_reducible refine asked_skip (w1:=w'.setCell ⟨w.heap.size,j,none⟩ (.int .u8 (d + z:Nat))) ?_ ?_ ?_)
       ·simp only [Region.wanted]
       ·simp [execOp,Act.eval,Act.put,go_sem,hcl,hfr]
       ·refine ⟨trivial,trivial,hb'.setCell (Nat.le_refl _) _,by simpa using hsz',?_⟩
        simp only [decide_true,Bool.or_true,if_true]
        rw [<- hset]
        exact hblk'.set _ _
      all_goals
       intro D sp w' hD hW hdp ⟨hb',hsz',hblk'⟩
       simp [asked,Region.wanted,Oper.gives,execOp,Act.eval,Act.put,go_sem,t1,t2,t4,t5,t6,t8,t9]
     ·intro sp w' hsp ⟨hb',hsz',hblk'⟩
      have hblk2:Blk w' w.heap.size 5 .u8 (beOf (N % 2 ^ k + 2 ^ k) s):=hblk'
      clear hblk' hsp t1 t2 t4 t5 t6 t8 t9
      simp only [frameOf,Nat.reduceAdd]
      go_simp
      go_wp2
      go_roundw
      case rel=>exact ⟨k + 1,by omega,by go_num,hsz',hb',by rw [HB.out]; exact hblk2⟩
      case measure=>simp [intOf]; omega
    ·have hxt:x=false:=by assumption
     have HB:Hid (N % 2 ^ (k + 1)=N % 2 ^ k):=Lib.hid (by rw [mod_bit,HX.out,if_neg (by simp [hxt]),Nat.add_zero])
     go_roundw
     case rel=>exact ⟨k + 1,by omega,by go_num,hsz,hbw,by rw [HB.out]; exact hblk⟩
     case measure=>simp [intOf]; omega
   ·have HK:Hid (k=n):=Lib.hid (by omega)
    go_wp2
    go_ret2
    refine ⟨.slice (some ⟨w.heap.size,0,none⟩) s s,by simp [HD.out],?_,hbw⟩
    rw [if_pos (by have:=H2.out; omega)]
    have e:N % 2 ^ k=N:=Nat.mod_eq_of_lt ((blen_le N k).1 (by rw [HK.out,HL.out]; exact Nat.le_refl _))
    rw [e] at hblk
    exact ⟨_,s,s,rfl,hblk.row (by rw [beOf_length]) (Nat.le_refl _) (by omega),fun q hq=>by cases hq; exact Nat.le_refl _⟩
end Go.Proofs.YtdebccghjbfgdaaGreatDoor
