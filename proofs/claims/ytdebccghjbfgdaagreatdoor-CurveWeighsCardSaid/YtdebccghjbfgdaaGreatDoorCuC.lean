/- The insertion sort of slices.SortFunc, over numbers. -/
import Derived.Test.YtdebccghjbfgdaaGreatDoorSdC
import Derived.Test.YtdebccghjbfgdaaGreatDoorCuB
import Derived.BigRegion
set_option maxRecDepth 1000000
set_option maxHeartbeats 16000000
set_option linter.unusedSimpArgs false
set_option linter.unusedVariables false
namespace Go.Proofs.YtdebccghjbfgdaaGreatDoor
theorem sub_is {q:Nat} (hq:2 <= q) (x a:Nat):Is q (subM x a q) ((x:Int) - a):=by
 have h0:0 < q:=by omega
 have:=(Is.of h0 x).sub hq (Is.of h0 a)
 have e:subM (x % q) (a % q) q=subM x a q:=by unfold subM; rw [Nat.mod_mod,Nat.mod_mod]
 rwa [e] at this
def diffs (q x:Nat) (o:Nat):List Nat -> Nat
 | []=>o
 | a :: l=>diffs q x (o * subM x a q % q) l
theorem diffs_snoc (q x:Nat):∀ (l:List Nat) (o a:Nat),diffs q x o (l ++ [a])=diffs q x o l * subM x a q % q
 | [],_,_=>rfl
 | _ :: l,_,a=>diffs_snoc q x l _ a
theorem diffs_lt {q x:Nat} (hq:2 <= q):∀ (l:List Nat) (o:Nat),o < q -> diffs q x o l < q
 | [],_,h=>h
 | _ :: l,_,_=>diffs_lt hq l _ (Nat.mod_lt _ (by omega))
def prodI:List Int -> Int
 | []=>1
 | a :: l=>a * prodI l
theorem diffs_is {q x:Nat} (hq:2 <= q):∀ (l:List Nat) (o:Nat) (z:Int),Is q o z -> Is q (diffs q x o l) (z * prodI (l.map fun a:Nat=>(x:Int) - a))
 | [],o,z,h=>by
  show Is q o (z * 1)
  rw [Int.mul_one]; exact h
 | a :: l,o,z,h=>by
  have h3:=diffs_is (x:=x) hq l _ _ (h.mul (sub_is hq x a))
  show Is q (diffs q x (o * subM x a q % q) l) (z * (((x:Int) - a) * prodI (l.map fun a:Nat=>(x:Int) - a)))
  rw [<- Int.mul_assoc]; exact h3
theorem wval_prod (iv:Nat -> Int) (x:Int):∀ l:List Nat,wval (l.map fun a:Nat=>((a:Int),iv a)) x=prodI (l.map fun a:Nat=>x - a) * prodI (l.map iv)
 | []=>rfl
 | a :: l=>by
  show (x - (a:Int)) * iv a * wval (l.map fun a:Nat=>((a:Int),iv a)) x=(x - (a:Int)) * prodI (l.map fun a:Nat=>x - a) * (iv a * prodI (l.map iv))
  rw [wval_prod iv x l]
  generalize prodI (l.map fun a:Nat=>x - a)=A
  generalize prodI (l.map iv)=B
  rw [Int.mul_assoc,Int.mul_assoc,<- Int.mul_assoc (iv a) A,Int.mul_comm (iv a) A,Int.mul_assoc]
theorem units_prod {q:Int} (iv:Nat -> Int) (x:Int):∀ l:List Nat,(∀ a ∈ l,q ∣ (x - a) * iv a - 1) -> q ∣ prodI (l.map fun a:Nat=>x - a) * prodI (l.map iv) - 1
 | [],_=>by show q ∣ 1 * 1 - 1; simp
 | a :: l,h=>by
  have h1:=h a List.mem_cons_self
  have h2:=units_prod iv x l fun b hb=>h b (List.mem_cons_of_mem _ hb)
  show q ∣ (x - (a:Int)) * prodI (l.map fun a:Nat=>x - a) * (iv a * prodI (l.map iv)) - 1
  generalize prodI (l.map fun a:Nat=>x - a)=A at *
  generalize prodI (l.map iv)=B at *
  generalize x - (a:Int)=D at *
  generalize iv a=v at *
  have t:D * A * (v * B)=D * v * (A * B):=by rw [Int.mul_assoc,Int.mul_assoc,<- Int.mul_assoc A,Int.mul_comm A v,Int.mul_assoc v]
  have s:(D * v - 1) * (A * B)=D * v * (A * B) - A * B:=by rw [Int.sub_mul,Int.one_mul]
  have e:D * A * (v * B) - 1=(D * v - 1) * (A * B) + (A * B - 1):=by omega
  rw [e]
  exact Int.dvd_add (idvd_l h1 _) h2
theorem prod_unlike {q:Nat} (hq:Prime q) (x:Int):∀ l:List Nat,(∀ a ∈ l,¬ (q:Int) ∣ x - a) -> ¬ (q:Int) ∣ prodI (l.map fun a:Nat=>x - a)
 | [],_,h=>by
  have h2:=hq.two
  have h1:(q:Int) ∣ 1:=h
  have:=Int.le_of_dvd (by omega) h1
  omega
 | a :: l,h,k=>by
  rcases hq.dvd_imul (a:=x - a) (b:=prodI (l.map fun a:Nat=>x - a)) k with h1 | h1
  ·exact h a List.mem_cons_self h1
  ·exact prod_unlike hq x l (fun b hb=>h b (List.mem_cons_of_mem _ hb)) h1
noncomputable def wprog (q x xi:Nat) (l:List Nat):Nat:=diffs q x 1 l * invQ q (diffs q xi 1 l) % q
theorem wprog_eq {q x xi:Nat} {l:List Nat} (hq:Prime q) (hu:∀ a ∈ l,¬ (q:Int) ∣ (xi:Int) - a):wprog q x xi l=docW q x xi 1 l:=by
 have h2:=hq.two
 have hA:=diffs_is (x:=x) h2 l 1 1 (Is.one h2)
 have hB:=diffs_is (x:=xi) h2 l 1 1 (Is.one h2)
 have hW:=docW_is (x:=x) (xi:=xi) h2 l 1 1 (Is.one h2)
 rw [Int.one_mul] at hA hB hW
 have hN:=prod_unlike hq (xi:Int) l hu
 have hI:=Is.inv (N:=diffs q xi 1 l) hq (by rw [Nat.mod_eq_of_lt hB.lt]; exact hB) (invQ_is h2 _) hN
 have hI2:Is q (invQ q (diffs q xi 1 l)) (invQ q (diffs q xi 1 l):Nat):=⟨hI.2,by simp⟩
 refine (hA.mul hI2).uniq hW ?_
 rw [wval_prod (fun a=>invZ q ((xi:Int) - a))]
 have hU:=units_prod (q:=q) (fun a=>invZ q ((xi:Int) - a)) xi l fun a ha=>invs_all hq ((xi:Int) :: ints l) _ _ List.mem_cons_self (List.mem_cons_of_mem _ (by
  rw [ints]; exact List.mem_map.2 ⟨a,ha,rfl⟩)) (hu a ha)
 have hI1:=hI.1
 generalize prodI (l.map fun a:Nat=>(xi:Int) - a)=B at *
 generalize prodI (l.map fun a:Nat=>invZ q ((xi:Int) - a))=V at *
 generalize prodI (l.map fun a:Nat=>(x:Int) - a)=A at *
 generalize ((invQ q (diffs q xi 1 l):Nat):Int)=I at *
 have h3:(q:Int) ∣ B * (I - V):=by
  have:=Int.dvd_sub hI1 hU
  rw [Int.mul_sub]
  rwa [show B * I - 1 - (B * V - 1)=B * I - B * V by omega] at this
 rcases hq.dvd_imul h3 with h | h
 ·exact absurd h hN
 ·rw [<- Int.mul_sub]; exact idvd_r h _
def others (xs:List Nat) (i k:Nat):List Nat:=(xs.take k).take i ++ (xs.take k).drop (i + 1)
theorem others_zero (xs:List Nat) (i:Nat):others xs i 0=[]:=by simp [others]
theorem others_same (xs:List Nat) (i:Nat):others xs i (i + 1)=others xs i i:=by
 unfold others
 have h1:(xs.take (i + 1)).drop (i + 1)=[]:=List.drop_eq_nil_of_le (by simp; omega)
 have h2:(xs.take i).drop (i + 1)=[]:=List.drop_eq_nil_of_le (by simp; omega)
 rw [h1,h2,List.take_take,List.take_take]
 simp
theorem others_snoc {xs:List Nat} {i k a:Nat} (hk:xs[k]? = some a) (hne:k ≠ i):others xs i (k + 1)=others xs i k ++ [a]:=by
 unfold others
 have hkl:=(List.getElem?_eq_some_iff.1 hk).1
 have hl:(xs.take k).length=k:=by rw [List.length_take]; omega
 have e:xs.take (k + 1)=xs.take k ++ [a]:=snoc_take hk
 rw [e]
 rcases Nat.lt_or_ge k i with h | h
 ·have e1:(xs.take k ++ [a]).take i=xs.take k ++ [a]:=List.take_of_length_le (by rw [List.length_append,hl,List.length_singleton]; omega)
  have e2:(xs.take k ++ [a]).drop (i + 1)=[]:=List.drop_eq_nil_of_le (by rw [List.length_append,hl,List.length_singleton]; omega)
  have e3:(xs.take k).take i=xs.take k:=List.take_of_length_le (by omega)
  have e4:(xs.take k).drop (i + 1)=[]:=List.drop_eq_nil_of_le (by omega)
  rw [e1,e2,e3,e4,List.append_nil,List.append_nil]
 ·have e1:(xs.take k ++ [a]).take i=(xs.take k).take i:=List.take_append_of_le_length (by omega)
  have e2:(xs.take k ++ [a]).drop (i + 1)=(xs.take k).drop (i + 1) ++ [a]:=List.drop_append_of_le_length (by omega)
  rw [e1,e2,List.append_assoc]
theorem others_all (xs:List Nat) (i:Nat):others xs i xs.length=xs.take i ++ xs.drop (i + 1):=by
 unfold others; rw [List.take_length]
theorem unlike_iff {q:Nat} (xs:List Nat):Unlike q (ints xs) ↔ (xs.map fun x=>x % q).Nodup:=by
 unfold Unlike ints List.Nodup
 rw [List.pairwise_map,List.pairwise_map]
 constructor
 ·intro h; exact h.imp fun {a b} hab e=>hab (dvd_of_mod e)
 ·intro h; exact h.imp fun {a b} hab e=>hab (mod_of_dvd e)
theorem unlike_others {q:Nat} {xs:List Nat} (h:Unlike q (ints xs)) {i z:Nat} (hi:xs[i]? = some z):∀ a ∈ xs.take i ++ xs.drop (i + 1),¬ (q:Int) ∣ (z:Int) - a:=by
 have e:xs=xs.take i ++ z :: xs.drop (i + 1):=by
  obtain ⟨h1,h2⟩:=List.getElem?_eq_some_iff.1 hi
  rw [<- h2,List.getElem_cons_drop,List.take_append_drop]
 rw [e] at h
 unfold Unlike ints at h
 rw [List.map_append,List.map_cons,List.pairwise_append,List.pairwise_cons] at h
 obtain ⟨_,⟨h2,_⟩,h3⟩:=h
 intro a ha
 rcases List.mem_append.1 ha with k | k
 ·exact Unlike.neg (h3 _ (List.mem_map.2 ⟨a,k,rfl⟩) _ List.mem_cons_self)
 ·exact h2 _ (List.mem_map.2 ⟨a,k,rfl⟩)
theorem adj_dup {l:List Nat} {i a:Nat} (h:l[i]? = some a) (k:l[i + 1]? = some a):¬ l.Nodup:=by
 intro hn
 obtain ⟨h1,h2⟩:=List.getElem?_eq_some_iff.1 h
 obtain ⟨k1,k2⟩:=List.getElem?_eq_some_iff.1 k
 have:=List.pairwise_iff_getElem.1 hn i (i + 1) h1 k1 (by omega)
 exact this (h2.trans k2.symm)
theorem no_adj:∀ {l:List Nat},l.Pairwise (fun a b=>a <= b) -> (∀ i a b,l[i]? = some a -> l[i + 1]? = some b -> a ≠ b) -> l.Nodup
 | [],_,_=>List.Pairwise.nil
 | [a],_,_=>List.pairwise_singleton _ _
 | a :: b :: l,h,k=>by
  obtain ⟨h1,h2⟩:=List.pairwise_cons.1 h
  refine List.pairwise_cons.2 ⟨fun c hc e=>?_,no_adj h2 fun i x y hx hy=>k (i + 1) x y hx hy⟩
  subst e
  have hab:=h1 b List.mem_cons_self
  have hne:=k 0 a b rfl rfl
  rcases List.mem_cons.1 hc with e | hc
  ·exact hne e
  ·have:=(List.pairwise_cons.1 h2).1 a hc
   omega
theorem swap_perm:∀ {l:List Nat} {j a b:Nat},l[j + 1]? = some a -> l[j]? = some b -> ((l.set (j + 1) b).set j a).Perm l
 | [],_,_,_,h,_=>by simp at h
 | [_],_,_,_,h,_=>by simp at h
 | x :: y :: l,0,a,b,h,k=>by
  simp at h k
  subst h k
  exact List.Perm.swap _ _ _
 | x :: y :: l,j + 1,a,b,h,k=>List.Perm.cons x (swap_perm (l:=y :: l) (j:=j) h k)
structure Ins (i j:Nat) (l:List Nat):Prop where
 le:j <= i
 rest:∀ p r a b,p < r -> r <= i -> p ≠ j -> r ≠ j -> l[p]? = some a -> l[r]? = some b -> a <= b
 low:∀ r a b,j < r -> r <= i -> l[j]? = some a -> l[r]? = some b -> a <= b
def Srt (i:Nat) (l:List Nat):Prop:=∀ p r a b,p < r -> r < i -> l[p]? = some a -> l[r]? = some b -> a <= b
theorem Srt.ins {i:Nat} {l:List Nat} (h:Srt i l):Ins i i l:=⟨Nat.le_refl _,fun p r a b h1 h2 _ h4 k1 k2=>h p r a b h1 (by omega) k1 k2,fun r _ _ h1 h2=>by omega⟩
theorem Ins.done {i j:Nat} {l:List Nat} (h:Ins i j l) (hj:j=0 ∨ ∀ a b,l[j - 1]? = some b -> l[j]? = some a -> b <= a) (hl:i < l.length):Srt (i + 1) l:=by
 intro p r a b h1 h2 k1 k2
 by_cases e1:p=j
 ·subst e1; exact h.low r a b h1 (by omega) k1 k2
 by_cases e2:r=j
 ·subst e2
  rcases hj with h0 | hj
  ·omega
  have hm:r - 1 < l.length:=by omega
  have km:l[r - 1]? = some (l[r - 1]'hm):=List.getElem?_eq_getElem _
  have h5:=hj b _ km k2
  rcases Nat.lt_or_ge p (r - 1) with h6 | h6
  ·exact Nat.le_trans (h.rest p (r - 1) a _ h6 (by omega) e1 (by omega) k1 km) h5
  ·obtain rfl:p=r - 1:=by omega
   rw [k1] at km; cases km
   exact h5
 ·exact h.rest p r a b h1 (by omega) e1 e2 k1 k2
theorem Ins.swap {i j x y:Nat} {l:List Nat} (h:Ins i (j + 1) l) (hx:l[j + 1]? = some x) (hy:l[j]? = some y) (hlt:x < y):Ins i j ((l.set (j + 1) y).set j x):=by
 have hle:=h.le
 obtain ⟨l1,_⟩:=List.getElem?_eq_some_iff.1 hx
 obtain ⟨l2,_⟩:=List.getElem?_eq_some_iff.1 hy
 have gj:((l.set (j + 1) y).set j x)[j]? = some x:=by rw [List.getElem?_set_self (by simpa using l2)]
 have gj1:((l.set (j + 1) y).set j x)[j + 1]? = some y:=by rw [List.getElem?_set_ne (by omega),List.getElem?_set_self l1]
 have go:∀ p,p ≠ j -> p ≠ j + 1 -> ((l.set (j + 1) y).set j x)[p]? = l[p]? := fun p h1 h2=>by rw [List.getElem?_set_ne (by omega),List.getElem?_set_ne (by omega)]
 refine ⟨by omega,fun p r a b h1 h2 h3 h4 k1 k2=>?_,fun r a b h1 h2 k1 k2=>?_⟩
 ·by_cases e1:p=j + 1
  ·subst e1
   rw [gj1] at k1; cases k1
   rw [go r h4 (by omega)] at k2
   exact h.rest j r y b (by omega) h2 (by omega) (by omega) hy k2
  ·rw [go p h3 e1] at k1
   by_cases e2:r=j + 1
   ·subst e2
    rw [gj1] at k2; cases k2
    exact h.rest p j a y (by omega) (by omega) e1 (by omega) k1 hy
   ·rw [go r h4 e2] at k2
    exact h.rest p r a b h1 h2 e1 e2 k1 k2
 ·rw [gj] at k1; cases k1
  by_cases e2:r=j + 1
  ·subst e2
   rw [gj1] at k2; cases k2
   omega
  ·rw [go r (by omega) e2] at k2
   exact h.low r x b (by omega) h2 hx k2
theorem Srt.pairwise {l:List Nat} (h:Srt l.length l):l.Pairwise fun a b=>a <= b:=by
 rw [List.pairwise_iff_getElem]
 intro i j hi hj hij
 exact h i j _ _ hij hj (List.getElem?_eq_getElem _) (List.getElem?_eq_getElem _)
open Go Go.RowKit Go.Proofs.YtdebccghjbfgdaaGreatDoor.Flow
def XRow (w:World) (g:Nat) (us:List (Option Addr × Nat × Nat)) (rest:List Value):Prop:=w.heap[g]? = some (.cells (us.map sv ++ rest).toArray 36 (0,0))
theorem XRow.lt {w:World} {g:Nat} {us:List (Option Addr × Nat × Nat)} {rest:List Value} (h:XRow w g us rest):g < w.heap.size:=(Array.getElem?_eq_some_iff.1 h).1
theorem XRow.below {w w':World} {g B:Nat} {us:List (Option Addr × Nat × Nat)} {rest:List Value} (h:XRow w g us rest) (hb:Below B w w') (hg:g < B):XRow w' g us rest:=by
 unfold XRow at *; rw [hb.block g hg]; exact h
theorem XRow.cell {w:World} {g j:Nat} {us:List (Option Addr × Nat × Nat)} {rest:List Value} {x:Option Addr × Nat × Nat} (h:XRow w g us rest) (hj:us[j]? = some x):w.cell? ⟨g,j,none⟩=some (.slice x.1 x.2.1 x.2.2):=by
 have hl:j < us.length:=(List.getElem?_eq_some_iff.1 hj).1
 unfold XRow at h
 have:(us.map sv ++ rest)[j]? = some (sv x):=by rw [List.getElem?_append_left (by simpa using hl),List.getElem?_map,hj]; rfl
 simp [World.cell?,h,this,sv]
theorem XRow.free {w:World} {g:Nat} {us:List (Option Addr × Nat × Nat)} {rest:List Value} (h:XRow w g us rest) (j:Nat):w.frozen? ⟨g,j,none⟩=false:=by
 unfold XRow at h; simp [World.frozen?,h]
theorem XRow.set {w:World} {g:Nat} {us:List (Option Addr × Nat × Nat)} {rest:List Value} (h:XRow w g us rest) {j:Nat} (hj:j < us.length) (x:Option Addr × Nat × Nat):XRow (w.setCell ⟨g,j,none⟩ (.slice x.1 x.2.1 x.2.2)) g (us.set j x) rest:=by
 unfold XRow at *
 have e:(us.set j x).map sv ++ rest=(us.map sv ++ rest).set j (sv x):=by
  rw [List.map_set,List.set_append_left _ _ (by simpa using hj)]
 rw [e]
 simp [World.setCell,Array.getElem?_modify,h,sv]
theorem trip_swap {w:World} {e j A B:Nat} {us:List (Option Addr × Nat × Nat)} {Ms:List Nat} {xa xb:Option Addr × Nat × Nat} (h:Trip w e us Ms) (ha:us[j + 1]? = some xa) (hb:us[j]? = some xb) (hA:Ms[j + 1]? = some A) (hB:Ms[j]? = some B) :
  Trip w e ((us.set (j + 1) xb).set j xa) ((Ms.set (j + 1) B).set j A):=by
 refine ⟨by simp [h.len],fun i N hN=>?_⟩
 obtain ⟨l1,_⟩:=List.getElem?_eq_some_iff.1 ha
 obtain ⟨m1,_⟩:=List.getElem?_eq_some_iff.1 hA
 by_cases e1:i=j
 ·subst e1
  rw [List.getElem?_set_self (by simp; omega)] at hN; cases hN
  obtain ⟨x,k1,k2⟩:=h.at_ _ _ hA
  rw [ha] at k1; cases k1
  exact ⟨xa,by rw [List.getElem?_set_self (by simp; omega)],k2⟩
 ·rw [List.getElem?_set_ne (by omega)] at hN
  rw [List.getElem?_set_ne (by omega)]
  by_cases e2:i=j + 1
  ·subst e2
   rw [List.getElem?_set_self m1] at hN; cases hN
   obtain ⟨x,k1,k2⟩:=h.at_ _ _ hB
   rw [hb] at k1; cases k1
   exact ⟨xb,by rw [List.getElem?_set_self l1],k2⟩
  ·rw [List.getElem?_set_ne (by omega)] at hN
   rw [List.getElem?_set_ne (by omega)]
   exact h.at_ i N hN
structure SoSt (w0:World) (e g:Nat) (rest:List Value) (Ns:List Nat) (us:List (Option Addr × Nat × Nat)) (Ms:List Nat) (w:World):Prop where
 row:XRow w g us rest
 trip:Trip w0 e us Ms
 perm:Ms.Perm Ns
 bel:Below w0.heap.size w0 w
 own:w0.heap.size <= g
theorem SoSt.later {w0 w w':World} {e g:Nat} {rest:List Value} {Ns Ms:List Nat} {us:List (Option Addr × Nat × Nat)} (h:SoSt w0 e g rest Ns us Ms w) (hb:Below w.heap.size w w'):SoSt w0 e g rest Ns us Ms w' :=
 ⟨h.row.below hb h.row.lt,h.trip,h.perm,bstep h.bel hb,h.own⟩
theorem SoSt.len {w0 w:World} {e g:Nat} {rest:List Value} {Ns Ms:List Nat} {us:List (Option Addr × Nat × Nat)} (h:SoSt w0 e g rest Ns us Ms w):us.length=Ns.length:=h.trip.len.trans h.perm.length_eq
theorem SoSt.swap {w0 w:World} {e g j A B:Nat} {rest:List Value} {Ns Ms:List Nat} {us:List (Option Addr × Nat × Nat)} {xa xb:Option Addr × Nat × Nat} (h:SoSt w0 e g rest Ns us Ms w) (ha:us[j + 1]? = some xa) (hb:us[j]? = some xb) (hA:Ms[j + 1]? = some A) (hB:Ms[j]? = some B) {w':World}
  (hw:w'=(w.setCell ⟨g,j + 1,none⟩ (.slice xb.1 xb.2.1 xb.2.2)).setCell ⟨g,j,none⟩ (.slice xa.1 xa.2.1 xa.2.2)):SoSt w0 e g rest Ns ((us.set (j + 1) xb).set j xa) ((Ms.set (j + 1) B).set j A) w':=by
 have l1:=(List.getElem?_eq_some_iff.1 ha).1
 subst hw
 exact ⟨(h.row.set l1 xb).set (by simp; omega) xa,trip_swap h.trip ha hb hA hB,(swap_perm hA hB).trans h.perm,(h.bel.setCell h.own _).setCell h.own _,h.own⟩
theorem cmpI_neg {N M:Nat}:cmpI N M < 0 ↔ N < M:=by
 unfold cmpI
 split
 ·omega
 ·split <;> omega
theorem ins_calls {w0 w:World} {e g n cap:Nat} {rest:List Value} {Ns Ms0:List Nat} {us0:List (Option Addr × Nat × Nat)} (h:SoSt w0 e g rest Ns us0 Ms0 w) (hn:Ns.length=n) (hn2:n <= 1000000) (he:e <= 900000) :
  Calls Tryz.prog 219 #[.slice (some ⟨g,0,none⟩) n cap,.int .i64 0,.int .i64 n,.func (.func 35) #[] #[]] w fun en w'=>(∃ v,en=.returned v) /\ ∃ us Ms,SoSt w0 e g rest Ns us Ms w' /\ Srt n Ms:=by
 have HS0:=hol h
 have HN:=hol hn
 clear h hn
 go_enter Tryz.func219,Tryz.ntmps219
 go_wp2
 go_loopw [8,9] (fun iv _ wr=>∃ (i:Nat) (us:List (Option Addr × Nat × Nat)) (Ms:List Nat),iv=.int .i64 i /\ (i <= n ∨ i=1) /\ Hold (SoSt w0 e g rest Ns us Ms wr) /\ Hold (Srt i Ms)) (fun iv _ _=>n - (intOf iv).toNat)
 case atStart=>exact ⟨1,us0,Ms0,rfl,.inr rfl,HS0,⟨fun p r a b h1 h2=>by omega⟩⟩
 case round =>
  obtain ⟨i,us,Ms,rfl,hi,HSo,HSr⟩:=hrel
  by_cases hin:i < n
  ·have hin':(i:Int) < n:=by omega
   clear hi
   have HI0:Hold (Ins i i Ms):=⟨HSr.out.ins⟩
   clear HSr
   obtain ⟨wo,hwo⟩:∃ x,x=wr:=⟨_,rfl⟩
   subst hwo
   go_wp2
   go_loopw [9] (fun jv wr=>∃ (j:Nat) (us:List (Option Addr × Nat × Nat)) (Ms:List Nat),jv=.int .i64 j /\ j <= i /\ Hold (SoSt w0 e g rest Ns us Ms wr) /\ Hold (Ins i j Ms)) (fun jv _=>(intOf jv).toNat)
   case atStart=>exact ⟨i,us,Ms,rfl,Nat.le_refl _,HSo,HI0⟩
   case round =>
    clear HSo HI0
    obtain ⟨j',us,Ms,rfl,hj,HSO,HI⟩:=hrel
    rcases Nat.eq_zero_or_pos j' with h0 | h0
    ·subst h0
     go_wp2
     refine wp_region_duties (by kernel_rfl) (by kernel_rfl)
      [some (.int .i64 0),some (.int .i64 0),some (.bool false),some (.bool false),some (undef),some (undef),some (undef),some (undef),some (undef),some (undef),some (undef),some (undef),some (undef),some (undef),some (undef),some (undef),some (.bool false)]
      [false,false,false,false,false,false,false,false,false,false,false,false,false,false,false,false,false] rfl
      (fun w1 w2=>Below w1.heap.size w1 w2)
      (fun _ w'=>Below wr.heap.size wr w')
      (fun i v w'=>match i with
       | _=>True)
      ?_ (Below.refl _ _).drew ?_ ?_
     ·intro i v w1 w2 hf hb
      split at hf
      ·trivial
     ·simp only [Duties,Nat.reduceAdd]
      refine ⟨?_,?_,?_,?_,?_,?_,?_,?_,?_,?_,?_,?_,?_,?_,?_,?_,?_,trivial⟩
      all_goals intro D sp w' hD hW hdp hbx'
      case refine_5 | refine_6 | refine_7 | refine_8 | refine_9 | refine_10 | refine_11 | refine_12 | refine_13 | refine_14 | refine_15 | refine_16 =>
       (with_reducible refine asked_not ?_ ?_)
       ·(simp [Region.wanted,yielded,Act.put,go_sem] <;> exact fun h=>by cases h)
       ·exact ⟨rfl,rfl⟩
      all_goals ((with_reducible refine asked_pl ?_ ?_); all_goals first | (simp only [Region.wanted]; done) | simp [Region.wanted,yielded,execOp,Act.eval,Act.put,go_sem])
     ·intro sp w7 hsp hbx'
      have HS7:=hol (HSO.out.later hbx')
      clear hsp hbx'
      simp only [frameOf]
      go_simp
      go_wp2
      have HSR:=hol (HI.out.done (.inl rfl) (by rw [HSO.out.perm.length_eq,HN.out]; exact hin))
      go_roundw
      case rel=>exact ⟨i + 1,us,Ms,by go_num,by omega,HS7,HSR⟩
      case measure=>simp [intOf]; omega
    ·obtain ⟨j,rfl⟩:∃ j,j'=j + 1:=⟨j' - 1,by omega⟩
     clear h0
     have hlen:us.length=n:=HSO.out.len.trans HN.out
     obtain ⟨xa,hxa⟩:∃ x,us[j + 1]? = some x:=⟨_,List.getElem?_eq_getElem (by omega)⟩
     obtain ⟨xb,hxb⟩:∃ x,us[j]? = some x:=⟨_,List.getElem?_eq_getElem (by omega)⟩
     obtain ⟨A,hA,ha2,ha3⟩:=HSO.out.trip.get hxa
     obtain ⟨B,hB,hb2,hb3⟩:=HSO.out.trip.get hxb
     have HXA:=hol hxa
     have HXB:=hol hxb
     have HA:=hol hA
     have HB:=hol hB
     have HFA:Hold (Fit e A (.agg #[.slice xa.1 xa.2.1 xa.2.2]) wr):=⟨(Fit.of ha2 ha3).below HSO.out.bel⟩
     have HFB:Hold (Fit e B (.agg #[.slice xb.1 xb.2.1 xb.2.2]) wr):=⟨(Fit.of hb2 hb3).below HSO.out.bel⟩
     obtain ⟨K,hKe⟩:∃ K,cmpI A B=K:=⟨_,rfl⟩
     have HK:=hol hKe
     have HKN:Hold (K < 0 ↔ A < B):=⟨by rw [<- hKe]; exact cmpI_neg⟩
     have hj0:(0:Int) < ((j + 1:Nat):Int):=by omega
     have hn1:¬ (n:Int) <= (j:Int) + 1:=by omega
     have hj9:(0:Int) <= (j:Int) + 1:=by omega
     have hwj:IntKind.i64.wrap (j:Int)=(j:Nat):=by rw [IntKind.wrap_i64]; omega
     have hn2:¬ n <= j:=by omega
     clear hxa hxb hA hB ha2 ha3 hb2 hb3 hKe hlen
     by_cases hK:K < 0
     ·go_wp2
      refine wp_region_duties (by kernel_rfl) (by kernel_rfl)
       [some (.int .i64 ((j + 1:Nat):Int)),some (.int .i64 0),some (.bool true),some (.bool true),some (.func (.func 35) #[] #[]),some (.slice (some ⟨g,0,none⟩) n cap),some (.int .i64 ((j + 1:Nat):Int)),some (.pointer (some ⟨g,j + 1,none⟩)),some (.agg #[.slice xa.1 xa.2.1 xa.2.2]),some (.slice (some ⟨g,0,none⟩) n cap),some (.int .i64 ((j + 1:Nat):Int)),some (.int .i64 (j:Nat)),some (.pointer (some ⟨g,j,none⟩)),some (.agg #[.slice xb.1 xb.2.1 xb.2.2]),none,some (.bool true),some (.bool true)]
       [false,false,false,false,false,false,false,false,false,false,false,false,false,false,true,false,false] rfl
       (fun w1 w2=>Below w1.heap.size w1 w2)
       (fun _ w'=>Below wr.heap.size wr w')
       (fun i v w'=>match i with
        | 14=>v=.int .i64 K
        | _=>True)
       ?_ (Below.refl _ _).drew ?_ ?_
      ·intro i v w1 w2 hf hb
       split at hf
       ·exact hf
       ·trivial
      ·simp only [Duties,Nat.reduceAdd]
       refine ⟨?_,?_,?_,?_,?_,?_,?_,?_,?_,?_,?_,?_,?_,?_,?_,?_,?_,trivial⟩
       all_goals intro D sp w' hD hW hdp hbx'
       case refine_8 =>
        (with_reducible refine asked_value (w1:=w') (v:=.pointer (some ⟨g,j + 1,none⟩)) ?_ ?_ ?_)
        ·simp [Region.wanted,yielded,Act.put,go_sem]
        ·simp [execOp,Act.eval,Act.put,go_sem,hn1,hj9]
        ·exact ⟨rfl,rfl⟩
       case refine_9 =>
        have c0:=(HSO.out.row.below hbx' HSO.out.row.lt).cell HXA.out
        with_reducible refine asked_pl ?_ ?_
        all_goals simp [Region.wanted,yielded,execOp,Act.eval,Act.put,go_sem,c0]
       case refine_12 =>
        (with_reducible refine asked_value (w1:=w') (v:=.int .i64 (j:Nat)) ?_ ?_ ?_)
        ·simp [Region.wanted,yielded,Act.put,go_sem]
        ·simp [execOp,Act.eval,Act.put,go_sem,hwj]
        ·exact ⟨rfl,rfl⟩
       case refine_13 =>
        (with_reducible refine asked_value (w1:=w') (v:=.pointer (some ⟨g,j,none⟩)) ?_ ?_ ?_)
        ·simp [Region.wanted,yielded,Act.put,go_sem]
        ·simp [execOp,Act.eval,Act.put,go_sem,hn2]
        ·exact ⟨rfl,rfl⟩
       case refine_14 =>
        have c0:=(HSO.out.row.below hbx' HSO.out.row.lt).cell HXB.out
        with_reducible refine asked_pl ?_ ?_
        all_goals simp [Region.wanted,yielded,execOp,Act.eval,Act.put,go_sem,c0]
       case refine_15 =>
        (with_reducible refine asked_call (w1:=w') (f := 35) (args:=#[.agg #[.slice xa.1 xa.2.1 xa.2.2],.agg #[.slice xb.1 xb.2.1 xb.2.2]]) ?_ ?_ ?_)
        ·simp [Region.wanted,yielded,Act.put,go_sem]
        ·simp [Act.eval,Act.put,go_sem]
        ·refine (cmp_fit (HFA.out.below hbx') (HFB.out.below hbx') he he).mono ?_
         rintro en w9 ⟨_,rfl,rfl,hb⟩
         rw [HK.out]
         exact ⟨_,rfl,hb,rfl,bstep hbx' hb⟩
       case refine_16 =>
        have k14:(sp 14)=.int .i64 K:=(hdp 14 (mq (by kernel_rfl))).2
        with_reducible refine asked_pl ?_ ?_
        all_goals simp [Region.wanted,yielded,execOp,Act.eval,Act.put,go_sem,k14,hK]
       all_goals ((with_reducible refine asked_pl ?_ ?_); all_goals first | (simp only [Region.wanted]; done) | simp [Region.wanted,yielded,execOp,Act.eval,Act.put,go_sem])
      ·intro sp w7 hsp hbx'
       have HS7:=hol (HSO.out.later hbx')
       clear hsp hbx'
       simp only [frameOf,Nat.reduceAdd]
       generalize sp 14=y14 at *
       go_simp
       have c1:=HS7.out.row.cell HXA.out
       have c2:=HS7.out.row.cell HXB.out
       have f1:=HS7.out.row.free (j + 1)
       have f2:=HS7.out.row.free j
       have HS8:Hold (SoSt w0 e g rest Ns ((us.set (j + 1) xb).set j xa) ((Ms.set (j + 1) B).set j A) ((w7.setCell ⟨g,j + 1,none⟩ (.slice xb.1 xb.2.1 xb.2.2)).setCell ⟨g,j,none⟩ (.slice xa.1 xa.2.1 xa.2.2)).drew):=⟨(HS7.out.swap HXA.out HXB.out HA.out HB.out rfl).later ((Below.refl _ _).drew)⟩
       have HI8:=hol (HI.out.swap HA.out HB.out (HKN.out.1 hK))
       go_wp2
       go_region
       clear c1 c2 f1 f2
       go_wp2
       go_roundw
       case rel=>exact ⟨j,_,_,by go_num,by omega,HS8,HI8⟩
       case measure=>simp [intOf]
     ·go_wp2
      refine wp_region_duties (by kernel_rfl) (by kernel_rfl)
       [some (.int .i64 ((j + 1:Nat):Int)),some (.int .i64 0),some (.bool true),some (.bool true),some (.func (.func 35) #[] #[]),some (.slice (some ⟨g,0,none⟩) n cap),some (.int .i64 ((j + 1:Nat):Int)),some (.pointer (some ⟨g,j + 1,none⟩)),some (.agg #[.slice xa.1 xa.2.1 xa.2.2]),some (.slice (some ⟨g,0,none⟩) n cap),some (.int .i64 ((j + 1:Nat):Int)),some (.int .i64 (j:Nat)),some (.pointer (some ⟨g,j,none⟩)),some (.agg #[.slice xb.1 xb.2.1 xb.2.2]),none,some (.bool false),some (.bool false)]
       [false,false,false,false,false,false,false,false,false,false,false,false,false,false,true,false,false] rfl
       (fun w1 w2=>Below w1.heap.size w1 w2)
       (fun _ w'=>Below wr.heap.size wr w')
       (fun i v w'=>match i with
        | 14=>v=.int .i64 K
        | _=>True)
       ?_ (Below.refl _ _).drew ?_ ?_
      ·intro i v w1 w2 hf hb
       split at hf
       ·exact hf
       ·trivial
      ·simp only [Duties,Nat.reduceAdd]
       refine ⟨?_,?_,?_,?_,?_,?_,?_,?_,?_,?_,?_,?_,?_,?_,?_,?_,?_,trivial⟩
       all_goals intro D sp w' hD hW hdp hbx'
       case refine_8 =>
        (with_reducible refine asked_value (w1:=w') (v:=.pointer (some ⟨g,j + 1,none⟩)) ?_ ?_ ?_)
        ·simp [Region.wanted,yielded,Act.put,go_sem]
        ·simp [execOp,Act.eval,Act.put,go_sem,hn1,hj9]
        ·exact ⟨rfl,rfl⟩
       case refine_9 =>
        have c0:=(HSO.out.row.below hbx' HSO.out.row.lt).cell HXA.out
        with_reducible refine asked_pl ?_ ?_
        all_goals simp [Region.wanted,yielded,execOp,Act.eval,Act.put,go_sem,c0]
       case refine_12 =>
        (with_reducible refine asked_value (w1:=w') (v:=.int .i64 (j:Nat)) ?_ ?_ ?_)
        ·simp [Region.wanted,yielded,Act.put,go_sem]
        ·simp [execOp,Act.eval,Act.put,go_sem,hwj]
        ·exact ⟨rfl,rfl⟩
       case refine_13 =>
        (with_reducible refine asked_value (w1:=w') (v:=.pointer (some ⟨g,j,none⟩)) ?_ ?_ ?_)
        ·simp [Region.wanted,yielded,Act.put,go_sem]
        ·simp [execOp,Act.eval,Act.put,go_sem,hn2]
        ·exact ⟨rfl,rfl⟩
       case refine_14 =>
        have c0:=(HSO.out.row.below hbx' HSO.out.row.lt).cell HXB.out
        with_reducible refine asked_pl ?_ ?_
        all_goals simp [Region.wanted,yielded,execOp,Act.eval,Act.put,go_sem,c0]
       case refine_15 =>
        (with_reducible refine asked_call (w1:=w') (f := 35) (args:=#[.agg #[.slice xa.1 xa.2.1 xa.2.2],.agg #[.slice xb.1 xb.2.1 xb.2.2]]) ?_ ?_ ?_)
        ·simp [Region.wanted,yielded,Act.put,go_sem]
        ·simp [Act.eval,Act.put,go_sem]
        ·refine (cmp_fit (HFA.out.below hbx') (HFB.out.below hbx') he he).mono ?_
         rintro en w9 ⟨_,rfl,rfl,hb⟩
         rw [HK.out]
         exact ⟨_,rfl,hb,rfl,bstep hbx' hb⟩
       case refine_16 =>
        have k14:(sp 14)=.int .i64 K:=(hdp 14 (mq (by kernel_rfl))).2
        with_reducible refine asked_pl ?_ ?_
        all_goals simp [Region.wanted,yielded,execOp,Act.eval,Act.put,go_sem,k14,hK]
       all_goals ((with_reducible refine asked_pl ?_ ?_); all_goals first | (simp only [Region.wanted]; done) | simp [Region.wanted,yielded,execOp,Act.eval,Act.put,go_sem])
      ·intro sp w7 hsp hbx'
       have HS7:=hol (HSO.out.later hbx')
       clear hsp hbx'
       simp only [frameOf,Nat.reduceAdd]
       generalize sp 14=y14 at *
       go_simp
       go_wp2
       have HSR:Hold _:=⟨HI.out.done (.inr fun a b hb ha=>by
        have e1:=HA.out
        have e2:=HB.out
        rw [ha] at e1; cases e1
        have hb9:Ms[j]? = some b:=hb
        rw [hb9] at e2; cases e2
        have:=HKN.out
        omega) (by rw [HSO.out.perm.length_eq,HN.out]; exact hin)⟩
       go_roundw
       case rel=>exact ⟨i + 1,us,Ms,by go_num,by omega,HS7,HSR⟩
       case measure=>simp [intOf]; omega
  ·have hin':¬ (i:Int) < n:=by omega
   have HSR:Hold (Srt n Ms):=⟨fun p r a b h1 h2=>HSr.out p r a b h1 (by omega)⟩
   go_wp2
   go_end0
   exact ⟨⟨_,rfl⟩,us,Ms,HSo.out,HSR.out⟩
end Go.Proofs.YtdebccghjbfgdaaGreatDoor
