/- A challenge, answered (schnorr.Answered). -/
import Derived.Test.YthgoeiegdhphjaaGreatDoorSgA
import Derived.Lib.SmallJoins
set_option maxRecDepth 1000000
set_option maxHeartbeats 16000000
set_option linter.unusedSimpArgs false
set_option linter.unusedVariables false
namespace Go.Proofs.YthgoeiegdhphjaaGreatDoor
open Go Go.RowKit Go.Proofs.YthgoeiegdhphjaaGreatDoor.Flow
structure KT (T : TypeId) (B : Nat) (w w' : World) : Prop where
 k : Keep B w w'
 blk : ∀ (g : Nat) (vs : Array Value) (U : TypeId) (m : Nat × Nat), w.heap[g]? = some (.cells vs U m) -> (U ≠ T ∨ ∃ (j : Nat) (k : IntKind) (n : Int), vs[j]? = some (Value.int k n)) -> w'.heap[g]? = some (.cells vs U m)
theorem KT.of {T : TypeId} {B : Nat} {w w' : World} (h : Below w.heap.size w w') (hB : B <= w.heap.size) : KT T B w w' :=
 ⟨Keep.of h hB, fun g _ _ _ ho _ => by rw [h.block g (Array.getElem?_eq_some_iff.1 ho).1]; exact ho⟩
theorem KT.same (T : TypeId) (B : Nat) (w : World) : KT T B w w := ⟨Keep.same _ _, fun _ _ _ _ h _ => h⟩
theorem Fit.kt {T : TypeId} {e N B : Nat} {v : Value} {w w' : World} (h : Fit e N v w) (k : KT T B w w') : Fit e N v w' := h.keep k.k
theorem KT.trans {T : TypeId} {B : Nat} {w1 w2 w3 : World} (h : KT T B w1 w2) (k : KT T B w2 w3) : KT T B w1 w3 := ⟨h.k.trans k.k, fun _ _ _ _ ho hU => k.blk _ _ _ _ (h.blk _ _ _ _ ho hU) hU⟩
theorem KT.drew (T : TypeId) (B : Nat) (w : World) : KT T B w w.drew := ⟨Keep.drew _ _, fun _ _ _ _ h _ => h⟩
theorem Ring.kt {T : TypeId} {B r M f : Nat} {w w' : World} (h : Ring w r M f) (k : KT T B w w') (hT : 132 ≠ T) : Ring w' r M f := by
 obtain ⟨p, n, c, h1, h2, h3⟩ := h.at_.ex
 exact ⟨⟨p, n, c, k.blk _ _ _ _ h1 (.inl hT), k.k.nat _ _ _ _ h2, h3⟩, h.two, h.lim, h.few⟩
theorem NatAt.off {w w' : World} {p : Option Addr} {n c N b : Nat} {vs : Array Value} {T : TypeId} {m : Nat × Nat} (h : NatAt w p n c N) (hb : w.heap[b]? = some (.cells vs T m)) (hs : ∀ (j : Nat) (u : Value), vs[j]? = some u -> ∃ q k d, u = .slice q k d)
  (hz : w.heap.size <= w'.heap.size) (ho : ∀ g, g ≠ b -> w'.heap[g]? = w.heap[g]?) : NatAt w' p n c N := by
 rcases Nat.eq_zero_or_pos n with rfl | h0
 ·obtain ⟨ws, r1, r2, r3, r4⟩ := h.ex
  refine ⟨ws, ⟨r1.len, r1.cap, r1.max, ?_⟩, r2, r3, r4⟩
  rcases r1.at_ with k | ⟨g, off, k1, k2, k3⟩
  ·exact .inl k
  ·refine .inr ⟨g, off, k1, Nat.lt_of_lt_of_le k2 hz, fun i x hx => ?_⟩
   have : ws = [] := List.eq_nil_of_length_eq_zero r1.len.symm
   rw [this] at hx; cases hx
 ·refine natStands.stay h hz fun q hq o => World.cell?_of_block (a := ⟨q.block, o, none⟩) (ho q.block fun e => ?_)
  obtain ⟨ws, r1, r2, r3, r4⟩ := h.ex
  obtain ⟨b', off, k1, k2, k3⟩ := r1.pos h0
  rw [k1] at hq; cases hq
  have hbb : b' = b := e
  subst hbb
  have h1 := k3 0 (ws.getD 0 0) (by rw [List.getD_eq_getElem?_getD]; simp [show 0 < ws.length by rw [<- r1.len]; exact h0])
  rw [Nat.add_zero] at h1
  simp only [World.cell?, hb] at h1
  obtain ⟨q, k, d, hu⟩ := hs _ _ h1
  cases hu
theorem RowIn.kt {T : TypeId} {B n c : Nat} {p : Option Addr} {xs : List Nat} {k : IntKind} {w w' : World} (h : RowIn w k p n c xs) (hk : KT T B w w') : RowIn w' k p n c xs := by
 refine ⟨h.len, h.cap, h.max, fun h0 => ?_⟩
 obtain ⟨k1, k2, k3, k4⟩ := h.row h0
 refine ⟨k1, k2, k3, ?_⟩
 rcases k4 with e | ⟨b, off, h1, h2, h3⟩
 ·exact .inl e
 ·refine .inr ⟨b, off, h1, Nat.lt_of_lt_of_le h2 hk.k.bel.size, fun i x hx => ?_⟩
  have hc := h3 i x hx
  have hblk : w'.heap[b]? = w.heap[b]? := by
   unfold World.cell? at hc
   dsimp only at hc
   cases ho : w.heap[b]? with
   | none => rw [ho] at hc; cases hc
   | some o =>
    rw [ho] at hc
    cases o with
    | cells vs U m => exact hk.blk b vs U m ho (.inr ⟨_, _, _, hc⟩)
    | _ => cases hc
  rw [World.cell?_of_block (a := ⟨b, off + i, none⟩) hblk]
  exact hc
theorem OwnIs.kt {T : TypeId} {B lo : Nat} {bs : List Nat} {v : Value} {w w' : World} (h : OwnIs lo bs v w) (hk : KT T B w w') : OwnIs lo bs v w' := by
 cases h with
 | of p c _ h hn hz hp => exact .of p c w' (h.kt hk) hn hz (fun q hq => Nat.lt_of_lt_of_le (hp q hq) hk.k.bel.size)
def set2 (w : World) (b : Nat) (u0 u1 : Value) : World := (w.setCell ⟨b, 0, none⟩ u0).setCell ⟨b, 1, none⟩ u1
def set4 (w : World) (b : Nat) (u0 u1 u2 u3 : Value) : World := (((w.setCell ⟨b, 0, none⟩ u0).setCell ⟨b, 1, none⟩ u1).setCell ⟨b, 2, none⟩ u2).setCell ⟨b, 3, none⟩ u3
structure PutO (w : World) (b : Nat) (o : Obj) (w' : World) : Prop where
 new : w'.heap[b]? = some o
 old : ∀ g, g ≠ b -> w'.heap[g]? = w.heap[g]?
 size : w'.heap.size = w.heap.size
 bel : ∀ B, B <= b -> Below B w w'
theorem put2 {w : World} {b : Nat} {v0 v1 u0 u1 : Value} {T : TypeId} (h : w.heap[b]? = some (.cells #[v0, v1] T (0, 0))) : PutO w b (.cells #[u0, u1] T (0, 0)) (set2 w b u0 u1) :=
 ⟨by simp [set2, World.setCell, Array.getElem?_modify, h], fun g hg => by simp [set2, World.setCell, Array.getElem?_modify, hg.symm], by simp [set2], fun B hB => (((Below.refl _ _).setCell hB _).setCell hB _)⟩
theorem put4 {w : World} {b : Nat} {v0 v1 v2 v3 u0 u1 u2 u3 : Value} {T : TypeId} (h : w.heap[b]? = some (.cells #[v0, v1, v2, v3] T (0, 0))) : PutO w b (.cells #[u0, u1, u2, u3] T (0, 0)) (set4 w b u0 u1 u2 u3) :=
 ⟨by simp [set4, World.setCell, Array.getElem?_modify, h], fun g hg => by simp [set4, World.setCell, Array.getElem?_modify, hg.symm], by simp [set4], fun B hB => (((((Below.refl _ _).setCell hB _).setCell hB _).setCell hB _).setCell hB _)⟩
theorem PutO.keep {w w' : World} {b B : Nat} {o : Obj} {vs : Array Value} {T : TypeId} {m : Nat × Nat} (h : PutO w b o w') (hb : w.heap[b]? = some (.cells vs T m)) (hs : ∀ (j : Nat) (u : Value), vs[j]? = some u -> ∃ q k d, u = .slice q k d) (hB : B <= b) : Keep B w w' :=
 ⟨h.bel B hB, fun _ _ _ _ k => k.off hb hs (Nat.le_of_eq h.size.symm) h.old⟩
theorem PutO.kt {w w' : World} {b B : Nat} {o : Obj} {vs : Array Value} {T : TypeId} {m : Nat × Nat} (h : PutO w b o w') (hb : w.heap[b]? = some (.cells vs T m)) (hs : ∀ (j : Nat) (u : Value), vs[j]? = some u -> ∃ q k d, u = .slice q k d) (hB : B <= b) : KT T B w w' :=
 ⟨h.keep hb hs hB, fun g us U k ho hU => by
  have : g ≠ b := fun e => by
   subst e
   rw [hb] at ho
   cases ho
   rcases hU with hU | ⟨j, k, n, hj⟩
   ·exact hU rfl
   ·obtain ⟨_, _, _, hx⟩ := hs _ _ hj
    cases hx
  rw [h.old g this]; exact ho⟩
theorem RG.putO {B : Nat} {wx : World} {l : List (Nat × Obj)} {w w' : World} {b : Nat} {o : Obj} {vs : Array Value} {T : TypeId} {m : Nat × Nat} (h : RG B wx l w) (p : PutO w b o w') (hb : w.heap[b]? = some (.cells vs T m)) (hs : ∀ (j : Nat) (u : Value), vs[j]? = some u -> ∃ q k d, u = .slice q k d)
  (hB : B <= b) (hn : ∀ x ∈ l, x.1 ≠ b) : RG B wx l w' :=
 ⟨h.keep.trans (p.keep hb hs hB), by rw [p.size]; exact h.base, fun x hx => by rw [p.old x.1 (hn x hx)]; exact h.blk x hx⟩
theorem slices2 (x y : Option Addr × Nat × Nat) : ∀ (j : Nat) (u : Value), (#[Value.slice x.1 x.2.1 x.2.2, .slice y.1 y.2.1 y.2.2] : Array Value)[j]? = some u -> ∃ q k d, u = .slice q k d
 | 0, u, h => by cases h; exact ⟨_, _, _, rfl⟩
 | 1, u, h => by cases h; exact ⟨_, _, _, rfl⟩
 | j + 2, u, h => by simp at h
theorem slices4 (x y z t : Option Addr × Nat × Nat) : ∀ (j : Nat) (u : Value), (#[Value.slice x.1 x.2.1 x.2.2, .slice y.1 y.2.1 y.2.2, .slice z.1 z.2.1 z.2.2, .slice t.1 t.2.1 t.2.2] : Array Value)[j]? = some u -> ∃ q k d, u = .slice q k d
 | 0, u, h => by cases h; exact ⟨_, _, _, rfl⟩
 | 1, u, h => by cases h; exact ⟨_, _, _, rfl⟩
 | 2, u, h => by cases h; exact ⟨_, _, _, rfl⟩
 | 3, u, h => by cases h; exact ⟨_, _, _, rfl⟩
 | j + 4, u, h => by simp at h
def StO (f : Bool) (b : Nat) (z : Obj) (F : Obj -> World -> Prop) (w : World) : Prop := (f = false -> w.heap[b]? = some z) /\ (f = true -> ∃ o, w.heap[b]? = some o /\ F o w)
theorem StO.later {f : Bool} {b : Nat} {z : Obj} {F : Obj -> World -> Prop} {w w' : World} (h : StO f b z F w) (hb : Below w.heap.size w w') (hF : ∀ o, F o w -> F o w') : StO f b z F w' :=
 ⟨fun e => by have := h.1 e; rw [hb.block b (Array.getElem?_eq_some_iff.1 this).1]; exact this, fun e => by
  obtain ⟨o, h1, h2⟩ := h.2 e
  exact ⟨o, by rw [hb.block b (Array.getElem?_eq_some_iff.1 h1).1]; exact h1, hF o h2⟩⟩
theorem StO.start {b : Nat} {z : Obj} {F : Obj -> World -> Prop} {w : World} (h : w.heap[b]? = some z) : StO false b z F w := ⟨fun _ => h, fun e => by cases e⟩
theorem StO.done {b : Nat} {z o : Obj} {F : Obj -> World -> Prop} {w : World} (h : w.heap[b]? = some o) (hF : F o w) : StO true b z F w := ⟨(fun e => by cases e), fun _ => ⟨o, h, hF⟩⟩
def MkO (d f : Bool) (v : Value) (B : Nat) (z : Obj) (F : Obj -> World -> Prop) (w : World) : Prop := B <= w.heap.size /\ (d = true -> ∃ b, v = .pointer (some ⟨b, 0, none⟩) /\ B <= b /\ StO f b z F w)
theorem MkO.start {v : Value} {B : Nat} {z : Obj} {F : Obj -> World -> Prop} {w : World} (h : B <= w.heap.size) : MkO false false v B z F w := ⟨h, fun e => by cases e⟩
theorem MkO.later {d f : Bool} {v : Value} {B : Nat} {z : Obj} {F : Obj -> World -> Prop} {w w' : World} (h : MkO d f v B z F w) (hb : Below w.heap.size w w') (hF : ∀ o, F o w -> F o w') : MkO d f v B z F w' :=
 ⟨Nat.le_trans h.1 hb.size, fun e => let ⟨b, h1, h2, h3⟩ := h.2 e; ⟨b, h1, h2, h3.later hb hF⟩⟩
theorem MkO.made {v : Value} {B : Nat} {vs : Array Value} {T : TypeId} {F : Obj -> World -> Prop} {w : World} (h : MkO false false v B (.cells vs T (0, 0)) F w) : MkO true false (.pointer (some ⟨w.heap.size, 0, none⟩)) B (.cells vs T (0, 0)) F (w.alloc (.cells vs T)) :=
 ⟨by simp; have := h.1; omega, fun _ => ⟨_, rfl, h.1, StO.start (heap_alloc_new w _)⟩⟩
def AtC (A B Y Z : Nat) (a b y z : Option Addr × Nat × Nat) (w : World) : Prop := At3 w a A /\ At3 w b B /\ At3 w y Y /\ At3 w z Z
theorem AtC.below {A B Y Z : Nat} {a b y z : Option Addr × Nat × Nat} {w w' : World} (h : AtC A B Y Z a b y z w) (hb : Below w.heap.size w w') : AtC A B Y Z a b y z w' := ⟨h.1.below hb, h.2.1.below hb, h.2.2.1.below hb, h.2.2.2.below hb⟩
theorem AtC.keep {A B Y Z C : Nat} {a b y z : Option Addr × Nat × Nat} {w w' : World} (h : AtC A B Y Z a b y z w) (k : Keep C w w') : AtC A B Y Z a b y z w' := ⟨k.nat _ _ _ _ h.1, k.nat _ _ _ _ h.2.1, k.nat _ _ _ _ h.2.2.1, k.nat _ _ _ _ h.2.2.2⟩
theorem AtC.kt {T : TypeId} {A B Y Z C : Nat} {a b y z : Option Addr × Nat × Nat} {w w' : World} (h : AtC A B Y Z a b y z w) (k : KT T C w w') : AtC A B Y Z a b y z w' := h.keep k.k
def ClV (A B Y Z : Nat) (v : Value) (w : World) : Prop := ∃ xa xb xy xz : Option Addr × Nat × Nat, v = .agg #[.slice xa.1 xa.2.1 xa.2.2, .slice xb.1 xb.2.1 xb.2.2, .slice xy.1 xy.2.1 xy.2.2, .slice xz.1 xz.2.1 xz.2.2] /\ AtC A B Y Z xa xb xy xz w
theorem ClV.below {A B Y Z : Nat} {v : Value} {w w' : World} (h : ClV A B Y Z v w) (hb : Below w.heap.size w w') : ClV A B Y Z v w' :=
 let ⟨a, b, y, z, h1, h2⟩ := h
 ⟨a, b, y, z, h1, h2.below hb⟩
theorem ClV.kt {T : TypeId} {A B Y Z C : Nat} {v : Value} {w w' : World} (h : ClV A B Y Z v w) (k : KT T C w w') : ClV A B Y Z v w' :=
 let ⟨a, b, y, z, h1, h2⟩ := h
 ⟨a, b, y, z, h1, h2.kt k⟩
def ClF (T : TypeId) (A B Y Z : Nat) (o : Obj) (w : World) : Prop := ∃ xa xb xy xz : Option Addr × Nat × Nat, o = .cells #[.slice xa.1 xa.2.1 xa.2.2, .slice xb.1 xb.2.1 xb.2.2, .slice xy.1 xy.2.1 xy.2.2, .slice xz.1 xz.2.1 xz.2.2] T (0, 0) /\ AtC A B Y Z xa xb xy xz w
theorem ClF.below {T : TypeId} {A B Y Z : Nat} {o : Obj} {w w' : World} (hb : Below w.heap.size w w') (h : ClF T A B Y Z o w) : ClF T A B Y Z o w' :=
 let ⟨a, b, y, z, h1, h2⟩ := h
 ⟨a, b, y, z, h1, h2.below hb⟩
def z4 (T : TypeId) : Obj := .cells #[.slice none 0 0, .slice none 0 0, .slice none 0 0, .slice none 0 0] T (0, 0)
theorem cells4 {w : World} {b : Nat} {v0 v1 v2 v3 : Value} {T : TypeId} (h : w.heap[b]? = some (.cells #[v0, v1, v2, v3] T (0, 0))) :
  (w.cell? ⟨b, 0, none⟩ = some v0 /\ w.cell? ⟨b, 1, none⟩ = some v1 /\ w.cell? ⟨b, 2, none⟩ = some v2 /\ w.cell? ⟨b, 3, none⟩ = some v3) /\ w.frozen? ⟨b, 0, none⟩ = false /\ w.frozen? ⟨b, 1, none⟩ = false /\ w.frozen? ⟨b, 2, none⟩ = false /\ w.frozen? ⟨b, 3, none⟩ = false := by
 simp [World.cell?, World.frozen?, h]
theorem marked_rowM {w : World} {g : Nat} {t : TypeId} {fr : Nat × Nat} {bs : List Nat} {n : Nat} (h : w.heap[g]? = some (.cells (bs.map fun (x : Nat) => Value.int .u8 (x : Int)).toArray t fr)) (hn : n = bs.length) (hm : n <= 9223372036854775807) : RowIn w .u8 (some ⟨g, 0, none⟩) n n bs :=
 ⟨hn, Nat.le_refl _, hm, fun _ => ⟨hn, Nat.le_refl _, hm, .inr ⟨g, 0, rfl, (Array.getElem?_eq_some_iff.1 h).1, fun i x hx => by
  rw [Nat.zero_add]
  unfold World.cell?
  dsimp only
  rw [h]
  simp [hx]⟩⟩⟩
def BytesT (n : Nat) (bs : List Nat) (v : Value) (w : World) : Prop := ∃ g, v = .tuple #[.slice (some ⟨g, 0, none⟩) n n, .int .i64 0] /\ Blk w g 5 .u8 bs
def BytesV (n : Nat) (bs : List Nat) (v : Value) (w : World) : Prop := ∃ g, v = .slice (some ⟨g, 0, none⟩) n n /\ Blk w g 5 .u8 bs
theorem BytesT.below {n : Nat} {bs : List Nat} {v : Value} {w w' : World} (h : BytesT n bs v w) (hb : Below w.heap.size w w') : BytesT n bs v w' :=
 let ⟨g, h1, h2⟩ := h
 ⟨g, h1, h2.below hb h2.lt⟩
theorem BytesV.below {n : Nat} {bs : List Nat} {v : Value} {w w' : World} (h : BytesV n bs v w) (hb : Below w.heap.size w w') : BytesV n bs v w' :=
 let ⟨g, h1, h2⟩ := h
 ⟨g, h1, h2.below hb h2.lt⟩
theorem bytes_fit {w : World} {e N s : Nat} {v : Value} (h : Fit e N v w) (he : e <= 30000) (hs : s <= 1000) (hl : N < B8 s) :
  Calls Tryz.prog 130 #[v, .int .i64 (s : Nat)] w fun en w' => ∃ x, en = .returned x /\ BytesT s (beOf N s) x w' /\ Below w.heap.size w w' := by
 obtain ⟨p, n, c, rfl, h1, h2⟩ := h
 have l1 := h1.len_le h2
 have l2 := lim_blen h2
 have l3 := bsize_le.2 hl
 refine (bytes_blk w p n c N s h1 (by omega) (by omega) (by omega) (by omega)).mono ?_
 rintro en w' ⟨g, rfl, hb, hbel, _⟩
 exact ⟨_, rfl, ⟨g, rfl, hb⟩, hbel⟩
theorem blk_part {w : World} {g n N : Nat} (h : Blk w g 5 .u8 (beOf N n)) (hn : n <= 1000) : PartOk w ⟨some ⟨g, 0, none⟩, n, n, beOf N n⟩ :=
 ⟨⟨(beOf_length N n).symm, Nat.le_refl _, Nat.le_trans hn (by decide), fun _ => h.row (beOf_length N n).symm (Nat.le_refl _) (Nat.le_trans hn (by decide))⟩, (leOf_bytes N n).reverse⟩
theorem parts4 (w : World) (P Q R S : Part) (hP : PartOk w P) (hQ : PartOk w Q) (hR : PartOk w R) (hS : PartOk w S) : PartsIn (w.alloc (.cells #[.slice P.p P.n P.c, .slice Q.p Q.n Q.c, .slice R.p R.n R.c, .slice S.p S.n S.c] 60)) (some ⟨w.heap.size, 0, none⟩) 4 4 [P, Q, R, S] := by
 have hb : Below w.heap.size w (w.alloc (.cells #[.slice P.p P.n P.c, .slice Q.p Q.n Q.c, .slice R.p R.n R.c, .slice S.p S.n S.c] 60)) := bal
 have hn := heap_alloc_new w (.cells #[.slice P.p P.n P.c, .slice Q.p Q.n Q.c, .slice R.p R.n R.c, .slice S.p S.n S.c] 60)
 refine ⟨rfl, Nat.le_refl _, by omega, fun i X hX => ?_, fun _ => ⟨w.heap.size, 0, rfl, by simp, fun i X hX => ?_⟩⟩
 ·match i, hX with
  | 0, h => cases h; exact hP.below hb
  | 1, h => cases h; exact hQ.below hb
  | 2, h => cases h; exact hR.below hb
  | 3, h => cases h; exact hS.below hb
 ·match i, hX with
  | 0, h => cases h; unfold World.cell?; dsimp only; rw [hn]; rfl
  | 1, h => cases h; unfold World.cell?; dsimp only; rw [hn]; rfl
  | 2, h => cases h; unfold World.cell?; dsimp only; rw [hn]; rfl
  | 3, h => cases h; unfold World.cell?; dsimp only; rw [hn]; rfl
theorem bytes_fitB {w : World} {e N s : Nat} {v : Value} (h : Fit e N v w) (he : e <= 30000) (hs : s <= 1000) (hl : N < B8 s) :
  Calls Tryz.prog 130 #[v, .int .i64 (s : Nat)] w fun en w' => ∃ g, en = .returned (.tuple #[.slice (some ⟨g, 0, none⟩) s s, .int .i64 0]) /\ Blk w' g 5 .u8 (beOf N s) /\ w.heap.size <= g /\ Below w.heap.size w w' := by
 obtain ⟨p, n, c, rfl, h1, h2⟩ := h
 have l1 := h1.len_le h2
 have l2 := lim_blen h2
 have l3 := bsize_le.2 hl
 refine (bytes_blk w p n c N s h1 (by omega) (by omega) (by omega) (by omega)).mono ?_
 rintro en w' ⟨g, rfl, hb, hbel, hn⟩
 exact ⟨g, rfl, hb, hn, hbel⟩
def BytT3 (B n : Nat) (bs : List Nat) (v : Value) (w : World) : Prop := ∃ g, v = .tuple #[.slice (some ⟨g, 0, none⟩) n n, .int .i64 0] /\ B <= g /\ Blk w g 5 .u8 bs
def BytV3 (B n : Nat) (bs : List Nat) (v : Value) (w : World) : Prop := ∃ g, v = .slice (some ⟨g, 0, none⟩) n n /\ B <= g /\ Blk w g 5 .u8 bs
theorem BytT3.below {B n : Nat} {bs : List Nat} {v : Value} {w w' : World} (h : BytT3 B n bs v w) (hb : Below w.heap.size w w') : BytT3 B n bs v w' :=
 let ⟨g, h1, h2, h3⟩ := h
 ⟨g, h1, h2, h3.below hb h3.lt⟩
theorem BytV3.below {B n : Nat} {bs : List Nat} {v : Value} {w w' : World} (h : BytV3 B n bs v w) (hb : Below w.heap.size w w') : BytV3 B n bs v w' :=
 let ⟨g, h1, h2, h3⟩ := h
 ⟨g, h1, h2, h3.below hb h3.lt⟩
theorem member_fit {w : World} {b P Q G H e A sz : Nat} {v : Value} (hg : GroupAt w b P Q G H) (hv : Fit e A v w) (he : e <= 30000) (hA : A < P) (hsz : bsize P = sz) (hs : sz <= 16) :
  Calls Tryz.prog 148 #[.pointer (some ⟨b, 0, none⟩), v] w fun en w' => ∃ g, en = .returned (.slice (some ⟨g, 0, none⟩) sz sz) /\ w.heap.size <= g /\ Blk w' g 5 .u8 (beOf A sz) /\ Below w.heap.size w w' := by
 obtain ⟨pa, na, ca, rfl, h1, h2⟩ := fit_cases hv
 have hX0 := NatBox.made w (.slice pa na ca)
 have hb0 : Below w.heap.size w (w.alloc (.cells #[.slice pa na ca] 36)) := bal
 obtain ⟨wa, hwa⟩ : ∃ wa, w.alloc (.cells #[.slice pa na ca] 36) = wa := ⟨_, rfl⟩
 rw [hwa] at hX0 hb0
 have HBL := hol hb0
 have HX0 := hol hX0
 have HA := hol ((Fit.of h1 h2).below hb0)
 have HG := hol (hg.below hb0)
 have hlm := bsize_lt P
 rw [hsz] at hlm
 have HSZ := hol hsz
 have HLM : Hold (A < B8 sz) := ⟨by omega⟩
 clear h1 h2 hX0 hb0 hg hv hsz hlm hA
 go_enter Tryz.func148, Tryz.ntmps148
 go_wp2
 refine wp_region_duties (by kernel_rfl) (by kernel_rfl)
  [some (.agg #[.slice pa na ca]), some (.pointer (some ⟨b, 0, none⟩)), none, none, none, none, some (.int .i64 0), none, some (.int .i64 0)]
  [false, false, true, true, true, true, false, true, false] rfl
  (fun w1 w2 => Below w1.heap.size w1 w2)
  (fun _ w' => Below wa.heap.size wa w')
  (fun i v w' => match i with
   | 2 => v = .int .i64 (sz : Nat)
   | 3 => BytT3 w.heap.size (sz) (beOf A sz) v w'
   | 4 => BytT3 w.heap.size (sz) (beOf A sz) v w'
   | 5 => BytV3 w.heap.size (sz) (beOf A sz) v w'
   | 7 => BytV3 w.heap.size (sz) (beOf A sz) v w'
   | _ => True)
  ?_ (Below.refl _ _).drew ?_ ?_
 ·intro i v w1 w2 hf hb
  split at hf
  ·exact hf
  ·exact hf.below hb
  ·exact hf.below hb
  ·exact hf.below hb
  ·exact hf.below hb
  ·trivial
 ·simp only [Duties, Nat.reduceAdd]
  refine ⟨?_, ?_, ?_, ?_, ?_, ?_, ?_, ?_, ?_, trivial⟩
  all_goals intro D sp w' hD hW hdp hbx'
  case refine_1 =>
   have c0 := (HX0.out.below hbx' HX0.out.lt).cell
   with_reducible refine asked_pl ?_ ?_
   all_goals simp [Region.wanted, yielded, execOp, Act.eval, Act.put, go_sem, c0]
  case refine_3 =>
   (with_reducible refine asked_call (w1 := w') (f := 193) (args := #[.pointer (some ⟨b, 0, none⟩)]) ?_ ?_ ?_)
   ·simp [Region.wanted, yielded, Act.put, go_sem]
   ·simp [Act.eval, Act.put, go_sem]
   ·refine (gsize_fit (HG.out.below hbx')).mono ?_
    rintro en w9 ⟨rfl, hb⟩
    rw [HSZ.out]
    exact ⟨_, rfl, hb, rfl, bstep hbx' hb⟩
  case refine_4 =>
   have k2 : (sp 2) = .int .i64 (sz : Nat) := (hdp 2 (mq (by kernel_rfl))).2
   (with_reducible refine asked_call (w1 := w') (f := 130) (args := #[.agg #[.slice pa na ca], .int .i64 (sz : Nat)]) ?_ ?_ ?_)
   ·first | (simp only [Region.wanted]; done) | simp [Region.wanted, yielded, Act.put, go_sem, k2]
   ·simp [Act.eval, Act.put, go_sem, k2]
   ·refine (bytes_fitB (HA.out.below hbx') he (by omega) HLM.out).mono ?_
    rintro en w9 ⟨g9, rfl, hu, hg9, hb⟩
    exact ⟨_, rfl, hb, ⟨g9, rfl, Nat.le_trans HBL.out.size (Nat.le_trans hbx'.size hg9), hu⟩, bstep hbx' hb⟩
  case refine_5 =>
   have k3 : BytT3 w.heap.size (sz) (beOf A sz) (sp 3) w' := (hdp 3 (mq (by kernel_rfl))).2
   (with_reducible refine asked_value (w1 := w') (v := sp 3) ?_ ?_ ?_)
   ·simp [Region.wanted, yielded, Act.put, go_sem]
   ·simp [execOp, Act.eval, Act.put, go_sem]
   ·exact ⟨Below.refl _ _, k3, hbx'⟩
  case refine_6 =>
   have hx : ∃ g, sp 4 = .tuple #[.slice (some ⟨g, 0, none⟩) (sz) (sz), .int .i64 0] /\ w.heap.size <= g /\ Blk w' g 5 .u8 (beOf A sz) := (hdp 4 (mq (by kernel_rfl))).2
   (with_reducible refine Exists.elim hx fun g hx1 => ?_)
   have h1 := hx1.1
   (with_reducible refine asked_value (w1 := w') (v := .slice (some ⟨g, 0, none⟩) (sz) (sz)) ?_ ?_ ?_)
   ·simp only [Region.wanted]
   ·simp [execOp, Act.eval, Act.put, go_sem, h1]
   ·exact ⟨Below.refl _ _, ⟨g, rfl, hx1.2⟩, hbx'⟩
  case refine_7 =>
   have hx : ∃ g, sp 4 = .tuple #[.slice (some ⟨g, 0, none⟩) (sz) (sz), .int .i64 0] /\ w.heap.size <= g /\ Blk w' g 5 .u8 (beOf A sz) := (hdp 4 (mq (by kernel_rfl))).2
   (with_reducible refine Exists.elim hx fun g hx1 => ?_)
   have h1 := hx1.1
   with_reducible refine asked_pl ?_ ?_
   all_goals simp [Region.wanted, yielded, execOp, Act.eval, Act.put, go_sem, h1]
  case refine_8 =>
   have k5 : BytV3 w.heap.size (sz) (beOf A sz) (sp 5) w' := (hdp 5 (mq (by kernel_rfl))).2
   (with_reducible refine asked_value (w1 := w') (v := sp 5) ?_ ?_ ?_)
   ·simp [Region.wanted, yielded, Act.put, go_sem]
   ·simp [execOp, Act.eval, Act.put, go_sem]
   ·exact ⟨Below.refl _ _, k5, hbx'⟩
  all_goals ((with_reducible refine asked_pl ?_ ?_); all_goals first | (simp only [Region.wanted]; done) | simp [Region.wanted, yielded, execOp, Act.eval, Act.put, go_sem])
 ·intro sp w1 hsp hb1
  obtain ⟨ga, e7, hga, hk7⟩ : BytV3 w.heap.size sz (beOf A sz) (sp 7) w1 := hsp 7 rfl
  have HKA := hol hk7
  have HGA := hol hga
  have HBL1 := hol (bstep HBL.out hb1)
  clear hsp hb1 hk7 hga
  simp only [frameOf, Nat.reduceAdd]
  rw [e7]
  clear e7 hwa
  generalize sp 2 = y2, sp 3 = y3, sp 4 = y4, sp 5 = y5 at *
  go_simp
  go_wp2
  go_ret
  exact ⟨ga, rfl, HGA.out, HKA.out, HBL1.out⟩
def SigV (C S : Nat) (v : Value) (w : World) : Prop := ∃ x y : Option Addr × Nat × Nat, v = .agg #[.slice x.1 x.2.1 x.2.2, .slice y.1 y.2.1 y.2.2] /\ At3 w x C /\ At3 w y S
theorem SigV.below {C S : Nat} {v : Value} {w w' : World} (h : SigV C S v w) (hb : Below w.heap.size w w') : SigV C S v w' :=
 let ⟨x, y, h1, h2, h3⟩ := h
 ⟨x, y, h1, h2.below hb, h3.below hb⟩
theorem SigV.keep {B C S : Nat} {v : Value} {w w' : World} (h : SigV C S v w) (k : Keep B w w') : SigV C S v w' :=
 let ⟨x, y, h1, h2, h3⟩ := h
 ⟨x, y, h1, k.nat _ _ _ _ h2, k.nat _ _ _ _ h3⟩
theorem SigV.kt {T : TypeId} {B C S : Nat} {v : Value} {w w' : World} (h : SigV C S v w) (k : KT T B w w') : SigV C S v w' := h.keep k.k
def PrF (C S : Nat) (o : Obj) (w : World) : Prop := ∃ x y : Option Addr × Nat × Nat, o = .cells #[.slice x.1 x.2.1 x.2.2, .slice y.1 y.2.1 y.2.2] 142 (0, 0) /\ At3 w x C /\ At3 w y S
theorem PrF.below {C S : Nat} {o : Obj} {w w' : World} (hb : Below w.heap.size w w') (h : PrF C S o w) : PrF C S o w' :=
 let ⟨x, y, h1, h2, h3⟩ := h
 ⟨x, y, h1, h2.below hb, h3.below hb⟩
def zP : Obj := .cells #[.slice none 0 0, .slice none 0 0] 142 (0, 0)
theorem cells2 {w : World} {b : Nat} {v0 v1 : Value} {T : TypeId} (h : w.heap[b]? = some (.cells #[v0, v1] T (0, 0))) : (w.cell? ⟨b, 0, none⟩ = some v0 /\ w.cell? ⟨b, 1, none⟩ = some v1) /\ w.frozen? ⟨b, 0, none⟩ = false /\ w.frozen? ⟨b, 1, none⟩ = false :=
 ⟨⟨by simp [World.cell?, h], by simp [World.cell?, h]⟩, by simp [World.frozen?, h], by simp [World.frozen?, h]⟩
theorem answered_fit {w : World} {b P Q G H ek ec ex K C X : Nat} {vk vc vx : Value} (hg : GroupAt w b P Q G H) (hk : Fit ek K vk w) (hc : Fit ec C vc w) (hx : Fit ex X vx w) (hek : ek <= 33) (hec : ec <= 33) (hex : ex <= 30000) :
  Calls Tryz.prog 94 #[.pointer (some ⟨b, 0, none⟩), vk, vc, vx] w fun en w' => ∃ x, en = .returned x /\ SigV C ((K + C * X % Q) % Q) x w' /\ Below w.heap.size w w' := by
 obtain ⟨pk, nk, ck, rfl, h1, h2⟩ := fit_cases hk
 obtain ⟨pc, nc, cc, rfl, h3, h4⟩ := fit_cases hc
 obtain ⟨px, nx, cx, rfl, h5, h6⟩ := fit_cases hx
 have hbx := NB3.mk3 w (.slice pk nk ck) (.slice pc nc cc) (.slice px nx cx)
 have hz3 : (((w.alloc (.cells #[.slice pk nk ck] 36)).alloc (.cells #[.slice pc nc cc] 36)).alloc (.cells #[.slice px nx cx] 36)).heap.size = w.heap.size + 1 + 1 + 1 := by simp
 obtain ⟨w0, hw0⟩ : ∃ wa, ((w.alloc (.cells #[.slice pk nk ck] 36)).alloc (.cells #[.slice pc nc cc] 36)).alloc (.cells #[.slice px nx cx] 36) = wa := ⟨_, rfl⟩
 rw [hw0] at hbx hz3
 have hb0 : Below w0.heap.size w0 (w0.alloc (.cells #[.slice none 0 0, .slice none 0 0] 142)) := bal
 have hz0 : (w0.alloc (.cells #[.slice none 0 0, .slice none 0 0] 142)).heap[w0.heap.size]? = some zP := heap_alloc_new w0 _
 obtain ⟨wa, hwa⟩ : ∃ wa, w0.alloc (.cells #[.slice none 0 0, .slice none 0 0] 142) = wa := ⟨_, rfl⟩
 rw [hwa] at hb0 hz0
 rw [hz3] at hz0
 have hbel := bstep hbx.bel hb0
 have HXK0 := hol (hbx.b0.below hb0 hbx.b0.lt)
 have HXC0 := hol (hbx.b1.below hb0 hbx.b1.lt)
 have HXX0 := hol (hbx.b2.below hb0 hbx.b2.lt)
 have HBL := hol hbel
 have HZ0 := hol hz0
 have HK0 := hol ((Fit.of h1 h2).below hbel)
 have HC0 := hol ((Fit.of h3 h4).below hbel)
 have HX0 := hol ((Fit.of h5 h6).below hbel)
 have HG := hol (hg.below hbel)
 have hQ2 := hg.lims.2.2
 have HWS : Hold (w.heap.size + 1 + 1 + 1 < wa.heap.size) := ⟨(Array.getElem?_eq_some_iff.1 hz0).1⟩
 obtain ⟨MM, hMM⟩ : ∃ M, C * X % Q = M := ⟨_, rfl⟩
 obtain ⟨SS, hSS⟩ : ∃ S, (K + MM) % Q = S := ⟨_, rfl⟩
 have HMM := hol hMM
 have HSS := hol hSS
 obtain ⟨CC, hCC⟩ : ∃ M, C = M := ⟨_, rfl⟩
 rw [hCC] at HC0 HMM
 rw [hMM, hSS, hCC]
 clear hMM hSS hCC h1 h2 h3 h4 h5 h6 hbx hg hk hc hx hb0 hz0 hbel
 go_enter Tryz.func94, Tryz.ntmps94
 go_wp2_with fail
 refine (gfield_fit HG.out).mono ?_
 rintro en w1 ⟨r, rfl, hr, hb1⟩
 have HR : Hold (∀ w', KT 142 (w.heap.size + 1 + 1 + 1) w1 w' -> Ring w' r Q 33) := ⟨fun w' k => hr.kt k (by decide)⟩
 have hXK := HXK0.out.below hb1 HXK0.out.lt
 have HXK := hol hXK
 have HXC := hol (HXC0.out.below hb1 HXC0.out.lt)
 have HXX := hol (HXX0.out.below hb1 HXX0.out.lt)
 have HK := hol (HK0.out.below hb1)
 have HC := hol (HC0.out.below hb1)
 have HX := hol (HX0.out.below hb1)
 have HB1 := hol (bstep HBL.out hb1)
 have HZ1 : Hold (w1.heap[(w.heap.size + 1 + 1 + 1)]? = some zP) := ⟨by rw [hb1.block _ HWS.out]; exact HZ0.out⟩
 have HSB : Hold (∀ {w' : World}, KT 142 (w.heap.size + 1 + 1 + 1) w1 w' -> (w.heap.size + 1 + 1 + 1) <= w'.heap.size) := ⟨fun k => by have h1 := k.k.bel.size; have h2 := hb1.size; have h3 := HWS.out; omega⟩
 clear hr hb1 hXK HXK0 HXC0 HXX0 HK0 HC0 HX0
 go_wp2
 refine wp_region_duties (by kernel_rfl) (by kernel_rfl)
  [some (.agg #[.slice pc nc cc]), some (.pointer (some ⟨r, 0, none⟩)), some (.agg #[.slice pk nk ck]), some (.pointer (some ⟨r, 0, none⟩)), some (.agg #[.slice pc nc cc]), some (.agg #[.slice px nx cx]), none, none, none, none]
  [false, false, false, false, false, false, true, true, true, true] rfl
  (fun w1 w2 => KT 142 (w.heap.size + 1 + 1 + 1) w1 w2)
  (fun D w' => KT 142 (w.heap.size + 1 + 1 + 1) w1 w' /\ StO (D 9) (w.heap.size + 1 + 1 + 1) zP (PrF CC SS) w')
  (fun i v w' => match i with
   | 6 => Fit 33 (MM) v w'
   | 7 => Fit 33 (SS) v w'
   | 8 => SigV CC SS v w'
   | 9 => True
   | _ => True)
  ?_ ⟨KT.drew _ _ _, StO.start HZ1.out⟩ ?_ ?_
 ·intro i v w1 w2 hf hb
  split at hf
  ·exact hf.kt hb
  ·exact hf.kt hb
  ·exact hf.kt hb
  ·exact hf
  ·trivial
 ·simp only [Duties, Nat.reduceAdd]
  refine ⟨?_, ?_, ?_, ?_, ?_, ?_, ?_, ?_, ?_, ?_, trivial⟩
  all_goals intro D sp w' hD hW hdp hbx'
  case refine_1 | refine_5 =>
   have c0 := (HXC.out.below hbx'.1.k.bel (by omega)).cell
   with_reducible refine asked_pl ?_ ?_
   all_goals simp [Region.wanted, yielded, execOp, Act.eval, Act.put, go_sem, c0]
  case refine_3 =>
   have c0 := (HXK.out.below hbx'.1.k.bel (by omega)).cell
   with_reducible refine asked_pl ?_ ?_
   all_goals simp [Region.wanted, yielded, execOp, Act.eval, Act.put, go_sem, c0]
  case refine_6 =>
   have c0 := (HXX.out.below hbx'.1.k.bel (by omega)).cell
   with_reducible refine asked_pl ?_ ?_
   all_goals simp [Region.wanted, yielded, execOp, Act.eval, Act.put, go_sem, c0]
  case refine_7 =>
   (with_reducible refine asked_call (w1 := w') (f := 47) (args := #[.pointer (some ⟨r, 0, none⟩), .agg #[.slice pc nc cc], .agg #[.slice px nx cx]]) ?_ ?_ ?_)
   ·simp [Region.wanted, yielded, Act.put, go_sem]
   ·simp [Act.eval, Act.put, go_sem]
   ·refine (rngmul_fit (HR.out w' hbx'.1) (HC.out.keep hbx'.1.k) (HX.out.keep hbx'.1.k) (by omega) (by omega)).mono ?_
    rintro en w9 ⟨u, rfl, hu, hb⟩
    rw [HMM.out] at hu
    exact ⟨u, rfl, KT.of hb (HSB.out hbx'.1), hu, ⟨hbx'.1.trans (KT.of hb (HSB.out hbx'.1)), by simpa [upd] using hbx'.2.later hb (fun o h => h.below hb)⟩⟩
  case refine_8 =>
   have k6 : Fit 33 (MM) (sp 6) w' := (hdp 6 (mq (by kernel_rfl))).2
   (with_reducible refine asked_call (w1 := w') (f := 46) (args := #[.pointer (some ⟨r, 0, none⟩), .agg #[.slice pk nk ck], sp 6]) ?_ ?_ ?_)
   ·simp [Region.wanted, yielded, Act.put, go_sem]
   ·simp [Act.eval, Act.put, go_sem]
   ·refine (rngadd_fit (HR.out w' hbx'.1) (HK.out.keep hbx'.1.k) k6 (by omega) (by decide)).mono ?_
    rintro en w9 ⟨u, rfl, hu, hb⟩
    rw [HSS.out] at hu
    exact ⟨u, rfl, KT.of hb (HSB.out hbx'.1), hu, ⟨hbx'.1.trans (KT.of hb (HSB.out hbx'.1)), by simpa [upd] using hbx'.2.later hb (fun o h => h.below hb)⟩⟩
  case refine_9 =>
   have hx : ∃ p n c, sp 7 = .agg #[.slice p n c] /\ NatAt w' p n c (SS) /\ SS < B32 (33) := (hdp 7 (mq (by kernel_rfl))).2
   (with_reducible refine Exists.elim hx fun p hx1 => Exists.elim hx1 fun n hx2 => Exists.elim hx2 fun c hx3 => ?_)
   have h1 := hx3.1
   (with_reducible refine asked_value (w1 := w') (v := .agg #[.slice pc nc cc, .slice p n c]) ?_ ?_ ?_)
   ·simp only [Region.wanted]
   ·simp [execOp, Act.eval, Act.put, go_sem, h1]
   ·exact ⟨KT.same _ _ _, ⟨(pc, nc, cc), (p, n, c), rfl, fit_nat (HC.out.keep hbx'.1.k), hx3.2.1⟩, by simpa [upd] using hbx'⟩
  case refine_10 =>
   have hx : ∃ x y : Option Addr × Nat × Nat, sp 8 = .agg #[.slice x.1 x.2.1 x.2.2, .slice y.1 y.2.1 y.2.2] /\ At3 w' x CC /\ At3 w' y SS := (hdp 8 (mq (by kernel_rfl))).2
   (with_reducible refine Exists.elim hx fun x hx1 => Exists.elim hx1 fun y hx2 => ?_)
   have h1 := hx2.1
   rw [hD] at hbx'
   have h5 : w'.heap[(w.heap.size + 1 + 1 + 1)]? = some (.cells #[.slice none 0 0, .slice none 0 0] 142 (0, 0)) := hbx'.2.1 rfl
   have hp := put2 (u0 := .slice x.1 x.2.1 x.2.2) (u1 := .slice y.1 y.2.1 y.2.2) h5
   have hkt := hp.kt h5 (slices2 (none, 0, 0) (none, 0, 0)) (Nat.le_refl _)
   have g0 := cells2 h5
   (with_reducible refine asked_skip (w1 := set2 w' (w.heap.size + 1 + 1 + 1) (.slice x.1 x.2.1 x.2.2) (.slice y.1 y.2.1 y.2.2)) ?_ ?_ ?_)
   ·simp only [Region.wanted]
   ·simp [execOp, Act.eval, Act.put, go_sem, h1, g0.1, g0.2.1, g0.2.2, set2]
   ·refine ⟨hkt, trivial, hbx'.1.trans hkt, ?_⟩
    have h8 : StO true (w.heap.size + 1 + 1 + 1) zP (PrF CC SS) _ := StO.done hp.new ⟨x, y, rfl, hkt.k.nat _ _ _ _ hx2.2.1, hkt.k.nat _ _ _ _ hx2.2.2⟩
    simpa [upd] using h8
  all_goals ((with_reducible refine asked_pl ?_ ?_); all_goals first | (simp only [Region.wanted]; done) | simp [Region.wanted, yielded, execOp, Act.eval, Act.put, go_sem])
 ·intro sp w8 hsp hk
  obtain ⟨hk1, hk2⟩ := hk
  obtain ⟨_, hz, x, y, rfl, hC, hS⟩ := hk2.2 rfl
  have g0 := cells2 hz
  have k0 := g0.1.1
  have k1 := g0.1.2
  have HV : Hold (SigV CC SS (.agg #[.slice x.1 x.2.1 x.2.2, .slice y.1 y.2.1 y.2.2]) w8) := ⟨⟨x, y, rfl, hC, hS⟩⟩
  have HB7 : Hold (Below w.heap.size w w8) := ⟨HB1.out.trans (hk1.k.bel.mono (by omega))⟩
  clear hsp hk1 hk2 hz hC hS g0 hz3
  simp only [frameOf, Nat.reduceAdd]
  generalize sp 6 = y6, sp 7 = y7, sp 8 = y8, sp 9 = y9 at *
  go_simp
  go_wp2
  exact bodyPost_ret (v := .agg #[.slice x.1 x.2.1 x.2.2, .slice y.1 y.2.1 y.2.2]) (by simp [results, Tryz.results94, go_sem, k0, k1]) rfl ⟨_, rfl, HV.out, HB7.out⟩
end Go.Proofs.YthgoeiegdhphjaaGreatDoor
