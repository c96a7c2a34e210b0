/- Sums and products of polynomials in a field, coefficient by coefficient; Newton's way: over numbers. Of no program (stage 10). -/
import Derived.Test.YtdebccghjbfgdaaGreatDoorPock
import Derived.RangeFuncNested
import Derived.RangeFuncBound
import Derived.RangeFuncCalls
import Derived.RangeFuncLeaves
import Derived.Test.YtdebccghjbfgdaaGreatDoorGqB
import Derived.Test.YtdebccghjbfgdaaGreatDoorCpF
import Derived.Test.YtdebccghjbfgdaaGreatDoorRing
import Derived.Test.YtdebccghjbfgdaaGreatDoorFlowR
import Derived.OwnWalkIn
import Derived.TacticsInMore
import Derived.LoopNIn
import Derived.LoopIn
import Derived.Test.YtdebccghjbfgdaaGreatDoorCpI
import Derived.BigRegion
/-! A range over a function, any number of values a round (as Mid, of one value). Of no package of the program. -/
/-! A range over a function whose iterator ranges over a function itself. Of no package of the program. -/
namespace Go.Proofs.YtdebccghjbfgdaaGreatDoor
open Go Go.RowKit
set_option maxRecDepth 100000

/-- Where p holds, what lay lies as it lay. -/
structure Mid (p : Nat → Prop) (W W' : World) : Prop where
  os : W'.os = W.os
  tape : W'.tape = W.tape
  output : W'.output = W.output
  size : W.heap.size ≤ W'.heap.size
  block : ∀ k, k < W.heap.size → p k → W'.heap[k]? = W.heap[k]?

theorem Mid.trans {p : Nat → Prop} {A B C : World} (h : Mid p A B) (k : Mid p B C) : Mid p A C :=
  ⟨k.os.trans h.os, k.tape.trans h.tape, k.output.trans h.output, Nat.le_trans h.size k.size, fun i hi hp => (k.block i (Nat.lt_of_lt_of_le hi h.size) hp).trans (h.block i hi hp)⟩
theorem Mid.of {p : Nat → Prop} {W W' : World} (h : Below W.heap.size W W') : Mid p W W' := ⟨h.os, h.tape, h.output, h.size, fun k hk _ => h.block k hk⟩
theorem Mid.putObj {p : Nat → Prop} (W : World) (l : Nat) (o : Obj) (h : ¬ p l) : Mid p W (W.putObj l o) :=
  let g := grownBy_putObj' W l o
  ⟨g.os, g.tape, g.output, g.size, fun k hk hp => g.block k hk (fun e => by cases e; exact h hp)⟩
theorem Mid.below {p : Nat → Prop} {W W' : World} (h : Mid p W W') {B : Nat} (hB : B ≤ W.heap.size) (hp : ∀ k, k < B → p k) : Below B W W' :=
  ⟨h.os, h.tape, h.output, h.size, fun k hk => h.block k (Nat.lt_of_lt_of_le hk hB) (hp k hk)⟩
theorem Mid.cell {p : Nat → Prop} {W W' : World} (h : Mid p W W') {a : Addr} {u : Value} (hp : p a.block) (hc : W.cell? a = some u) : W'.cell? a = some u := by
  have hlt : a.block < W.heap.size := by
    unfold World.cell? at hc
    rcases Nat.lt_or_ge a.block W.heap.size with h1 | h1
    · exact h1
    · simp [Array.getElem?_eq_none h1] at hc
  rw [World.cell?_of_block (w := W) (h.block _ hlt hp)]; exact hc
theorem ownFrom_mono {β : Type} {B B' : Nat} {I : β → World → Prop} (h : OwnFrom B I) (hB : B ≤ B') : OwnFrom B' I :=
  fun s W W' row hs hg hr => h s W W' row hs hg (fun r e => ⟨Nat.le_trans hB (hr r e).1, (hr r e).2⟩)

variable {F : Fence} {n : Nat} {P : Program}

end Go.Proofs.YtdebccghjbfgdaaGreatDoor

namespace Go.Proofs.YtdebccghjbfgdaaGreatDoor
open Go Go.RowKit
set_option maxRecDepth 100000

/-- THE ITERATOR's WORD, told by number: N rounds, the k-th handed a value of which 'Gd k' holds; every round goes on. 'B': where the heap ends as the iterator is entered: 'l': the loop's record lies below. 'Kp': what a round keeps. -/
def TellsA (F : Fence) (n : Nat) (P : Program) (g : Nat) (lb : Array Value) (B l N : Nat) (Kp : World → World → Prop) (Gd : Nat → Array Value → World → Prop) (W : World) : Prop :=
  ∀ J : Nat → World → Prop, OwnFrom B J →
    (∀ k v W1, k < N → J k W1 → Gd k v W1 → YieldAt F (n - 1) P l v W1 fun e W' => e = .returned (.bool true) ∧ J (k + 1) W' ∧ Kp W1 W') → J 0 W →
    CallsIn F n P g (#[.func (.yield l) #[] #[]] ++ lb) W fun e W' => (∃ v, e = .returned v) ∧ J N W'

variable {F : Fence} {n : Nat} {P : Program}
/-- THE STATEMENT, over such an iterator: the body goes on each time. -/
theorem wpIn_rangeFunc_tellsA {g : Operand} {ts : Array Tmp} {assign body : Code} {Q : Exit → Act → World → Prop} {a : Act} {w : World}
    (hro : F.round = none) (h1 : 1 ≤ n) {gf : Nat} {lb : Array Value} (hg : a.eval g = .func (.func gf) #[] lb) (hFg : F.fn gf) (eg : ∀ args w, (callFunc gf args).run P w = .ok (.enter gf args) w)
    {N : Nat} {Kp : World → World → Prop} {Gd : Nat → Array Value → World → Prop} (hGd : ∀ k vs W, Gd k vs W → vs.size = ts.size)
    (hseq : ∀ W, W.heap.size = w.heap.size + 2 → Below w.heap.size w W → TellsA F (n - 1) P gf lb (w.heap.size + 2) (w.heap.size + 1) N Kp Gd W)
    (hKt : ∀ {A B C : World}, Kp A B → Kp B C → Kp A C) (hKb : ∀ W o, Kp W (W.putObj (w.heap.size + 1) o))
    (I : Nat → World → Prop) (hI : OwnFrom w.heap.size I) (h0 : I 0 w) (Ax : Nat → Act → World → Prop) (hAx : ∀ k a', OwnFrom w.heap.size (fun (_ : Unit) W => Ax k a' W))
    (hassign : ∀ (l k : Nat) (v : Array Value) (W : World) (K : Act → World → Prop), k < N → I k W → Gd k v W → (∀ a' W', KeepsFrom w.heap.size W W' → Kp W W' → Ax k a' W' → K a' W') →
      assign.wpIn (F.inRound l) (n - 1 - 1) P (Exit.then K (fun _ _ _ => False)) { tmps := (ts.zip v).foldl (fun t (p, v) => t.setIfInBounds p v) a.tmps, defers := [] } W)
    (hbody : ∀ (l k : Nat) (a' : Act) (W : World), k < N → Ax k a' W → body.wpIn (F.inRound l) (n - 1 - 1) P (fun e _ W' => e = .normal ∧ KeepsFrom w.heap.size W W' ∧ Kp W W' ∧ I (k + 1) W') a' W)
    (hdone : ∀ (D : Nat) (W : World), w.heap.size ≤ D → I N W → W.heap[D]? = some (.deferred (some [])) → Q .normal { a with defers := { target := .collected D, args := #[] } :: a.defers } W) :
    (Code.rangeFunc g ts assign body).wpIn F n P Q a w := by
  refine wpIn_rangeFunc fun fn hfn => ?_
  rw [hro]
  -- the record, as it stands and as it is in a round
  let st (s : LoopState) : Obj := .loop { state := s, pending := none, fn, tmps := a.tmps, params := ts, assign, body, defers := w.heap.size }
  let W1 : World := (w.alloc (.deferred (some []))).alloc (st .ready)
  have hs1 : W1.heap.size = w.heap.size + 2 := by simp [W1]
  have hr1 : W1.heap[w.heap.size + 1]? = some (st .ready) := by
    have := World.alloc_heap_new (w.alloc (.deferred (some []))) (st .ready); rwa [World.size_alloc] at this
  have hd1 : W1.heap[w.heap.size]? = some (.deferred (some [])) := (Below.heap_alloc _ _ _ (by simp)).trans (World.alloc_heap_new w _)
  have hb1 : Below w.heap.size w W1 := ((Below.refl _ w).alloc (Nat.le_refl _) _).alloc (by simp) _
  have hI1 : I 0 W1 := hI.alloc _ (hI.alloc _ h0)
  refine ⟨w.heap.size + 1, [{ target := .collected w.heap.size, args := #[] }], W1, { target := .fn (.func gf) lb, args := #[.func (.yield (w.heap.size + 1)) #[] #[]] }, W1, gf,
    #[.func (.yield (w.heap.size + 1)) #[] #[]] ++ lb, W1, run_enterLoop_outer _ _ _ _ _, ?_, ?_, ?_, fun _ => h1, ?_⟩
  · simp only [resolve, hg]; simp [go_sem]
  · intro f' hf'; simp [Target.leads] at hf'; subst hf'; exact hFg
  · simp [invoke, go_sem, eg]
  -- what holds between two rounds
  let J : Nat → World → Prop := fun k W => I k W ∧ W.heap[w.heap.size + 1]? = some (st .ready) ∧ W.heap[w.heap.size]? = some (.deferred (some []))
  have hJ : OwnFrom (w.heap.size + 2) J := fun k A B row hs hgr hr => by
    have far : ∀ j, j < w.heap.size + 2 → some j ≠ row := fun j hj e => by have := (hr j e.symm).1; omega
    refine ⟨ownFrom_mono hI (by omega) k A B row hs.1 hgr hr, ?_, ?_⟩
    · exact (hgr.block _ (Array.getElem?_eq_some_iff.1 hs.2.1).1 (far _ (by omega))).trans hs.2.1
    · exact (hgr.block _ (Array.getElem?_eq_some_iff.1 hs.2.2).1 (far _ (by omega))).trans hs.2.2
  refine (hseq W1 hs1 hb1 J hJ ?_ ⟨hI1, hr1, hd1⟩).mono ?_
  · -- one round
    rintro k v W hkN ⟨hi, hl, hd⟩ hgd
    have hy := run_yield (P := P) (args := v) hl (hGd k v W hgd)
    refine ⟨fn, _, assign, body, hy, roundIn_of_wpIn hfn ?_⟩
    refine hassign _ k v W _ hkN hi hgd ?_
    intro a' Wa hka hkpa hax
    have hla := hka.same _ _ (by omega) hl rfl
    have hda := hka.same _ _ (Nat.le_refl _) hd rfl
    have hlt := (Array.getElem?_eq_some_iff.1 hla).1
    refine ⟨_, run_beginRound hla rfl, ?_⟩
    let Wb : World := Wa.putObj (w.heap.size + 1) (st .busy)
    have hlb : Wb.heap[w.heap.size + 1]? = some (st .busy) := World.putObj_heap_same hlt
    have hdb : Wb.heap[w.heap.size]? = some (.deferred (some [])) := (World.putObj_heap_other (by omega)).trans hda
    refine wpIn_mono (hbody _ k a' Wb hkN ((hAx k a').putObj (s := ()) _ hax (by omega) hla rfl)) ?_
    rintro e a3 W3 ⟨rfl, hk3, hp3, hi3⟩
    have hl3 := hk3.same _ _ (by omega) hlb rfl
    have hd3 := hk3.same _ _ (Nat.le_refl _) hdb rfl
    have hlt3 := (Array.getElem?_eq_some_iff.1 hl3).1
    refine ⟨_, _, run_endRound (P := P) none hl3, rfl, ⟨hI.putObj _ hi3 (by omega) hl3 rfl, World.putObj_heap_same hlt3, (World.putObj_heap_other (by omega)).trans hd3⟩, ?_⟩
    exact hKt hkpa (hKt (hKb Wa _) (hKt hp3 (hKb W3 _)))
  · -- behind the iterator
    rintro e W2 ⟨⟨v, rfl⟩, hi, hl, hd⟩
    exact ⟨none, _, run_endLoop (P := P) hl (by simp), hdone _ _ (Nat.le_refl _) (hI.putObj _ hi (by omega) hl rfl) ((World.putObj_heap_other (by omega)).trans hd)⟩

end Go.Proofs.YtdebccghjbfgdaaGreatDoor

/-! Numbers taken into a group's ring, in a row; how many bits the greatest of a row has. -/
namespace Go.Proofs.YtdebccghjbfgdaaGreatDoor
open Go Go.RowKit Go.Proofs.YtdebccghjbfgdaaGreatDoor.Flow
set_option maxRecDepth 100000

/-- A row of numbers of the call's own, as cells. -/
def sv (x : Option Addr × Nat × Nat) : Value := .slice x.1 x.2.1 x.2.2
def SRow (w : World) (g : Nat) (us : List (Option Addr × Nat × Nat)) : Prop := w.heap[g]? = some (.cells (us.map sv).toArray 36 (0, 0))
theorem SRow.lt {w : World} {g : Nat} {us : List (Option Addr × Nat × Nat)} (h : SRow w g us) : g < w.heap.size := (Array.getElem?_eq_some_iff.1 h).1
theorem SRow.below {w w' : World} {g B : Nat} {us : List (Option Addr × Nat × Nat)} (h : SRow w g us) (hb : Below B w w') (hg : g < B) : SRow w' g us := by
  unfold SRow at *; rw [hb.block g hg]; exact h
theorem SRow.cell {w : World} {g j : Nat} {us : List (Option Addr × Nat × Nat)} {x : Option Addr × Nat × Nat} (h : SRow w g us) (hj : us[j]? = some x) : w.cell? ⟨g, j, none⟩ = some (.slice x.1 x.2.1 x.2.2) := by
  unfold SRow at h; simp [World.cell?, h, hj, sv]
theorem SRow.free {w : World} {g : Nat} {us : List (Option Addr × Nat × Nat)} (h : SRow w g us) (j : Nat) : w.frozen? ⟨g, j, none⟩ = false := by
  unfold SRow at h; simp [World.frozen?, h]
theorem SRow.set {w : World} {g : Nat} {us : List (Option Addr × Nat × Nat)} (h : SRow w g us) (j : Nat) (p : Option Addr) (n c : Nat) : SRow (w.setCell ⟨g, j, none⟩ (.slice p n c)) g (us.set j (p, n, c)) := by
  unfold SRow at *
  simp [World.setCell, Array.getElem?_modify, h, List.map_set, sv]
theorem SRow.apart {w : World} {p : Option Addr} {n c N g : Nat} {us : List (Option Addr × Nat × Nat)} (hb : SRow w g us) (h : NatAt w p n c N) (h0 : 0 < n) : ∀ q, p = some q → q.block ≠ g := by
  obtain ⟨ws, r1, r2, r3, r4⟩ := h.ex
  intro a ha hab
  obtain ⟨b', off, k1, k2, k3⟩ := r1.pos h0
  rw [k1] at ha; cases ha
  have hbb : b' = g := hab
  subst hbb
  have h1 := k3 0 (ws.getD 0 0) (by rw [List.getD_eq_getElem?_getD]; simp [show 0 < ws.length by rw [← r1.len]; exact h0])
  rw [Nat.add_zero] at h1
  rcases Nat.lt_or_ge off us.length with h2 | h2
  · rw [hb.cell (List.getElem?_eq_getElem h2)] at h1
    cases h1
  · unfold SRow at hb
    simp [World.cell?, hb, List.getElem?_eq_none h2] at h1
theorem SRow.nat {w : World} {p : Option Addr} {n c N g : Nat} {us : List (Option Addr × Nat × Nat)} (hb : SRow w g us) (h : NatAt w p n c N) (j : Nat) (v : Value) : NatAt (w.setCell ⟨g, j, none⟩ v) p n c N := by
  rcases Nat.eq_zero_or_pos n with rfl | h0
  · exact h.empty (by simp)
  · exact h.setCell (a := ⟨g, j, none⟩) (fun q hq => hb.apart h h0 q hq) v
theorem Keep.store_row {B : Nat} {w : World} {g : Nat} {us : List (Option Addr × Nat × Nat)} (hb : SRow w g us) (hB : B ≤ g) (j : Nat) (v : Value) : Keep B w (w.setCell ⟨g, j, none⟩ v) :=
  ⟨(Below.refl _ _).setCell hB _, fun _ _ _ _ k => hb.nat k j v⟩
theorem RG.store_row {B : Nat} {wx : World} {l : List (Nat × Obj)} {w : World} {g : Nat} {us : List (Option Addr × Nat × Nat)} (h : RG B wx l w) (hb : SRow w g us) (hB : B ≤ g) (hn : ∀ x ∈ l, x.1 ≠ g) (j : Nat) (v : Value) : RG B wx l (w.setCell ⟨g, j, none⟩ v) :=
  ⟨h.keep.trans (Keep.store_row hb hB j v), by simpa using h.base, fun x hx => by
    have := hn x hx
    simp [World.setCell, Array.getElem?_modify, this.symm]
    exact h.blk x hx⟩
/-- A row, one of whose cells is perhaps stored into. -/
structure TRow (d : Bool) (g : Nat) (us : List (Option Addr × Nat × Nat)) (k N : Nat) (w : World) : Prop where
  z : d = false → SRow w g us
  o : d = true → ∃ p n c, SRow w g (us.set k (p, n, c)) ∧ NatAt w p n c N
theorem TRow.later {d : Bool} {g k N : Nat} {us : List (Option Addr × Nat × Nat)} {w w' : World} (h : TRow d g us k N w) (hb : Below w.heap.size w w') : TRow d g us k N w' :=
  ⟨fun e => (h.z e).below hb (h.z e).lt, fun e => let ⟨p, n, c, h1, h2⟩ := h.o e; ⟨p, n, c, h1.below hb h1.lt, h2.below hb⟩⟩
theorem TRow.put {g k N : Nat} {us : List (Option Addr × Nat × Nat)} {w : World} (h : TRow false g us k N w) {p : Option Addr} {n c : Nat} (hx : NatAt w p n c N) : TRow true g us k N (w.setCell ⟨g, k, none⟩ (.slice p n c)) :=
  ⟨(fun e => by cases e), fun _ => ⟨p, n, c, (h.z rfl).set k p n c, (h.z rfl).nat hx k _⟩⟩

/-- make([]nat.Nat, n) -/
theorem make_row (n : Nat) (h : n ≤ 1000000) (w : World) : (Instr.makeSlice 32 (.int .i64 (n : Nat)) (.int .i64 (n : Nat))).run Tryz.prog w =
    .ok (.slice (some ⟨w.heap.size, 0, none⟩) n n) (w.alloc (.cells (madeCells #[.slice none 0 0] n) 36)) := by
  obtain ⟨i, hi, hz, hs, hb⟩ := info_parts Tryz.info_Nat
  have := run_make (P := Tryz.prog) w 32 36 i (.agg #[.slice none 0 0]) Tryz.underlying32 hi hz .i64 .i64 n n (by omega) (by omega) (by rw [hb]; omega) (by omega)
  simp only [Int.toNat_natCast, hs, Nat.mul_one] at this
  rw [this]
  rfl
theorem SRow.made (w : World) (n : Nat) : SRow (w.alloc (.cells (madeCells #[.slice none 0 0] n) 36)) w.heap.size (List.replicate n (none, 0, 0)) := by
  unfold SRow
  have h := toList_madeCells_one (Value.slice none 0 0) n
  have h2 : madeCells #[Value.slice none 0 0] n = ((List.replicate n ((none, 0, 0) : Option Addr × Nat × Nat)).map sv).toArray := by
    rw [← Array.toArray_toList (xs := madeCells #[Value.slice none 0 0] n), h, List.map_replicate]
    rfl
  rw [← h2]
  exact heap_alloc_new w _

/-- The first k of a row are these numbers. -/
def Vals (w : World) (e : Nat) (us : List (Option Addr × Nat × Nat)) (Ns : List Nat) (k : Nat) : Prop := ∀ j N, j < k → Ns[j]? = some N → ∃ x, us[j]? = some x ∧ NatAt w x.1 x.2.1 x.2.2 N ∧ N < B32 e
theorem Vals.keep {w w' : World} {B e k : Nat} {us : List (Option Addr × Nat × Nat)} {Ns : List Nat} (h : Vals w e us Ns k) (hk : Keep B w w') : Vals w' e us Ns k := fun j N hj hN =>
  let ⟨x, h1, h2, h3⟩ := h j N hj hN
  ⟨x, h1, hk.nat _ _ _ _ h2, h3⟩
theorem Vals.step {w : World} {e k N : Nat} {us : List (Option Addr × Nat × Nat)} {Ns : List Nat} (h : Vals w e us Ns k) (hk : k < us.length) (hN : Ns[k]? = some N) {p : Option Addr} {n c : Nat} (hn : NatAt w p n c N) (hl : N < B32 e) : Vals w e (us.set k (p, n, c)) Ns (k + 1) := fun j M hj hM => by
  rcases Nat.lt_or_ge j k with h1 | h1
  · obtain ⟨x, h2, h3⟩ := h j M h1 hM
    exact ⟨x, by rw [List.getElem?_set_ne (by omega)]; exact h2, h3⟩
  · obtain rfl : j = k := by omega
    rw [hN] at hM; cases hM
    exact ⟨(p, n, c), List.getElem?_set_self hk, hn, hl⟩
theorem Vals.plist {w : World} {g e n : Nat} {us : List (Option Addr × Nat × Nat)} {Ns : List Nat} (h : Vals w e us Ns n) (hr : SRow w g us) (hn : Ns.length = n) (hl : n ≤ 1000000) : PList w e (some ⟨g, 0, none⟩) n n Ns :=
  ⟨hn.symm, Nat.le_refl _, by omega, (fun e => by cases e), fun _ => ⟨g, 0, rfl, hr.lt, fun i N hN => by
    have hi : i < n := by have := (List.getElem?_eq_some_iff.1 hN).1; omega
    obtain ⟨x, h1, h2, h3⟩ := h i N hi hN
    exact ⟨x.1, x.2.1, x.2.2, by rw [Nat.zero_add]; exact hr.cell h1, h2, h3⟩⟩⟩

end Go.Proofs.YtdebccghjbfgdaaGreatDoor

/-! Rows of numbers by their places; the functions of slices.Values and slices.Backward over them. -/
/-! What rests on cells lies as it lay where another kind of block turns (a loop's record). -/
namespace Go.Proofs.YtdebccghjbfgdaaGreatDoor
open Go Go.RowKit Go.Proofs.YtdebccghjbfgdaaGreatDoor.Flow
set_option maxRecDepth 100000

/-! What rests on cells lies as it lay where another kind of block turns. -/
section
variable {W W' : World} {row : Option Nat}
def Calm (W : World) (row : Option Nat) : Prop := ∀ r, row = some r → ∃ o : Obj, W.heap[r]? = some o ∧ o.isCells = false
theorem block_kept (hg : W.grownBy W' row) (hr : Calm W row) {b : Nat} {cs : Array Value} {t : TypeId} {m : Nat × Nat} (h : W.heap[b]? = some (.cells cs t m)) : W'.heap[b]? = some (.cells cs t m) := by
  rw [hg.block b (Array.getElem?_eq_some_iff.1 h).1 (fun e => by
    obtain ⟨o, ho, hc⟩ := hr b e.symm
    rw [h] at ho; cases ho; cases hc)]
  exact h
theorem Row.kept {k : IntKind} {p : Option Addr} {n c : Nat} {xs : List Nat} (h : Row W k p n c xs) (hg : W.grownBy W' row) (hr : Calm W row) : Row W' k p n c xs := by
  refine ⟨h.len, h.cap, h.max, ?_⟩
  rcases h.at_ with h1 | ⟨b, off, h1, h2, h3⟩
  · exact .inl h1
  · exact .inr ⟨b, off, h1, Nat.lt_of_lt_of_le h2 hg.size, fun i x hx => cell_kept (h3 i x hx) hg hr⟩
theorem NatAt.kept {p : Option Addr} {n c N : Nat} (h : NatAt W p n c N) (hg : W.grownBy W' row) (hr : Calm W row) : NatAt W' p n c N := by
  obtain ⟨ws, r1, r2, r3, r4⟩ := h.ex
  exact ⟨ws, r1.kept hg hr, r2, r3, r4⟩
theorem Fit.kept {e N : Nat} {v : Value} (h : Fit e N v W) (hg : W.grownBy W' row) (hr : Calm W row) : Fit e N v W' :=
  let ⟨p, n, c, h1, h2, h3⟩ := h
  ⟨p, n, c, h1, h2.kept hg hr, h3⟩
end

end Go.Proofs.YtdebccghjbfgdaaGreatDoor

namespace Go.Proofs.YtdebccghjbfgdaaGreatDoor
open Go Go.RowKit Go.Proofs.YtdebccghjbfgdaaGreatDoor.Flow
set_option maxRecDepth 100000
attribute [local go_sem] Oper.semAt_some

/-- The places of numbers. -/
structure Trip (w : World) (e : Nat) (us : List (Option Addr × Nat × Nat)) (Ns : List Nat) : Prop where
  len : us.length = Ns.length
  at_ : ∀ (i N : Nat), Ns[i]? = some N → ∃ x, us[i]? = some x ∧ At3 w x N ∧ N < B32 e
theorem Trip.below {w w' : World} {e : Nat} {us : List (Option Addr × Nat × Nat)} {Ns : List Nat} (h : Trip w e us Ns) (hb : Below w.heap.size w w') : Trip w' e us Ns :=
  ⟨h.len, fun i N hN => let ⟨x, h1, h2, h3⟩ := h.at_ i N hN; ⟨x, h1, h2.below hb, h3⟩⟩
theorem Trip.get {w : World} {e i : Nat} {us : List (Option Addr × Nat × Nat)} {Ns : List Nat} {x : Option Addr × Nat × Nat} (h : Trip w e us Ns) (hx : us[i]? = some x) : ∃ N, Ns[i]? = some N ∧ At3 w x N ∧ N < B32 e := by
  have hi : i < Ns.length := by rw [← h.len]; exact (List.getElem?_eq_some_iff.1 hx).1
  obtain ⟨y, h1, h2⟩ := h.at_ i _ (List.getElem?_eq_getElem hi)
  rw [hx] at h1; cases h1
  exact ⟨_, List.getElem?_eq_getElem hi, h2⟩
/-- Where a row lies, and what its cells hold. -/
structure RowAt (w : World) (p : Option Addr) (n c b off : Nat) (us : List (Option Addr × Nat × Nat)) : Prop where
  len : us.length = n
  cap : n ≤ c
  max : c ≤ 9223372036854775807
  ptr : 0 < n → p = some ⟨b, off, none⟩ ∧ b < w.heap.size
  cell : ∀ (i : Nat) (x : Option Addr × Nat × Nat), us[i]? = some x → w.cell? ⟨b, off + i, none⟩ = some (sv x)
theorem plist_rowAt {w : World} {e : Nat} {p : Option Addr} {n c : Nat} {Ns : List Nat} (h : PList w e p n c Ns) : ∃ us b off, Trip w e us Ns ∧ RowAt w p n c b off us := by
  rcases Nat.eq_zero_or_pos n with h0 | h0
  · have hN : Ns = [] := List.eq_nil_of_length_eq_zero (by rw [← h.len]; exact h0)
    subst hN
    exact ⟨[], 0, 0, ⟨rfl, fun i N hN => by simp at hN⟩, ⟨h0.symm, h.cap, h.max, fun h1 => by omega, fun i x hx => by simp at hx⟩⟩
  · obtain ⟨b, off, h1, h2, h3⟩ := h.at_ h0
    have hex : ∀ i : Nat, ∃ x : Option Addr × Nat × Nat, ∀ N, Ns[i]? = some N → w.cell? ⟨b, off + i, none⟩ = some (sv x) ∧ At3 w x N ∧ N < B32 e := fun i => by
      cases hi : Ns[i]? with
      | none => exact ⟨(none, 0, 0), fun N hN => by cases hN⟩
      | some N =>
        obtain ⟨q, m, d, k1, k2, k3⟩ := h3 i N hi
        exact ⟨(q, m, d), fun M hM => by cases hM; exact ⟨k1, k2, k3⟩⟩
    let f : Nat → Option Addr × Nat × Nat := fun i => Classical.choose (hex i)
    have hf : ∀ (i N : Nat), Ns[i]? = some N → w.cell? ⟨b, off + i, none⟩ = some (sv (f i)) ∧ At3 w (f i) N ∧ N < B32 e := fun i => Classical.choose_spec (hex i)
    have hg : ∀ (i : Nat) (x : Option Addr × Nat × Nat), ((List.range Ns.length).map f)[i]? = some x → i < Ns.length ∧ x = f i := fun i x hx => by
      rw [List.getElem?_map] at hx
      rcases Nat.lt_or_ge i Ns.length with hi | hi
      · rw [List.getElem?_range hi] at hx
        simp at hx
        exact ⟨hi, hx.symm⟩
      · rw [List.getElem?_eq_none (by simpa using hi)] at hx
        simp at hx
    refine ⟨(List.range Ns.length).map f, b, off, ⟨by simp, fun i N hN => ?_⟩, ⟨by rw [List.length_map, List.length_range]; exact h.len.symm, h.cap, h.max, fun _ => ⟨h1, h2⟩, fun i x hx => ?_⟩⟩
    · have hi : i < Ns.length := (List.getElem?_eq_some_iff.1 hN).1
      exact ⟨f i, by rw [List.getElem?_map, List.getElem?_range hi]; rfl, (hf i N hN).2⟩
    · obtain ⟨hi, rfl⟩ := hg i x hx
      exact (hf i _ (List.getElem?_eq_getElem hi)).1
end Go.Proofs.YtdebccghjbfgdaaGreatDoor

/-! Rests of whole numbers: sums, products, differences and inverses in a field as whole numbers have them. Of no program (stage 10 ahead). -/
/-! Polynomials over a prime, over numbers: as many places as coefficients leave nothing open; what goes through places. Of no program (stage 10 ahead). -/
namespace Go.Proofs.YtdebccghjbfgdaaGreatDoor
set_option maxRecDepth 100000

/-- A polynomial's value: the coefficient of x^0 first. -/
def ev : List Int → Int → Int
  | [], _ => 0
  | c :: p, x => c + x * ev p x
/-! Sums, multiples, a factor more. -/
def addP : List Int → List Int → List Int
  | [], r => r
  | p, [] => p
  | a :: p, b :: r => (a + b) :: addP p r
theorem ev_add (x : Int) : ∀ p r, ev (addP p r) x = ev p x + ev r x
  | [], r => by simp [addP, ev]
  | a :: p, [] => by simp [addP, ev]
  | a :: p, b :: r => by
    show (a + b) + x * ev (addP p r) x = (a + x * ev p x) + (b + x * ev r x)
    rw [ev_add x p r, Int.mul_add]; omega
end Go.Proofs.YtdebccghjbfgdaaGreatDoor

/-! Inverses, over numbers: Euclid's steps with and without signs. -/
namespace Go.Proofs.YtdebccghjbfgdaaGreatDoor
set_option maxRecDepth 100000

theorem mod_of_dvd {M a b : Nat} (h : (M : Int) ∣ (a : Int) - b) : a % M = b % M := by
  have := Int.emod_emod_of_dvd
  have h1 : ((a : Int) - b) % M = 0 := Int.emod_eq_zero_of_dvd h
  have h2 := Int.emod_eq_emod_iff_emod_sub_eq_zero.2 h1
  exact_mod_cast h2
end Go.Proofs.YtdebccghjbfgdaaGreatDoor

namespace Go.Proofs.YtdebccghjbfgdaaGreatDoor
set_option maxRecDepth 100000

theorem idvd_l {q a : Int} (h : q ∣ a) (b : Int) : q ∣ a * b := let ⟨k, hk⟩ := h; ⟨k * b, by rw [hk, Int.mul_assoc]⟩
theorem idvd_r {q a : Int} (h : q ∣ a) (b : Int) : q ∣ b * a := by rw [Int.mul_comm]; exact idvd_l h b
/-- N is the rest of z. -/
structure Is (q N : Nat) (z : Int) : Prop where
  lt : N < q
  dvd : (q : Int) ∣ (N : Int) - z
theorem Is.of {q : Nat} (hq : 0 < q) (N : Nat) : Is q (N % q) N := ⟨Nat.mod_lt _ hq, by
  have h := Nat.div_add_mod N q
  refine ⟨-((N / q : Nat) : Int), ?_⟩
  have h2 : (N : Int) = (q : Int) * (N / q : Nat) + (N % q : Nat) := by rw [← Int.natCast_mul, ← Int.natCast_add, h]
  rw [Int.mul_neg]; omega⟩
theorem Is.alike {q N : Nat} {x y : Int} (h : Is q N x) (hxy : (q : Int) ∣ x - y) : Is q N y := ⟨h.lt, by
  have := Int.dvd_add h.dvd hxy
  rwa [show (N : Int) - x + (x - y) = N - y by omega] at this⟩
theorem Is.uniq {q a b : Nat} {x y : Int} (h : Is q a x) (k : Is q b y) (hxy : (q : Int) ∣ x - y) : a = b := by
  have h1 := Int.dvd_sub (h.alike hxy).dvd k.dvd
  rw [show (a : Int) - y - ((b : Int) - y) = (a : Int) - b by omega] at h1
  have h2 := mod_of_dvd h1
  rwa [Nat.mod_eq_of_lt h.lt, Nat.mod_eq_of_lt k.lt] at h2
theorem Is.rest {q N : Nat} {z : Int} (hq : 0 < q) (h : (q : Int) ∣ (N : Int) - z) : Is q (N % q) z := (Is.of hq N).alike h
theorem Is.add {q a b : Nat} {x y : Int} (h : Is q a x) (k : Is q b y) : Is q ((a + b) % q) (x + y) := Is.rest (Nat.lt_of_le_of_lt (Nat.zero_le _) h.lt) (by
  have := Int.dvd_add h.dvd k.dvd
  rwa [show (a : Int) - x + ((b : Int) - y) = ((a + b : Nat) : Int) - (x + y) by omega] at this)
theorem Is.mul {q a b : Nat} {x y : Int} (h : Is q a x) (k : Is q b y) : Is q (a * b % q) (x * y) := Is.rest (Nat.lt_of_le_of_lt (Nat.zero_le _) h.lt) (by
  have h1 := Int.dvd_add (idvd_l h.dvd (b : Int)) (idvd_r k.dvd x)
  rwa [show ((a : Int) - x) * b + x * ((b : Int) - y) = ((a * b : Nat) : Int) - x * y by rw [Int.sub_mul, Int.mul_sub, Int.natCast_mul]; omega] at h1)
theorem Is.zero {q : Nat} (hq : 0 < q) : Is q 0 0 := ⟨hq, by simp⟩
/-- A value by Horner, in the field. -/
def horQ (q x : Nat) : List Nat → Nat
  | [] => 0
  | c :: l => (c + horQ q x l * x % q) % q
theorem horQ_is {q x : Nat} (hq : 2 ≤ q) : ∀ l : List Nat, Is q (horQ q x l) (ev (l.map fun c : Nat => (c : Int)) x)
  | [] => Is.zero (by omega)
  | c :: l => by
    have ih := horQ_is (q := q) (x := x) hq l
    have h0 : 0 < q := by omega
    have h1 : Is q (horQ q x l * x % q) (ev (l.map fun c : Nat => (c : Int)) x * x) := Is.rest h0 (by
      have := idvd_l ih.dvd (x : Int)
      rwa [Int.sub_mul, ← Int.natCast_mul] at this)
    refine Is.rest h0 ?_
    show (q : Int) ∣ ((c + horQ q x l * x % q : Nat) : Int) - ((c : Int) + x * ev (l.map fun c : Nat => (c : Int)) x)
    have := h1.dvd
    rw [Int.mul_comm] at this
    rwa [show ((c + horQ q x l * x % q : Nat) : Int) - ((c : Int) + x * ev (l.map fun c : Nat => (c : Int)) x) = ((horQ q x l * x % q : Nat) : Int) - x * ev (l.map fun c : Nat => (c : Int)) x by omega]

end Go.Proofs.YtdebccghjbfgdaaGreatDoor

/-! The insertion sort of slices.SortFunc, over numbers. -/
/-! The document's weights, as numbers, are those of WeiM; each number has an inverse, or none. Of no program (stage 10 ahead). -/
namespace Go.Proofs.YtdebccghjbfgdaaGreatDoor
set_option maxRecDepth 100000

def ints (l : List Nat) : List Int := l.map fun a : Nat => (a : Int)
end Go.Proofs.YtdebccghjbfgdaaGreatDoor

namespace Go.Proofs.YtdebccghjbfgdaaGreatDoor
open Go Go.RowKit Go.Proofs.YtdebccghjbfgdaaGreatDoor.Flow
set_option maxRecDepth 100000

/-- A row of the call's own, and what lies behind it. -/
def XRow (w : World) (g : Nat) (us : List (Option Addr × Nat × Nat)) (rest : List Value) : Prop := w.heap[g]? = some (.cells (us.map sv ++ rest).toArray 36 (0, 0))
theorem XRow.lt {w : World} {g : Nat} {us : List (Option Addr × Nat × Nat)} {rest : List Value} (h : XRow w g us rest) : g < w.heap.size := (Array.getElem?_eq_some_iff.1 h).1
theorem XRow.cell {w : World} {g j : Nat} {us : List (Option Addr × Nat × Nat)} {rest : List Value} {x : Option Addr × Nat × Nat} (h : XRow w g us rest) (hj : us[j]? = some x) : w.cell? ⟨g, j, none⟩ = some (.slice x.1 x.2.1 x.2.2) := by
  have hl : j < us.length := (List.getElem?_eq_some_iff.1 hj).1
  unfold XRow at h
  have : (us.map sv ++ rest)[j]? = some (sv x) := by rw [List.getElem?_append_left (by simpa using hl), List.getElem?_map, hj]; rfl
  simp [World.cell?, h, this, sv]
end Go.Proofs.YtdebccghjbfgdaaGreatDoor

namespace Go.Proofs.YtdebccghjbfgdaaGreatDoor
set_option maxRecDepth 100000

theorem ints_append (a b : List Nat) : ints (a ++ b) = ints a ++ ints b := by simp [ints]
theorem ints_length (a : List Nat) : (ints a).length = a.length := by simp [ints]
theorem ev_snoc (x c : Int) : ∀ p : List Int, ev (p ++ [c]) x = ev p x + c * x ^ p.length
  | [] => by simp [ev]
  | a :: p => by
    show a + x * ev (p ++ [c]) x = a + x * ev p x + c * x ^ (p.length + 1)
    rw [ev_snoc x c p, Int.mul_add, Int.pow_succ, Int.mul_comm (x ^ p.length) x, ← Int.mul_assoc c, Int.mul_comm c x, Int.mul_assoc x c, Int.add_assoc]
theorem ev_take {l : List Nat} {i c : Nat} (h : l[i]? = some c) (x : Int) : ev (ints (l.take (i + 1))) x = ev (ints (l.take i)) x + c * x ^ i := by
  have hi := (List.getElem?_eq_some_iff.1 h).1
  rw [snoc_take h, ints_append, show ints [c] = [(c : Int)] from rfl, ev_snoc, ints_length, List.length_take, Nat.min_eq_left (by omega)]
theorem ev_set (x : Int) : ∀ {l : List Nat} {j c : Nat} (_ : l[j]? = some c) (d : Nat), ev (ints (l.set j d)) x = ev (ints l) x + ((d : Int) - c) * x ^ j
  | [], _, _, h, _ => by simp at h
  | a :: l, 0, c, h, d => by
    simp at h
    subst h
    show (d : Int) + x * ev (ints l) x = (a : Int) + x * ev (ints l) x + ((d : Int) - a) * x ^ 0
    rw [Int.pow_zero, Int.mul_one]; omega
  | a :: l, j + 1, c, h, d => by
    have ih := ev_set x (l := l) (j := j) (c := c) (by simpa using h) d
    show (a : Int) + x * ev (ints (l.set j d)) x = (a : Int) + x * ev (ints l) x + ((d : Int) - c) * x ^ (j + 1)
    rw [ih, Int.mul_add, Int.pow_succ, Int.mul_comm (x ^ j) x, ← Int.mul_assoc ((d : Int) - c), Int.mul_comm ((d : Int) - c) x, Int.mul_assoc x ((d : Int) - c), Int.add_assoc]
theorem ev_mod {q : Nat} (hq : 0 < q) (x : Int) : ∀ l : List Nat, (q : Int) ∣ ev (ints (l.map fun c => c % q)) x - ev (ints l) x
  | [] => by simp [ints, ev]
  | a :: l => by
    have ih := ev_mod hq x l
    have h1 := (Is.of hq a).dvd
    show (q : Int) ∣ ((a % q : Nat) : Int) + x * ev (ints (l.map fun c => c % q)) x - ((a : Int) + x * ev (ints l) x)
    have h2 := Int.dvd_add h1 (idvd_r ih x)
    rw [Int.mul_sub] at h2
    rwa [show ((a % q : Nat) : Int) - a + (x * ev (ints (l.map fun c => c % q)) x - x * ev (ints l) x) = ((a % q : Nat) : Int) + x * ev (ints (l.map fun c => c % q)) x - ((a : Int) + x * ev (ints l) x) by omega] at h2
/-- The sum, coefficient by coefficient. -/
def addN : List Nat → List Nat → List Nat
  | [], r => r
  | a :: p, [] => a :: p
  | a :: p, b :: r => (a + b) :: addN p r
theorem addN_length : ∀ p r, (addN p r).length = max p.length r.length
  | [], r => by simp [addN]
  | a :: p, [] => by simp [addN]
  | a :: p, b :: r => by simp only [addN, List.length_cons, addN_length p r]; omega
theorem addN_get : ∀ (p r : List Nat) (i : Nat), i < max p.length r.length → (addN p r)[i]? = some (p.getD i 0 + r.getD i 0)
  | [], r, i, h => by
    simp at h
    simp [addN, h]
  | a :: p, [], i, h => by
    simp only [List.length_nil, Nat.max_zero] at h
    show (a :: p)[i]? = _
    rw [List.getElem?_eq_getElem h, List.getD_eq_getElem?_getD, List.getElem?_eq_getElem h]
    simp
  | a :: p, b :: r, 0, _ => by simp [addN]
  | a :: p, b :: r, i + 1, h => by
    show (addN p r)[i]? = some (p.getD i 0 + r.getD i 0)
    exact addN_get p r i (by simp only [List.length_cons] at h; omega)
theorem ints_addN : ∀ p r, ints (addN p r) = addP (ints p) (ints r)
  | [], r => by simp [addN, ints, addP]
  | a :: p, [] => by simp [addN, ints, addP]
  | a :: p, b :: r => by
    show ((a + b : Nat) : Int) :: ints (addN p r) = ((a : Int) + b) :: addP (ints p) (ints r)
    rw [ints_addN p r, Int.natCast_add]
def addQ (q : Nat) (p r : List Nat) : List Nat := (addN p r).map fun c => c % q
theorem addQ_length (q : Nat) (p r : List Nat) : (addQ q p r).length = max p.length r.length := by rw [addQ, List.length_map, addN_length]
theorem addQ_get (q : Nat) (p r : List Nat) (i : Nat) (h : i < max p.length r.length) : (addQ q p r)[i]? = some ((p.getD i 0 + r.getD i 0) % q) := by
  rw [addQ, List.getElem?_map, addN_get p r i h]; rfl
theorem addQ_ev {q : Nat} (hq : 0 < q) (x : Int) (p r : List Nat) : (q : Int) ∣ ev (ints (addQ q p r)) x - (ev (ints p) x + ev (ints r) x) := by
  have := ev_mod hq x (addN p r)
  rwa [ints_addN, ev_add] at this

/-- A product under way: i coefficients of the one are done, and k of the other one with the next. -/
structure PrSt (q : Nat) (p r : List Nat) (i a k : Nat) (acc : List Nat) : Prop where
  len : acc.length = p.length + r.length - 1
  lt : ∀ c ∈ acc, c < q
  val : ∀ x : Int, (q : Int) ∣ ev (ints acc) x - (ev (ints (p.take i)) x * ev (ints r) x + a * x ^ i * ev (ints (r.take k)) x)
theorem ev_noughts (x : Int) : ∀ n, ev (ints (List.replicate n 0)) x = 0
  | 0 => rfl
  | n + 1 => by
    show ((0 : Nat) : Int) + x * ev (ints (List.replicate n 0)) x = 0
    rw [ev_noughts x n]; simp
theorem PrSt.start {q : Nat} (hq : 0 < q) (p r : List Nat) (a : Nat) : PrSt q p r 0 a 0 (List.replicate (p.length + r.length - 1) 0) :=
  ⟨by simp, fun c hc => by rw [(List.mem_replicate.1 hc).2]; exact hq, fun x => by
    rw [ev_noughts, List.take_zero, List.take_zero]
    simp [ints, ev]⟩
theorem PrSt.step {q : Nat} {p r acc : List Nat} {i a k b c : Nat} (hq : 0 < q) (h : PrSt q p r i a k acc) (hb : r[k]? = some b) (hc : acc[i + k]? = some c) : PrSt q p r i a (k + 1) (acc.set (i + k) ((c + a * b % q) % q)) :=
  ⟨by rw [List.length_set]; exact h.len, fun d hd => by
    rcases List.mem_or_eq_of_mem_set hd with h1 | h1
    · exact h.lt d h1
    · rw [h1]; exact Nat.mod_lt _ hq, fun x => by
    have h1 := h.val x
    have h2 : (q : Int) ∣ (((c + a * b % q) % q : Nat) : Int) - c - a * b := by
      have e1 := (Is.of hq (c + a * b % q)).dvd
      have e2 := (Is.of hq (a * b)).dvd
      have := Int.dvd_add e1 e2
      rwa [show (((c + a * b % q) % q : Nat) : Int) - ((c + a * b % q : Nat) : Int) + (((a * b % q : Nat) : Int) - ((a * b : Nat) : Int)) = (((c + a * b % q) % q : Nat) : Int) - c - a * b by rw [Int.natCast_mul]; omega] at this
    rw [ev_set x hc, ev_take hb, Int.mul_add]
    have h3 := Int.dvd_add h1 (idvd_l h2 (x ^ (i + k)))
    generalize (((c + a * b % q) % q : Nat) : Int) = D at *
    have e : (a : Int) * x ^ i * (b * x ^ k) = a * b * x ^ (i + k) := by
      rw [Int.pow_add, Int.mul_assoc, Int.mul_assoc, ← Int.mul_assoc (x ^ i), Int.mul_comm (x ^ i) (b : Int), Int.mul_assoc]
    rw [e]
    rw [Int.sub_mul (D - c)] at h3
    generalize (D - (c : Int)) * x ^ (i + k) = A at *
    generalize (a : Int) * b * x ^ (i + k) = B at *
    rwa [show ev (ints acc) x - (ev (ints (p.take i)) x * ev (ints r) x + a * x ^ i * ev (ints (r.take k)) x) + (A - B) = ev (ints acc) x + A - (ev (ints (p.take i)) x * ev (ints r) x + (a * x ^ i * ev (ints (r.take k)) x + B)) by omega] at h3⟩
theorem PrSt.next {q : Nat} {p r acc : List Nat} {i a : Nat} (h : PrSt q p r i a r.length acc) (ha : p[i]? = some a) (b : Nat) : PrSt q p r (i + 1) b 0 acc :=
  ⟨h.len, h.lt, fun x => by
    have h1 := h.val x
    rw [List.take_length, ← Int.add_mul] at h1
    rw [ev_take ha, List.take_zero, show ints [] = [] from rfl, show ev [] x = 0 from rfl, Int.mul_zero, Int.add_zero]
    exact h1⟩
theorem PrSt.again {q : Nat} {p r acc : List Nat} {i a : Nat} (h : PrSt q p r i a 0 acc) (b : Nat) : PrSt q p r i b 0 acc :=
  ⟨h.len, h.lt, fun x => by
    have h1 := h.val x
    rw [List.take_zero, show ints [] = [] from rfl, show ev [] x = 0 from rfl, Int.mul_zero] at *
    exact h1⟩
theorem PrSt.done {q : Nat} {p r acc : List Nat} {a : Nat} (h : PrSt q p r p.length a 0 acc) (x : Int) : (q : Int) ∣ ev (ints acc) x - ev (ints p) x * ev (ints r) x := by
  have h1 := h.val x
  rw [List.take_length, List.take_zero, show ints [] = [] from rfl, show ev [] x = 0 from rfl, Int.mul_zero, Int.add_zero] at h1
  exact h1

/-- What a product of polynomials is. -/
structure PrOf (q : Nat) (p r s : List Nat) : Prop where
  len : s.length = p.length + r.length - 1
  lt : ∀ c ∈ s, c < q
  val : ∀ x : Int, (q : Int) ∣ ev (ints s) x - ev (ints p) x * ev (ints r) x
theorem PrOf.of_mod {q : Nat} (hq : 0 < q) {p r s : List Nat} (h : PrOf q (p.map fun c => c % q) (r.map fun c => c % q) s) : PrOf q p r s :=
  ⟨by have := h.len; simpa using this, h.lt, fun x => by
    have h1 := h.val x
    have h2 := ev_mod hq x p
    have h3 := ev_mod hq x r
    generalize ev (ints (p.map fun c => c % q)) x = A at *
    generalize ev (ints (r.map fun c => c % q)) x = B at *
    have h4 := Int.dvd_add h1 (Int.dvd_add (idvd_l h2 B) (idvd_r h3 (ev (ints p) x)))
    rw [Int.sub_mul, Int.mul_sub] at h4
    generalize ev (ints p) x * B = C at *
    rwa [show ev (ints s) x - A * B + (A * B - C + (C - ev (ints p) x * ev (ints r) x)) = ev (ints s) x - ev (ints p) x * ev (ints r) x by omega] at h4⟩

end Go.Proofs.YtdebccghjbfgdaaGreatDoor
