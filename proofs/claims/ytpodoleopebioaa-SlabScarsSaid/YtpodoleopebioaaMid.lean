/- A range over a function whose iterator ranges over a function itself. Of no package of the program. -/
import Derived.Test.YtpodoleopebioaaGen
import Derived.RangeFuncNested
import Derived.RangeFuncBound
import Derived.RangeFuncCalls
import Derived.RangeFuncLeaves
namespace Go.Proofs.Ytpodoleopebioaa
open Go Go.RowKit
set_option maxRecDepth 100000

/-- Where p holds, what lay lies as it lay. -/
structure Mid (p : Nat → Prop) (W W' : World) : Prop where
  os : W'.os = W.os
  tape : W'.tape = W.tape
  output : W'.output = W.output
  size : W.heap.size ≤ W'.heap.size
  block : ∀ k, k < W.heap.size → p k → W'.heap[k]? = W.heap[k]?

theorem Mid.refl (p : Nat → Prop) (W : World) : Mid p W W := ⟨rfl, rfl, rfl, Nat.le_refl _, fun _ _ _ => rfl⟩
theorem Mid.trans {p : Nat → Prop} {A B C : World} (h : Mid p A B) (k : Mid p B C) : Mid p A C :=
  ⟨k.os.trans h.os, k.tape.trans h.tape, k.output.trans h.output, Nat.le_trans h.size k.size, fun i hi hp => (k.block i (Nat.lt_of_lt_of_le hi h.size) hp).trans (h.block i hi hp)⟩
theorem Mid.of {p : Nat → Prop} {W W' : World} (h : Below W.heap.size W W') : Mid p W W' := ⟨h.os, h.tape, h.output, h.size, fun k hk _ => h.block k hk⟩
theorem Mid.mono {p q : Nat → Prop} {W W' : World} (h : Mid p W W') (hq : ∀ k, q k → p k) : Mid q W W' := ⟨h.os, h.tape, h.output, h.size, fun k hk hp => h.block k hk (hq k hp)⟩
theorem Mid.putObj {p : Nat → Prop} (W : World) (l : Nat) (o : Obj) (h : ¬ p l) : Mid p W (W.putObj l o) :=
  let g := grownBy_putObj' W l o
  ⟨g.os, g.tape, g.output, g.size, fun k hk hp => g.block k hk (fun e => by cases e; exact h hp)⟩
theorem Mid.below {p : Nat → Prop} {W W' : World} (h : Mid p W W') {B : Nat} (hB : B ≤ W.heap.size) (hp : ∀ k, k < B → p k) : Below B W W' :=
  ⟨h.os, h.tape, h.output, h.size, fun k hk => h.block k (Nat.lt_of_lt_of_le hk hB) (hp k hk)⟩
theorem Mid.keeps {p : Nat → Prop} {W W' : World} (h : Mid p W W') {B : Nat} (hp : ∀ k, B ≤ k → p k) : KeepsFrom B W W' :=
  ⟨h.size, fun k _ hB hk _ => (h.block k (Array.getElem?_eq_some_iff.1 hk).1 (hp k hB)).trans hk⟩
theorem Mid.cell {p : Nat → Prop} {W W' : World} (h : Mid p W W') {a : Addr} {u : Value} (hp : p a.block) (hc : W.cell? a = some u) : W'.cell? a = some u := by
  have hlt : a.block < W.heap.size := by
    unfold World.cell? at hc
    rcases Nat.lt_or_ge a.block W.heap.size with h1 | h1
    · exact h1
    · simp [Array.getElem?_eq_none h1] at hc
  rw [World.cell?_of_block (w := W) (h.block _ hlt hp)]; exact hc
theorem grown_of {W W' : World} (h : Below W.heap.size W W') : W.grownBy W' none := ⟨h.os, h.tape, h.output, h.size, fun k hk _ => h.block k hk⟩
theorem OwnFrom.step {β : Type} {B : Nat} {I : β → World → Prop} (h : OwnFrom B I) {s : β} {W W' : World} (hs : I s W) (hb : Below W.heap.size W W') : I s W' :=
  h s W W' none hs (grown_of hb) (fun r e => by cases e)
theorem ownFrom_mono {β : Type} {B B' : Nat} {I : β → World → Prop} (h : OwnFrom B I) (hB : B ≤ B') : OwnFrom B' I :=
  fun s W W' row hs hg hr => h s W W' row hs hg (fun r e => ⟨Nat.le_trans hB (hr r e).1, (hr r e).2⟩)

/-- THE ITERATOR's WORD, told by number: N rounds, the k-th handed a value of which 'Gd k' holds; every round goes on. 'B': where the heap ends as the iterator is entered: 'l': the loop's record lies below. 'Kp': what a round keeps. -/
def Tells (F : Fence) (n : Nat) (P : Program) (g : Nat) (lb : Array Value) (B l N : Nat) (Kp : World → World → Prop) (Gd : Nat → Value → World → Prop) (W : World) : Prop :=
  ∀ J : Nat → World → Prop, OwnFrom B J →
    (∀ k v W1, k < N → J k W1 → Gd k v W1 → YieldAt F (n - 1) P l #[v] W1 fun e W' => e = .returned (.bool true) ∧ J (k + 1) W' ∧ Kp W1 W') → J 0 W →
    CallsIn F n P g (#[.func (.yield l) #[] #[]] ++ lb) W fun e W' => (∃ v, e = .returned v) ∧ J N W'

variable {F : Fence} {n : Nat} {P : Program}

/-- THE STATEMENT, over such an iterator: the body goes on each time. -/
theorem wpIn_rangeFunc_tells {g : Operand} {t : Tmp} {assign body : Code} {Q : Exit → Act → World → Prop} {a : Act} {w : World}
    (hro : F.round = none) (h1 : 1 ≤ n) {gf : Nat} {lb : Array Value} (hg : a.eval g = .func (.func gf) #[] lb) (hFg : F.fn gf) (eg : ∀ args w, (callFunc gf args).run P w = .ok (.enter gf args) w)
    {N : Nat} {Kp : World → World → Prop} {Gd : Nat → Value → World → Prop}
    (hseq : ∀ W, W.heap.size = w.heap.size + 2 → Below w.heap.size w W → Tells F (n - 1) P gf lb (w.heap.size + 2) (w.heap.size + 1) N Kp Gd W)
    (hKt : ∀ {A B C : World}, Kp A B → Kp B C → Kp A C) (hKb : ∀ W o, Kp W (W.putObj (w.heap.size + 1) o))
    (I : Nat → World → Prop) (hI : OwnFrom w.heap.size I) (h0 : I 0 w) (Ax : Nat → Act → World → Prop) (hAx : ∀ k a', OwnFrom w.heap.size (fun (_ : Unit) W => Ax k a' W))
    (hassign : ∀ (l k : Nat) (v : Value) (W : World) (K : Act → World → Prop), k < N → I k W → Gd k v W → (∀ a' W', KeepsFrom w.heap.size W W' → Kp W W' → Ax k a' W' → K a' W') →
      assign.wpIn (F.inRound l) (n - 1 - 1) P (Exit.then K (fun _ _ _ => False)) { tmps := (#[t].zip #[v]).foldl (fun t (p, v) => t.setIfInBounds p v) a.tmps, defers := [] } W)
    (hbody : ∀ (l k : Nat) (a' : Act) (W : World), k < N → Ax k a' W → body.wpIn (F.inRound l) (n - 1 - 1) P (fun e _ W' => e = .normal ∧ KeepsFrom w.heap.size W W' ∧ Kp W W' ∧ I (k + 1) W') a' W)
    (hdone : ∀ (D : Nat) (W : World), w.heap.size ≤ D → I N W → W.heap[D]? = some (.deferred (some [])) → Q .normal { a with defers := { target := .collected D, args := #[] } :: a.defers } W) :
    (Code.rangeFunc g #[t] assign body).wpIn F n P Q a w := by
  refine wpIn_rangeFunc fun fn hfn => ?_
  rw [hro]
  -- the record, as it stands and as it is in a round
  let st (s : LoopState) : Obj := .loop { state := s, pending := none, fn, tmps := a.tmps, params := #[t], assign, body, defers := w.heap.size }
  let W1 : World := (w.alloc (.deferred (some []))).alloc (st .ready)
  have hs1 : W1.heap.size = w.heap.size + 2 := by simp [W1]
  have hr1 : W1.heap[w.heap.size + 1]? = some (st .ready) := by
    have := World.alloc_heap_new (w.alloc (.deferred (some []))) (st .ready); rwa [World.size_alloc] at this
  have hd1 : W1.heap[w.heap.size]? = some (.deferred (some [])) := (Below.heap_alloc _ _ _ (by simp)).trans (World.alloc_heap_new w _)
  have hb1 : Below w.heap.size w W1 := ((Below.refl _ w).alloc (Nat.le_refl _) _).alloc (by simp) _
  have hI1 : I 0 W1 := hI.alloc _ (hI.alloc _ h0)
  refine ⟨w.heap.size + 1, [{ target := .collected w.heap.size, args := #[] }], W1, { target := .fn (.func gf) lb, args := #[.func (.yield (w.heap.size + 1)) #[] #[]] }, W1, gf,
    #[.func (.yield (w.heap.size + 1)) #[] #[]] ++ lb, W1, run_enterLoop_outer _ _ _ _ _, ?_, ?_, ?_, fun _ => h1, ?_⟩
  · simp only [resolve, hg]; simp [go_sem]
  · intro f' hf'; simp [Target.leads] at hf'; subst hf'; exact hFg
  · simp [invoke, go_sem, eg]
  -- what holds between two rounds
  let J : Nat → World → Prop := fun k W => I k W ∧ W.heap[w.heap.size + 1]? = some (st .ready) ∧ W.heap[w.heap.size]? = some (.deferred (some []))
  have hJ : OwnFrom (w.heap.size + 2) J := fun k A B row hs hgr hr => by
    have far : ∀ j, j < w.heap.size + 2 → some j ≠ row := fun j hj e => by have := (hr j e.symm).1; omega
    refine ⟨ownFrom_mono hI (by omega) k A B row hs.1 hgr hr, ?_, ?_⟩
    · exact (hgr.block _ (Array.getElem?_eq_some_iff.1 hs.2.1).1 (far _ (by omega))).trans hs.2.1
    · exact (hgr.block _ (Array.getElem?_eq_some_iff.1 hs.2.2).1 (far _ (by omega))).trans hs.2.2
  refine (hseq W1 hs1 hb1 J hJ ?_ ⟨hI1, hr1, hd1⟩).mono ?_
  · -- one round
    rintro k v W hkN ⟨hi, hl, hd⟩ hgd
    have hy := run_yield (P := P) (args := #[v]) hl rfl
    refine ⟨fn, _, assign, body, hy, roundIn_of_wpIn hfn ?_⟩
    refine hassign _ k v W _ hkN hi hgd ?_
    intro a' Wa hka hkpa hax
    have hla := hka.same _ _ (by omega) hl rfl
    have hda := hka.same _ _ (Nat.le_refl _) hd rfl
    have hlt := (Array.getElem?_eq_some_iff.1 hla).1
    refine ⟨_, run_beginRound hla rfl, ?_⟩
    let Wb : World := Wa.putObj (w.heap.size + 1) (st .busy)
    have hlb : Wb.heap[w.heap.size + 1]? = some (st .busy) := World.putObj_heap_same hlt
    have hdb : Wb.heap[w.heap.size]? = some (.deferred (some [])) := (World.putObj_heap_other (by omega)).trans hda
    refine wpIn_mono (hbody _ k a' Wb hkN ((hAx k a').putObj (s := ()) _ hax (by omega) hla rfl)) ?_
    rintro e a3 W3 ⟨rfl, hk3, hp3, hi3⟩
    have hl3 := hk3.same _ _ (by omega) hlb rfl
    have hd3 := hk3.same _ _ (Nat.le_refl _) hdb rfl
    have hlt3 := (Array.getElem?_eq_some_iff.1 hl3).1
    refine ⟨_, _, run_endRound (P := P) none hl3, rfl, ⟨hI.putObj _ hi3 (by omega) hl3 rfl, World.putObj_heap_same hlt3, (World.putObj_heap_other (by omega)).trans hd3⟩, ?_⟩
    exact hKt hkpa (hKt (hKb Wa _) (hKt hp3 (hKb W3 _)))
  · -- behind the iterator
    rintro e W2 ⟨⟨v, rfl⟩, hi, hl, hd⟩
    exact ⟨none, _, run_endLoop (P := P) hl (by simp), hdone _ _ (Nat.le_refl _) (hI.putObj _ hi (by omega) hl rfl) ((World.putObj_heap_other (by omega)).trans hd)⟩

end Go.Proofs.Ytpodoleopebioaa
