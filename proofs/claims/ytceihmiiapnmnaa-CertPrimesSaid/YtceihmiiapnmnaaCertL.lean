/- A row in a box grows by a number: how a region stands that does it. -/
import Derived.Test.YtceihmiiapnmnaaCertK
namespace Go.Proofs.Ytceihmiiapnmnaa
open Go Go.RowKit Go.Proofs.Ytceihmiiapnmnaa.Flow
set_option maxRecDepth 100000

section
variable {At : World → Option Addr → Nat → Nat → Nat → Prop} {e : TypeId} {B : Nat} {bad : Nat → Prop} {w : World} {v : Value} {Ns : List Nat}
/-- One more; where it lies now is among the blocks that may change from now on. -/
theorem OwnV.app2 {st : TypeId} {bytes : Nat} {i : TypeInfo} (hu : Try.prog.underlying st = some (.slice e)) (hi : Try.prog.info? e = some i)
    {z : Value} (hz : i.zero = some z) (hs : i.size = 1) (hb : i.bytes = bytes) (hzs : z.cells.size = 1) (hby : bytes ≤ 1000) (h : OwnV At e B bad w v Ns) (hB : B ≤ w.heap.size) {a : Addr} {c N : Nat} {x : Option Addr × Nat × Nat} (hc : w.cell? a = some (.slice x.1 x.2.1 x.2.2))
    (hN : Firm (fun w => At w x.1 x.2.1 x.2.2 N) bad w) (hv : ∀ g, v.ownBlock = some g → bad g) (hlt : ∀ g, bad g → g < w.heap.size) (hl : Ns.length ≤ 1000000) (ty : TypeId) {C : Prop}
    (k : ∀ v' w' bad', (Builtin.append_ #[st, st] ty #[v, .slice (some a) 1 c]).run Try.prog w = .ok v' w' → OwnV At e B bad' w' v' (Ns ++ [N]) → w.grownBy w' v.ownBlock →
      (∀ g, bad g → bad' g) → (∀ g, g < w.heap.size → bad' g → bad g) → (∀ g, v'.ownBlock = some g → bad' g) → (∀ g, bad' g → g < w'.heap.size) → C) : C := by
  obtain ⟨v', w', k1, _, k3, k4⟩ := h.app hu hi hz hs hb hzs hby hB hc hN hv hl ty
  have hsub : ∀ g, g < w.heap.size → (bad g ∨ v'.ownBlock = some g) → bad g := by
    intro g hg hx
    rcases hx with hx | hx
    · exact hx
    · rcases k4 with k4 | k4
      · exact hv g (by rw [← k4]; exact hx)
      · have := k4 g hx; omega
  obtain ⟨v2, w2, g1, g2, _, _⟩ := (h.more (bad' := fun g => bad g ∨ v'.ownBlock = some g) hsub).app hu hi hz hs hb hzs hby hB hc (hN.more hsub) (fun g hg => .inl (hv g hg)) hl ty
  rw [k1] at g1
  injection g1 with e1 e2
  subst e1 e2
  exact k v' w' _ k1 g2 k3 (fun g hg => .inl hg) hsub (fun g hg => .inr hg) (fun g hg => by
    rcases hg with hg | hg
    · exact Nat.lt_of_lt_of_le (hlt g hg) k3.size
    · exact (g2.block g hg).2)
end

/-- A box of two numbers and a row: on these blocks. -/
structure Side (At : World → Option Addr → Nat → Nat → Nat → Prop) (t e : TypeId) (B : Nat) (bad : Nat → Prop) (b M0 M1 : Nat) (Ns : List Nat) (x y : Option Addr × Nat × Nat) (v : Value) (w : World) : Prop where
  box : Box3 t w b (.slice x.1 x.2.1 x.2.2) (.slice y.1 y.2.1 y.2.2) v
  one : Firm (fun w => At w x.1 x.2.1 x.2.2 M0) bad w
  two : Firm (fun w => At w y.1 y.2.1 y.2.2 M1) bad w
  own : OwnV At e B bad w v Ns
  inb : bad b
  inv : ∀ g, v.ownBlock = some g → bad g
  low : B ≤ b

theorem OwnV.ty {At : World → Option Addr → Nat → Nat → Nat → Prop} {e : TypeId} {B : Nat} {bad : Nat → Prop} {w : World} {v : Value} {Ns : List Nat} (h : OwnV At e B bad w v Ns) : ∀ g, v.ownBlock = some g → ∃ cur, w.heap[g]? = some (.cells cur e (0, 0)) := by
  obtain ⟨_, h1, _⟩ := h.ex
  intro g hg
  rcases h1.2 with ⟨rfl, _⟩ | ⟨g', cap, cur, rfl, _, hg', _⟩
  · cases hg
  · obtain rfl : g' = g := by simpa [Value.ownBlock] using hg
    exact ⟨cur, hg'⟩

section
variable {At : World → Option Addr → Nat → Nat → Nat → Prop} {t e : TypeId} {B : Nat} {bad bad' : Nat → Prop} {b M0 M1 : Nat} {Ns : List Nat} {x y : Option Addr × Nat × Nat} {v : Value} {w0 w : World}
theorem Side.apart (h : Side At t e B bad b M0 M1 Ns x y v w) (hte : t ≠ e) : v.ownBlock ≠ some b := by
  intro hg
  obtain ⟨cur, h1⟩ := h.own.ty b hg
  rw [h.box.at_] at h1
  injection h1 with h2
  injection h2 with _ h3
  exact hte h3
theorem Side.stay (h : Side At t e B bad b M0 M1 Ns x y v w0) (ha : Agree bad' w0 w) (hsub : ∀ g, g < w0.heap.size → bad' g → bad g) (hsup : ∀ g, bad g → bad' g)
    (hb : w.heap[b]? = w0.heap[b]?) (hv : ∀ g, v.ownBlock = some g → w.heap[g]? = w0.heap[g]?) : Side At t e B bad' b M0 M1 Ns x y v w :=
  ⟨⟨by rw [hb]; exact h.box.at_⟩, (h.one.more hsub).step ha, (h.two.more hsub).step ha, (h.own.more hsub).step ha hv, hsup _ h.inb, fun g hg => hsup _ (h.inv g hg), h.low⟩
theorem Side.below (h : Side At t e B bad b M0 M1 Ns x y v w0) (hb : Below w0.heap.size w0 w) : Side At t e B bad b M0 M1 Ns x y v w :=
  h.stay (.of hb) (fun _ _ h => h) (fun _ h => h) (hb.block _ h.box.lt) (fun g hg => hb.block g (h.own.block g hg).2)
/-- Another such box, of other types, has grown. -/
theorem Side.other {At' : World → Option Addr → Nat → Nat → Nat → Prop} {t' e' : TypeId} {b' M0' M1' : Nat} {Ns' : List Nat} {x' y' : Option Addr × Nat × Nat} {v' : Value}
    (h : Side At t e B bad b M0 M1 Ns x y v w0) (k : Side At' t' e' B bad b' M0' M1' Ns' x' y' v' w0) (h1 : t ≠ t') (h2 : t ≠ e') (h3 : e ≠ t') (h4 : e ≠ e')
    (hsub : ∀ g, g < w0.heap.size → bad' g → bad g) (hsup : ∀ g, bad g → bad' g) (ha : Agree (fun g => v'.ownBlock = some g ∨ g = b') w0 w) : Side At t e B bad' b M0 M1 Ns x y v w := by
  have no : ∀ {c1 c2 : Array Value} {u1 u2 : TypeId} {g : Nat}, w0.heap[g]? = some (.cells c1 u1 (0, 0)) → w0.heap[g]? = some (.cells c2 u2 (0, 0)) → u1 = u2 := by
    intro c1 c2 u1 u2 g h1 h2
    rw [h1] at h2
    injection h2 with h3
    injection h3
  have hag : Agree bad' w0 w := ⟨ha.size, fun g hg hn => ha.block g hg fun hx => hn (by
    rcases hx with hx | hx
    · exact hsup _ (k.inv g hx)
    · exact hx ▸ hsup _ k.inb)⟩
  refine h.stay hag hsub hsup (ha.block b h.box.lt ?_) (fun g hg => ha.block g (h.own.block g hg).2 ?_)
  · rintro (hx | rfl)
    · obtain ⟨cur, hc⟩ := k.own.ty b hx
      exact h2 (no h.box.at_ hc)
    · exact h1 (no h.box.at_ k.box.at_)
  · obtain ⟨cur, hc⟩ := h.own.ty g hg
    rintro (hx | rfl)
    · obtain ⟨cur', hc'⟩ := k.own.ty g hx
      exact h4 (no hc hc')
    · exact h3 (no hc k.box.at_)
end

/-- A grown row. -/
def GrownF (At : World → Option Addr → Nat → Nat → Nat → Prop) (e : TypeId) (B S0 : Nat) (bad : Nat → Prop) (Ns : List Nat) (v : Value) (w : World) : Prop :=
  ∃ bad', OwnV At e B bad' w v Ns ∧ (∀ g, bad g → bad' g) ∧ (∀ g, g < S0 → bad' g → bad g) ∧ (∀ g, v.ownBlock = some g → bad' g) ∧ (∀ g, bad' g → g < w.heap.size)

/-- How a region stands that lets a row in a box grow by a number that it makes. -/
structure GrowG (At : World → Option Addr → Nat → Nat → Nat → Prop) (mk : Option Addr → Nat → Nat → Value) (t e : TypeId) (wE w0 : World) (bad : Nat → Prop) (b : Nat) (q0 q1 v : Value) (Ns : List Nat) (N : Nat) (d3 d4 d5 d7 : Bool) (v3 v4 v5 : Value) (w : World) : Prop where
  o7 : d7 = true → d5 = true
  o5 : d5 = true → d4 = true
  o4 : d4 = true → d3 = true
  bel : Below wE.heap.size wE w
  pre : d5 = false → Below w0.heap.size w0 w
  one : d5 = false → d3 = true → ∃ x : Option Addr × Nat × Nat, v3 = mk x.1 x.2.1 x.2.2 ∧ At w x.1 x.2.1 x.2.2 N ∧ New w0.heap.size x.1
  row : d5 = false → d4 = true → ∃ (g : Nat) (x : Option Addr × Nat × Nat), v4 = .slice (some ⟨g, 0, none⟩) 1 1 ∧ w.cell? ⟨g, 0, none⟩ = some (.slice x.1 x.2.1 x.2.2) ∧ At w x.1 x.2.1 x.2.2 N ∧ New w0.heap.size x.1
  grown : d5 = true → d7 = false → GrownF At e wE.heap.size w0.heap.size bad (Ns ++ [N]) v5 w ∧ Agree (fun g => v.ownBlock = some g) w0 w
  full : d7 = true → GrownF At e wE.heap.size w0.heap.size bad (Ns ++ [N]) v5 w ∧ Box3 t w b q0 q1 v5 ∧ Agree (fun g => v.ownBlock = some g ∨ g = b) w0 w

section
variable {At : World → Option Addr → Nat → Nat → Nat → Prop} {mk : Option Addr → Nat → Nat → Value} {t e : TypeId} {wE w0 : World} {bad : Nat → Prop} {b : Nat} {q0 q1 v : Value} {Ns : List Nat} {N : Nat} {d3 d4 d5 d7 : Bool} {v3 v4 v5 : Value} {w : World}
theorem GrowG.start (hE : Below wE.heap.size wE w0) : GrowG At mk t e wE w0 bad b q0 q1 v Ns N false false false false v3 v4 v5 w0.drew :=
  ⟨(fun h => by cases h), (fun h => by cases h), (fun h => by cases h), hE.drew, fun _ => (Below.refl _ _).drew, (fun _ h => by cases h), (fun _ h => by cases h), (fun h => by cases h), (fun h => by cases h)⟩
theorem GrowG.d7f (h : GrowG At mk t e wE w0 bad b q0 q1 v Ns N d3 d4 false d7 v3 v4 v5 w) : d7 = false := by
  cases d7
  · rfl
  · cases h.o7 rfl
theorem GrowG.d5f (h : GrowG At mk t e wE w0 bad b q0 q1 v Ns N d3 false d5 d7 v3 v4 v5 w) : d5 = false := by
  cases d5
  · rfl
  · cases h.o5 rfl
theorem GrowG.put3 (h : GrowG At mk t e wE w0 bad b q0 q1 v Ns N false false false false v3 v4 v5 w) (L : NumLike At) {w' : World} (hb : Below w.heap.size w w') {x : Option Addr × Nat × Nat} (hx : At w' x.1 x.2.1 x.2.2 N) (hn : New w.heap.size x.1) :
    GrowG At mk t e wE w0 bad b q0 q1 v Ns N true false false false (mk x.1 x.2.1 x.2.2) v4 v5 w' :=
  ⟨(fun h => by cases h), (fun h => by cases h), (fun h => by cases h), bstepS h.bel hb, fun _ => bstepS (h.pre rfl) hb,
   (fun _ _ => ⟨x, rfl, hx, fun q hq => Nat.le_trans (h.pre rfl).size (hn q hq)⟩), (fun _ h => by cases h), (fun h => by cases h), (fun h => by cases h)⟩
theorem GrowG.put4 (h : GrowG At mk t e wE w0 bad b q0 q1 v Ns N true false false false v3 v4 v5 w) (L : NumLike At) {x : Option Addr × Nat × Nat} (hx : At w x.1 x.2.1 x.2.2 N) (hn : New w0.heap.size x.1) :
    GrowG At mk t e wE w0 bad b q0 q1 v Ns N true true false false v3 (.slice (some ⟨w.heap.size, 0, none⟩) 1 1) v5 (w.alloc (.cells #[.slice x.1 x.2.1 x.2.2] e)) := by
  have hb : Below w.heap.size w (w.alloc (.cells #[.slice x.1 x.2.1 x.2.2] e)) := (Below.refl _ _).alloc (Nat.le_refl _) _
  refine ⟨(fun h => by cases h), (fun h => by cases h), (fun _ => rfl), bstepS h.bel hb, fun _ => bstepS (h.pre rfl) hb, fun _ _ => ?_, fun _ _ => ⟨w.heap.size, x, rfl, ?_, L.below hx hb, hn⟩, (fun h => by cases h), (fun h => by cases h)⟩
  · obtain ⟨z, h1, h2, h3⟩ := h.one rfl rfl
    exact ⟨z, h1, L.below h2 hb, h3⟩
  · simp [go_sem]
theorem GrowG.put5 (h : GrowG At mk t e wE w0 bad b q0 q1 v Ns N true true false false v3 v4 v5 w) {v' : Value} {w' : World} {bad' : Nat → Prop} (ho : OwnV At e wE.heap.size bad' w' v' (Ns ++ [N])) (hgr : w.grownBy w' v.ownBlock)
    (hE : ∀ g, v.ownBlock = some g → wE.heap.size ≤ g) (h1 : ∀ g, bad g → bad' g) (h2 : ∀ g, g < w0.heap.size → bad' g → bad g) (h3 : ∀ g, v'.ownBlock = some g → bad' g) (h4 : ∀ g, bad' g → g < w'.heap.size) :
    GrowG At mk t e wE w0 bad b q0 q1 v Ns N true true true false v3 v4 v' w' := by
  have hag : Agree (fun g => v.ownBlock = some g) w w' := .grown hgr fun _ h => h
  have ha0 : Agree (fun g => v.ownBlock = some g) w0 w := .of (h.pre rfl)
  exact ⟨(fun _ => rfl), (fun _ => rfl), (fun _ => rfl), h.bel.grown hgr h.bel.size hE, (fun h => by cases h), (fun h => by cases h), (fun h => by cases h), fun _ _ => ⟨⟨bad', ho, h1, h2, h3, h4⟩, ha0.trans hag⟩, (fun h => by cases h)⟩
theorem GrowG.put7 (h : GrowG At mk t e wE w0 bad b q0 q1 v Ns N d3 d4 true false v3 v4 v5 w) (hbx : Box3 t w0 b q0 q1 v) (hb : v.ownBlock ≠ some b) (hbb : bad b) (hte : t ≠ e) (hB : wE.heap.size ≤ b) :
    Box3 t w b q0 q1 v ∧ GrowG At mk t e wE w0 bad b q0 q1 v Ns N d3 d4 true true v3 v4 v5 (w.setCell ⟨b, 2, none⟩ v5) := by
  obtain ⟨⟨bad', g1, g2, g3, g4, g5⟩, ha⟩ := h.grown rfl rfl
  have hbw : Box3 t w b q0 q1 v := ⟨by rw [ha.block b hbx.lt hb]; exact hbx.at_⟩
  refine ⟨hbw, (fun _ => rfl), h.o5, h.o4, h.bel.setCell hB _, (fun h => by cases h), (fun h => by cases h), (fun h => by cases h), (fun _ h => by cases h), fun _ => ⟨⟨bad', ?_, g2, g3, g4, fun g hg => by simpa using g5 g hg⟩, hbw.set2 v5, ?_⟩⟩
  · refine g1.step (.set _ _ _ _ (g2 _ hbb)) fun g hg => ?_
    refine Below.heap_setCell _ _ _ _ fun hx => ?_
    obtain ⟨cur, hc⟩ := g1.ty g hg
    rw [show g = b from hx, hbw.at_] at hc
    injection hc with h2
    injection h2 with _ h3
    exact hte h3
  · exact Agree.trans ⟨ha.size, fun g hg hn => ha.block g hg fun hx => hn (.inl hx)⟩ (.set _ _ _ _ (.inr rfl))
theorem GrowG.slc (h : GrowG At mk t e wE w0 bad b q0 q1 v Ns N d3 d4 true false v3 v4 v5 w) : ∃ z : Option Addr × Nat × Nat, v5 = .slice z.1 z.2.1 z.2.2 := by
  obtain ⟨⟨bad', g1, _⟩, _⟩ := h.grown rfl rfl
  obtain ⟨p, c, h1, _⟩ := g1.elim
  exact ⟨(p, _, c), h1⟩
theorem GrowG.box (h : GrowG At mk t e wE w0 bad b q0 q1 v Ns N d3 d4 false d7 v3 v4 v5 w) (hbx : Box3 t w0 b q0 q1 v) : Box3 t w b q0 q1 v := hbx.below (h.pre rfl) hbx.lt
end
theorem GrowG.side {At : World → Option Addr → Nat → Nat → Nat → Prop} {mk : Option Addr → Nat → Nat → Value} {t e : TypeId} {wE w0 : World} {bad : Nat → Prop} {b M0 M1 : Nat} {x y : Option Addr × Nat × Nat} {v : Value} {Ns : List Nat} {N : Nat} {d3 d4 d5 : Bool} {v3 v4 v5 : Value} {w : World}
    (h : GrowG At mk t e wE w0 bad b (.slice x.1 x.2.1 x.2.2) (.slice y.1 y.2.1 y.2.2) v Ns N d3 d4 d5 true v3 v4 v5 w) (k : Side At t e wE.heap.size bad b M0 M1 Ns x y v w0) :
    ∃ bad', Side At t e wE.heap.size bad' b M0 M1 (Ns ++ [N]) x y v5 w ∧ (∀ g, bad g → bad' g) ∧ (∀ g, g < w0.heap.size → bad' g → bad g) ∧ (∀ g, bad' g → g < w.heap.size) ∧ Agree (fun g => v.ownBlock = some g ∨ g = b) w0 w := by
  obtain ⟨⟨bad', g1, g2, g3, g4, g5⟩, hbx, ha⟩ := h.full rfl
  have hag : Agree bad' w0 w := ⟨ha.size, fun g hg hn => ha.block g hg fun hx => hn (by
    rcases hx with hx | hx
    · exact g2 _ (k.inv g hx)
    · exact hx ▸ g2 _ k.inb)⟩
  exact ⟨bad', ⟨hbx, (k.one.more g3).step hag, (k.two.more g3).step hag, g1, g2 _ k.inb, g4, k.low⟩, g2, g3, g5, ha⟩

end Go.Proofs.Ytceihmiiapnmnaa
