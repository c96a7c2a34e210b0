/- Claims as a chain, the program's and the document's. -/
import Derived.Test.YtcbhgfiafamflaaGreatDoorCertK
set_option maxRecDepth 1000000
set_option maxHeartbeats 16000000
namespace Go.Proofs.YtcbhgfiafamflaaGreatDoor
open Go Go.RowKit Go.Proofs.YtcbhgfiafamflaaGreatDoor.Flow
section
variable {At : World → Option Addr → Nat → Nat → Nat → Prop} {e : TypeId} {B : Nat} {bad : Nat → Prop} {w : World} {v : Value} {Ns : List Nat}
theorem OwnV.app2 {st : TypeId} {bytes : Nat} {i : TypeInfo} (hu : Tryz.prog.underlying st = some (.slice e)) (hi : Tryz.prog.info? e = some i)
  {z : Value} (hz : i.zero = some z) (hs : i.size = 1) (hb : i.bytes = bytes) (hzs : z.cells.size = 1) (hby : bytes ≤ 1000) (h : OwnV At e B bad w v Ns) (hB : B ≤ w.heap.size) {a : Addr} {c N : Nat} {x : Option Addr × Nat × Nat} (hc : w.cell? a = some (.slice x.1 x.2.1 x.2.2))
  (hN : Firm (fun w => At w x.1 x.2.1 x.2.2 N) bad w) (hv : ∀ g, v.ownBlock = some g → bad g) (hlt : ∀ g, bad g → g < w.heap.size) (hl : Ns.length ≤ 1000000) (ty : TypeId) {C : Prop}
  (k : ∀ v' w' bad', (Builtin.append_ #[st, st] ty #[v, .slice (some a) 1 c]).run Tryz.prog w = .ok v' w' → OwnV At e B bad' w' v' (Ns ++ [N]) → w.grownBy w' v.ownBlock →
   (∀ g, bad g → bad' g) → (∀ g, g < w.heap.size → bad' g → bad g) → (∀ g, v'.ownBlock = some g → bad' g) → (∀ g, bad' g → g < w'.heap.size) → C) : C := by
 obtain ⟨v', w', k1, _, k3, k4⟩ := h.app hu hi hz hs hb hzs hby hB hc hN hv hl ty
 have hsub : ∀ g, g < w.heap.size → (bad g ∨ v'.ownBlock = some g) → bad g := by
  intro g hg hx
  rcases hx with hx | hx
  ·exact hx
  ·rcases k4 with k4 | k4
   ·exact hv g (by rw [← k4]; exact hx)
   ·have := k4 g hx; omega
 obtain ⟨v2, w2, g1, g2, _, _⟩ := (h.more (bad' := fun g => bad g ∨ v'.ownBlock = some g) hsub).app hu hi hz hs hb hzs hby hB hc (hN.more hsub) (fun g hg => .inl (hv g hg)) hl ty
 rw [k1] at g1
 injection g1 with e1 e2
 subst e1 e2
 exact k v' w' _ k1 g2 k3 (fun g hg => .inl hg) hsub (fun g hg => .inr hg) (fun g hg => by
  rcases hg with hg | hg
  ·exact Nat.lt_of_lt_of_le (hlt g hg) k3.size
  ·exact (g2.block g hg).2)
end
structure Side (At : World → Option Addr → Nat → Nat → Nat → Prop) (t e : TypeId) (B : Nat) (bad : Nat → Prop) (b M0 M1 : Nat) (Ns : List Nat) (x y : Option Addr × Nat × Nat) (v : Value) (w : World) : Prop where
 box : Box3 t w b (.slice x.1 x.2.1 x.2.2) (.slice y.1 y.2.1 y.2.2) v
 one : Firm (fun w => At w x.1 x.2.1 x.2.2 M0) bad w
 two : Firm (fun w => At w y.1 y.2.1 y.2.2 M1) bad w
 own : OwnV At e B bad w v Ns
 inb : bad b
 inv : ∀ g, v.ownBlock = some g → bad g
 low : B ≤ b
theorem OwnV.ty {At : World → Option Addr → Nat → Nat → Nat → Prop} {e : TypeId} {B : Nat} {bad : Nat → Prop} {w : World} {v : Value} {Ns : List Nat} (h : OwnV At e B bad w v Ns) : ∀ g, v.ownBlock = some g → ∃ cur, w.heap[g]? = some (.cells cur e (0, 0)) := by
 obtain ⟨_, h1, _⟩ := h.ex
 intro g hg
 rcases h1.2 with ⟨rfl, _⟩ | ⟨g', cap, cur, rfl, _, hg', _⟩
 ·cases hg
 ·obtain rfl : g' = g := by simpa [Value.ownBlock] using hg
  exact ⟨cur, hg'⟩
section
variable {At : World → Option Addr → Nat → Nat → Nat → Prop} {t e : TypeId} {B : Nat} {bad bad' : Nat → Prop} {b M0 M1 : Nat} {Ns : List Nat} {x y : Option Addr × Nat × Nat} {v : Value} {w0 w : World}
theorem Side.apart (h : Side At t e B bad b M0 M1 Ns x y v w) (hte : t ≠ e) : v.ownBlock ≠ some b := by
 intro hg
 obtain ⟨cur, h1⟩ := h.own.ty b hg
 rw [h.box.at_] at h1
 injection h1 with h2
 injection h2 with _ h3
 exact hte h3
theorem Side.stay (h : Side At t e B bad b M0 M1 Ns x y v w0) (ha : Agree bad' w0 w) (hsub : ∀ g, g < w0.heap.size → bad' g → bad g) (hsup : ∀ g, bad g → bad' g)
  (hb : w.heap[b]? = w0.heap[b]?) (hv : ∀ g, v.ownBlock = some g → w.heap[g]? = w0.heap[g]?) : Side At t e B bad' b M0 M1 Ns x y v w :=
 ⟨⟨by rw [hb]; exact h.box.at_⟩, (h.one.more hsub).step ha, (h.two.more hsub).step ha, (h.own.more hsub).step ha hv, hsup _ h.inb, fun g hg => hsup _ (h.inv g hg), h.low⟩
theorem Side.other {At' : World → Option Addr → Nat → Nat → Nat → Prop} {t' e' : TypeId} {b' M0' M1' : Nat} {Ns' : List Nat} {x' y' : Option Addr × Nat × Nat} {v' : Value}
  (h : Side At t e B bad b M0 M1 Ns x y v w0) (k : Side At' t' e' B bad b' M0' M1' Ns' x' y' v' w0) (h1 : t ≠ t') (h2 : t ≠ e') (h3 : e ≠ t') (h4 : e ≠ e')
  (hsub : ∀ g, g < w0.heap.size → bad' g → bad g) (hsup : ∀ g, bad g → bad' g) (ha : Agree (fun g => v'.ownBlock = some g ∨ g = b') w0 w) : Side At t e B bad' b M0 M1 Ns x y v w := by
 have no : ∀ {c1 c2 : Array Value} {u1 u2 : TypeId} {g : Nat}, w0.heap[g]? = some (.cells c1 u1 (0, 0)) → w0.heap[g]? = some (.cells c2 u2 (0, 0)) → u1 = u2 := by
  intro c1 c2 u1 u2 g h1 h2
  rw [h1] at h2
  injection h2 with h3
  injection h3
 have hag : Agree bad' w0 w := ⟨ha.size, fun g hg hn => ha.block g hg fun hx => hn (by
  rcases hx with hx | hx
  ·exact hsup _ (k.inv g hx)
  ·exact hx ▸ hsup _ k.inb)⟩
 refine h.stay hag hsub hsup (ha.block b h.box.lt ?_) (fun g hg => ha.block g (h.own.block g hg).2 ?_)
 ·rintro (hx | rfl)
  ·obtain ⟨cur, hc⟩ := k.own.ty b hx
   exact h2 (no h.box.at_ hc)
  ·exact h1 (no h.box.at_ k.box.at_)
 ·obtain ⟨cur, hc⟩ := h.own.ty g hg
  rintro (hx | rfl)
  ·obtain ⟨cur', hc'⟩ := k.own.ty g hx
   exact h4 (no hc hc')
  ·exact h3 (no hc k.box.at_)
end
def GrownF (At : World → Option Addr → Nat → Nat → Nat → Prop) (e : TypeId) (B S0 : Nat) (bad : Nat → Prop) (Ns : List Nat) (v : Value) (w : World) : Prop :=
 ∃ bad', OwnV At e B bad' w v Ns ∧ (∀ g, bad g → bad' g) ∧ (∀ g, g < S0 → bad' g → bad g) ∧ (∀ g, v.ownBlock = some g → bad' g) ∧ (∀ g, bad' g → g < w.heap.size)
structure GrowG (At : World → Option Addr → Nat → Nat → Nat → Prop) (mk : Option Addr → Nat → Nat → Value) (t e : TypeId) (wE w0 : World) (bad : Nat → Prop) (b : Nat) (q0 q1 v : Value) (Ns : List Nat) (N : Nat) (d3 d4 d5 d7 : Bool) (v3 v4 v5 : Value) (w : World) : Prop where
 o7 : d7 = true → d5 = true
 o5 : d5 = true → d4 = true
 o4 : d4 = true → d3 = true
 bel : Below wE.heap.size wE w
 pre : d5 = false → Below w0.heap.size w0 w
 one : d5 = false → d3 = true → ∃ x : Option Addr × Nat × Nat, v3 = mk x.1 x.2.1 x.2.2 ∧ At w x.1 x.2.1 x.2.2 N ∧ New w0.heap.size x.1
 row : d5 = false → d4 = true → ∃ (g : Nat) (x : Option Addr × Nat × Nat), v4 = .slice (some ⟨g, 0, none⟩) 1 1 ∧ w.cell? ⟨g, 0, none⟩ = some (.slice x.1 x.2.1 x.2.2) ∧ At w x.1 x.2.1 x.2.2 N ∧ New w0.heap.size x.1
 grown : d5 = true → d7 = false → GrownF At e wE.heap.size w0.heap.size bad (Ns ++ [N]) v5 w ∧ Agree (fun g => v.ownBlock = some g) w0 w
 full : d7 = true → GrownF At e wE.heap.size w0.heap.size bad (Ns ++ [N]) v5 w ∧ Box3 t w b q0 q1 v5 ∧ Agree (fun g => v.ownBlock = some g ∨ g = b) w0 w
section
variable {At : World → Option Addr → Nat → Nat → Nat → Prop} {mk : Option Addr → Nat → Nat → Value} {t e : TypeId} {wE w0 : World} {bad : Nat → Prop} {b : Nat} {q0 q1 v : Value} {Ns : List Nat} {N : Nat} {d3 d4 d5 d7 : Bool} {v3 v4 v5 : Value} {w : World}
theorem GrowG.start (hE : Below wE.heap.size wE w0) : GrowG At mk t e wE w0 bad b q0 q1 v Ns N false false false false v3 v4 v5 w0.drew :=
 ⟨(fun h => by cases h), (fun h => by cases h), (fun h => by cases h), hE.drew, fun _ => (Below.refl _ _).drew, (fun _ h => by cases h), (fun _ h => by cases h), (fun h => by cases h), (fun h => by cases h)⟩
theorem GrowG.d7f (h : GrowG At mk t e wE w0 bad b q0 q1 v Ns N d3 d4 false d7 v3 v4 v5 w) : d7 = false := by
 cases d7
 ·rfl
 ·cases h.o7 rfl
theorem GrowG.d5f (h : GrowG At mk t e wE w0 bad b q0 q1 v Ns N d3 false d5 d7 v3 v4 v5 w) : d5 = false := by
 cases d5
 ·rfl
 ·cases h.o5 rfl
theorem GrowG.put3 (h : GrowG At mk t e wE w0 bad b q0 q1 v Ns N false false false false v3 v4 v5 w) (L : NumLike At) {w' : World} (hb : Below w.heap.size w w') {x : Option Addr × Nat × Nat} (hx : At w' x.1 x.2.1 x.2.2 N) (hn : New w.heap.size x.1) :
  GrowG At mk t e wE w0 bad b q0 q1 v Ns N true false false false (mk x.1 x.2.1 x.2.2) v4 v5 w' :=
 ⟨(fun h => by cases h), (fun h => by cases h), (fun h => by cases h), bstepS h.bel hb, fun _ => bstepS (h.pre rfl) hb,
 (fun _ _ => ⟨x, rfl, hx, fun q hq => Nat.le_trans (h.pre rfl).size (hn q hq)⟩), (fun _ h => by cases h), (fun h => by cases h), (fun h => by cases h)⟩
theorem GrowG.put4 (h : GrowG At mk t e wE w0 bad b q0 q1 v Ns N true false false false v3 v4 v5 w) (L : NumLike At) {x : Option Addr × Nat × Nat} (hx : At w x.1 x.2.1 x.2.2 N) (hn : New w0.heap.size x.1) :
  GrowG At mk t e wE w0 bad b q0 q1 v Ns N true true false false v3 (.slice (some ⟨w.heap.size, 0, none⟩) 1 1) v5 (w.alloc (.cells #[.slice x.1 x.2.1 x.2.2] e)) := by
 have hb : Below w.heap.size w (w.alloc (.cells #[.slice x.1 x.2.1 x.2.2] e)) := bal
 refine ⟨(fun h => by cases h), (fun h => by cases h), (fun _ => rfl), bstepS h.bel hb, fun _ => bstepS (h.pre rfl) hb, fun _ _ => ?_, fun _ _ => ⟨w.heap.size, x, rfl, ?_, L.below hx hb, hn⟩, (fun h => by cases h), (fun h => by cases h)⟩
 ·obtain ⟨z, h1, h2, h3⟩ := h.one rfl rfl
  exact ⟨z, h1, L.below h2 hb, h3⟩
 ·simp [go_sem]
theorem GrowG.put5 (h : GrowG At mk t e wE w0 bad b q0 q1 v Ns N true true false false v3 v4 v5 w) {v' : Value} {w' : World} {bad' : Nat → Prop} (ho : OwnV At e wE.heap.size bad' w' v' (Ns ++ [N])) (hgr : w.grownBy w' v.ownBlock)
  (hE : ∀ g, v.ownBlock = some g → wE.heap.size ≤ g) (h1 : ∀ g, bad g → bad' g) (h2 : ∀ g, g < w0.heap.size → bad' g → bad g) (h3 : ∀ g, v'.ownBlock = some g → bad' g) (h4 : ∀ g, bad' g → g < w'.heap.size) :
  GrowG At mk t e wE w0 bad b q0 q1 v Ns N true true true false v3 v4 v' w' := by
 have hag : Agree (fun g => v.ownBlock = some g) w w' := .grown hgr fun _ h => h
 have ha0 : Agree (fun g => v.ownBlock = some g) w0 w := .of (h.pre rfl)
 exact ⟨(fun _ => rfl), (fun _ => rfl), (fun _ => rfl), h.bel.grown hgr h.bel.size hE, (fun h => by cases h), (fun h => by cases h), (fun h => by cases h), fun _ _ => ⟨⟨bad', ho, h1, h2, h3, h4⟩, ha0.trans hag⟩, (fun h => by cases h)⟩
theorem GrowG.put7 (h : GrowG At mk t e wE w0 bad b q0 q1 v Ns N d3 d4 true false v3 v4 v5 w) (hbx : Box3 t w0 b q0 q1 v) (hb : v.ownBlock ≠ some b) (hbb : bad b) (hte : t ≠ e) (hB : wE.heap.size ≤ b) :
  Box3 t w b q0 q1 v ∧ GrowG At mk t e wE w0 bad b q0 q1 v Ns N d3 d4 true true v3 v4 v5 (w.setCell ⟨b, 2, none⟩ v5) := by
 obtain ⟨⟨bad', g1, g2, g3, g4, g5⟩, ha⟩ := h.grown rfl rfl
 have hbw : Box3 t w b q0 q1 v := ⟨by rw [ha.block b hbx.lt hb]; exact hbx.at_⟩
 refine ⟨hbw, (fun _ => rfl), h.o5, h.o4, h.bel.setCell hB _, (fun h => by cases h), (fun h => by cases h), (fun h => by cases h), (fun _ h => by cases h), fun _ => ⟨⟨bad', ?_, g2, g3, g4, fun g hg => by simpa using g5 g hg⟩, hbw.set2 v5, ?_⟩⟩
 ·refine g1.step (.set _ _ _ _ (g2 _ hbb)) fun g hg => ?_
  refine Below.heap_setCell _ _ _ _ fun hx => ?_
  obtain ⟨cur, hc⟩ := g1.ty g hg
  rw [show g = b from hx, hbw.at_] at hc
  injection hc with h2
  injection h2 with _ h3
  exact hte h3
 ·exact Agree.trans ⟨ha.size, fun g hg hn => ha.block g hg fun hx => hn (.inl hx)⟩ (.set _ _ _ _ (.inr rfl))
theorem GrowG.slc (h : GrowG At mk t e wE w0 bad b q0 q1 v Ns N d3 d4 true false v3 v4 v5 w) : ∃ z : Option Addr × Nat × Nat, v5 = .slice z.1 z.2.1 z.2.2 := by
 obtain ⟨⟨bad', g1, _⟩, _⟩ := h.grown rfl rfl
 obtain ⟨p, c, h1, _⟩ := g1.elim
 exact ⟨(p, _, c), h1⟩
theorem GrowG.box (h : GrowG At mk t e wE w0 bad b q0 q1 v Ns N d3 d4 false d7 v3 v4 v5 w) (hbx : Box3 t w0 b q0 q1 v) : Box3 t w b q0 q1 v := hbx.below (h.pre rfl) hbx.lt
end
theorem GrowG.side {At : World → Option Addr → Nat → Nat → Nat → Prop} {mk : Option Addr → Nat → Nat → Value} {t e : TypeId} {wE w0 : World} {bad : Nat → Prop} {b M0 M1 : Nat} {x y : Option Addr × Nat × Nat} {v : Value} {Ns : List Nat} {N : Nat} {d3 d4 d5 : Bool} {v3 v4 v5 : Value} {w : World}
  (h : GrowG At mk t e wE w0 bad b (.slice x.1 x.2.1 x.2.2) (.slice y.1 y.2.1 y.2.2) v Ns N d3 d4 d5 true v3 v4 v5 w) (k : Side At t e wE.heap.size bad b M0 M1 Ns x y v w0) :
  ∃ bad', Side At t e wE.heap.size bad' b M0 M1 (Ns ++ [N]) x y v5 w ∧ (∀ g, bad g → bad' g) ∧ (∀ g, g < w0.heap.size → bad' g → bad g) ∧ (∀ g, bad' g → g < w.heap.size) ∧ Agree (fun g => v.ownBlock = some g ∨ g = b) w0 w := by
 obtain ⟨⟨bad', g1, g2, g3, g4, g5⟩, hbx, ha⟩ := h.full rfl
 have hag : Agree bad' w0 w := ⟨ha.size, fun g hg hn => ha.block g hg fun hx => hn (by
  rcases hx with hx | hx
  ·exact g2 _ (k.inv g hx)
  ·exact hx ▸ g2 _ k.inb)⟩
 exact ⟨bad', ⟨hbx, (k.one.more g3).step hag, (k.two.more g3).step hag, g1, g2 _ k.inb, g4, k.low⟩, g2, g3, g5, ha⟩
end Go.Proofs.YtcbhgfiafamflaaGreatDoor
namespace Go.Proofs.YtcbhgfiafamflaaGreatDoor
open Go Go.RowKit Go.Proofs.YtcbhgfiafamflaaGreatDoor.Flow
theorem Tryz.info_Nat : (Tryz.prog.info? 33).map (fun i => (i.zero, i.size, i.bytes)) = some (some (.agg #[.slice none 0 0]), 1, 24) := by kernel_rfl
abbrev NewAt (At : World → Option Addr → Nat → Nat → Nat → Prop) (B : Nat) (w : World) (p : Option Addr) (n c N : Nat) : Prop := At w p n c N ∧ New B p
theorem NumLike.new {At : World → Option Addr → Nat → Nat → Nat → Prop} (L : NumLike At) (B : Nat) : NumLike (NewAt At B) := ⟨fun h hb => ⟨L.below h.1 hb, h.2⟩, fun h hk => ⟨L.kept h.1 hk, h.2⟩⟩
structure NumZero (At : World → Option Addr → Nat → Nat → Nat → Prop) : Prop where
 zero : ∀ {w w' p c N}, At w p 0 c N → w.heap.size ≤ w'.heap.size → At w' p 0 c N
 clash : ∀ {w p n c N t} {x0 x1 x2 : Option Addr × Nat × Nat} {q : Addr}, At w p n c N → p = some q → Box3 t w q.block (.slice x0.1 x0.2.1 x0.2.2) (.slice x1.1 x1.2.1 x1.2.2) (.slice x2.1 x2.2.1 x2.2.2) → n = 0
theorem box_cell {t : TypeId} {w : World} {b o : Nat} {x0 x1 x2 : Option Addr × Nat × Nat} {v : Value} (h : Box3 t w b (.slice x0.1 x0.2.1 x0.2.2) (.slice x1.1 x1.2.1 x1.2.2) (.slice x2.1 x2.2.1 x2.2.2)) (hc : w.cell? ⟨b, o, none⟩ = some v) : ∃ p n c, v = .slice p n c := by
 have hb := h.at_
 simp only [World.cell?, hb] at hc
 match o, hc with
 | 0, hc => simp at hc; exact ⟨_, _, _, hc.symm⟩
 | 1, hc => simp at hc; exact ⟨_, _, _, hc.symm⟩
 | 2, hc => simp at hc; exact ⟨_, _, _, hc.symm⟩
 | o + 3, hc => simp at hc
theorem natZero : NumZero NatAt := ⟨fun {w w' p c N} h hs => by
 obtain ⟨ws, r1, r2, r3, r4⟩ := h.ex
 refine ⟨ws, ⟨r1.len, r1.cap, r1.max, ?_⟩, r2, r3, r4⟩
 rcases r1.at_ with k | ⟨b, off, k1, k2, k3⟩
 ·exact .inl k
 ·exact .inr ⟨b, off, k1, Nat.lt_of_lt_of_le k2 hs, fun i x hx => by have := r1.len; have := (List.getElem?_eq_some_iff.1 hx).1; omega⟩,
 fun {w p n c N t x0 x1 x2 q} h hq hb => by
 obtain ⟨ws, r1, _⟩ := h.ex
 rcases r1.at_ with k | ⟨b, off, k1, k2, k3⟩
 ·exact k.2.1
 ·rcases Nat.eq_zero_or_pos n with h0 | h0
  ·exact h0
  ·rw [k1] at hq; cases hq
   have hl : 0 < ws.length := by rw [← r1.len]; exact h0
   obtain ⟨p', n', c', e⟩ := box_cell hb (k3 0 _ (List.getElem?_eq_getElem hl))
   cases e⟩
theorem bitsZero : NumZero BitsAt := ⟨fun {w w' p c N} h hs => by
 refine ⟨h.len, h.cap, h.max, ?_⟩
 rcases h.at_ with k | ⟨b, off, k1, k2, k3⟩
 ·exact .inl k
 ·exact .inr ⟨b, off, k1, Nat.lt_of_lt_of_le k2 hs, fun i x hx => by have := h.len; have := (List.getElem?_eq_some_iff.1 hx).1; omega⟩,
 fun {w p n c N t x0 x1 x2 q} h hq hb => by
 rcases h.at_ with k | ⟨b, off, k1, k2, k3⟩
 ·exact k.2.1
 ·rcases Nat.eq_zero_or_pos n with h0 | h0
  ·exact h0
  ·rw [k1] at hq; cases hq
   have hl : 0 < (bitsOf N).length := by rw [← h.len]; exact h0
   obtain ⟨p', n', c', e⟩ := box_cell hb (k3 0 _ (List.getElem?_eq_getElem hl))
   cases e⟩
theorem NumStands.firm0 {At : World → Option Addr → Nat → Nat → Nat → Prop} (S : NumStands At) (Z : NumZero At) {w : World} {p : Option Addr} {n c N : Nat} (h : At w p n c N) {bad : Nat → Prop} (hb : ∀ q, p = some q → bad q.block → n = 0) : Firm (fun w => At w p n c N) bad w := by
 rcases Nat.eq_zero_or_pos n with h0 | h0
 ·subst h0
  exact fun _ k => Z.zero h k.size
 ·exact S.firm h fun q hq hx => by have := hb q hq hx; omega
theorem Side.start {At : World → Option Addr → Nat → Nat → Nat → Prop} (S : NumStands At) (Z : NumZero At) {t e t1 t2 : TypeId} {B b b1 b2 M0 M1 : Nat} {w : World} {x y : Option Addr × Nat × Nat} {x1 y1 x2 y2 z1 z2 : Option Addr × Nat × Nat}
  (hx : NewAt At B w x.1 x.2.1 x.2.2 M0) (hy : NewAt At B w y.1 y.2.1 y.2.2 M1) (hb : Box3 t w b (.slice x.1 x.2.1 x.2.2) (.slice y.1 y.2.1 y.2.2) (.slice none 0 0)) (hB : B ≤ b) (h1 : b = b1 ∨ b = b2)
  (k1 : Box3 t1 w b1 (.slice x1.1 x1.2.1 x1.2.2) (.slice y1.1 y1.2.1 y1.2.2) (.slice z1.1 z1.2.1 z1.2.2)) (k2 : Box3 t2 w b2 (.slice x2.1 x2.2.1 x2.2.2) (.slice y2.1 y2.2.1 y2.2.2) (.slice z2.1 z2.2.1 z2.2.2)) :
  Side At t e B (fun g => g < B ∨ g = b1 ∨ g = b2) b M0 M1 [] x y (.slice none 0 0) w := by
 have no : ∀ {z : Option Addr × Nat × Nat} {M : Nat}, NewAt At B w z.1 z.2.1 z.2.2 M → Firm (fun w => At w z.1 z.2.1 z.2.2 M) (fun g => g < B ∨ g = b1 ∨ g = b2) w := fun {z M} hz => S.firm0 Z hz.1 fun q hq hc => by
  rcases hc with hc | hc | hc
  ·have := hz.2 q hq; omega
  ·subst hc; exact Z.clash hz.1 hq k1
  ·subst hc; exact Z.clash hz.1 hq k2
 exact ⟨hb, no hx, no hy, OwnV.nil, .inr h1, (fun g hg => by cases hg), hB⟩
structure PStep (e : Nat) (s : StepN) (x y z : Option Addr × Nat × Nat) (w : World) : Prop where
 n : NatAt w x.1 x.2.1 x.2.2 s.n
 base : NatAt w y.1 y.2.1 y.2.2 s.base
 ps : PList w e z.1 z.2.1 z.2.2 s.ps
structure SStep (s : StepN) (x y z : Option Addr × Nat × Nat) (w : World) : Prop where
 n : BitsAt w x.1 x.2.1 x.2.2 s.n
 base : BitsAt w y.1 y.2.1 y.2.2 s.base
 ps : NList w z.1 z.2.1 z.2.2 s.ps
abbrev trip (x y z : Option Addr × Nat × Nat) : Value := .agg #[.slice x.1 x.2.1 x.2.2, .slice y.1 y.2.1 y.2.2, .slice z.1 z.2.1 z.2.2]
theorem Side.pstep {t e : TypeId} {B B0 : Nat} {bad : Nat → Prop} {b : Nat} {s : StepN} {x y : Option Addr × Nat × Nat} {v : Value} {w : World} (h : Side NatAt t e B bad b s.n s.base s.ps x y v w) (hu : ∀ q ∈ s.ps, q < B32 2) (hB : B0 ≤ B) (hlo : ∀ g, g < B → bad g) :
  ∃ z : Option Addr × Nat × Nat, v = .slice z.1 z.2.1 z.2.2 ∧ Firm (PStep 2 s x y z) (fun g => g < B0) w := by
 obtain ⟨p, c, rfl, _⟩ := h.own.plist hu
 have hsub : ∀ g, g < w.heap.size → g < B0 → bad g := fun g _ hg => hlo g (by omega)
 refine ⟨(p, s.ps.length, c), rfl, fun w2 a => ⟨h.one.more hsub w2 a, h.two.more hsub w2 a, ?_⟩⟩
 obtain ⟨p', c', e', h'⟩ := ((h.own.more hsub).step a fun g hg => a.block g (h.own.block g hg).2 (by have := (h.own.block g hg).1; omega)).plist hu
 cases e'
 exact h'
theorem Side.sstep {t e : TypeId} {B B0 : Nat} {bad : Nat → Prop} {b : Nat} {s : StepN} {x y : Option Addr × Nat × Nat} {v : Value} {w : World} (h : Side BitsAt t e B bad b s.n s.base s.ps x y v w) (hB : B0 ≤ B) (hlo : ∀ g, g < B → bad g) :
  ∃ z : Option Addr × Nat × Nat, v = .slice z.1 z.2.1 z.2.2 ∧ Firm (SStep s x y z) (fun g => g < B0) w := by
 obtain ⟨p, c, rfl, _⟩ := h.own.nlist
 have hsub : ∀ g, g < w.heap.size → g < B0 → bad g := fun g _ hg => hlo g (by omega)
 refine ⟨(p, s.ps.length, c), rfl, fun w2 a => ⟨h.one.more hsub w2 a, h.two.more hsub w2 a, ?_⟩⟩
 obtain ⟨p', c', e', h'⟩ := ((h.own.more hsub).step a fun g hg => a.block g (h.own.block g hg).2 (by have := (h.own.block g hg).1; omega)).nlist
 cases e'
 exact h'
theorem Box3.drew {t : TypeId} {w : World} {b : Nat} {v0 v1 v2 : Value} (h : Box3 t w b v0 v1 v2) : Box3 t w.drew b v0 v1 v2 := ⟨h.at_⟩
theorem take_snoc {l : List Nat} {k N : Nat} (h : l[k]? = some N) : l.take (k + 1) = l.take k ++ [N] := by
 obtain ⟨hi, e⟩ := List.getElem?_eq_some_iff.1 h
 rw [List.take_succ_eq_append_getElem hi, e]
end Go.Proofs.YtcbhgfiafamflaaGreatDoor
namespace Go.Proofs.YtcbhgfiafamflaaGreatDoor
open Go Go.RowKit Go.Proofs.YtcbhgfiafamflaaGreatDoor.Flow
theorem Tryz.info_CStep : (Tryz.prog.info? 37).map (fun i => (i.zero, i.size, i.bytes)) = some (some (.agg #[.slice none 0 0, .slice none 0 0, .slice none 0 0]), 3, 72) := by kernel_rfl
theorem Tryz.info_SStep : (Tryz.prog.info? 43).map (fun i => (i.zero, i.size, i.bytes)) = some (some (.agg #[.slice none 0 0, .slice none 0 0, .slice none 0 0]), 3, 72) := by kernel_rfl
structure OwnT (F : StepN → Option Addr × Nat × Nat → Option Addr × Nat × Nat → Option Addr × Nat × Nat → World → Prop) (e : TypeId) (B : Nat) (bad : Nat → Prop) (w : World) (v : Value) (l : List StepN) : Prop where
 ex : ∃ vs : List Value, w.ownsRow B e 3 v l.length vs ∧ vs.length = l.length * 3 ∧ ∀ (i : Nat) (s : StepN), l[i]? = some s → ∃ x y z : Option Addr × Nat × Nat,
  vs[i * 3]? = some (.slice x.1 x.2.1 x.2.2) ∧ vs[i * 3 + 1]? = some (.slice y.1 y.2.1 y.2.2) ∧ vs[i * 3 + 2]? = some (.slice z.1 z.2.1 z.2.2) ∧ Firm (F s x y z) bad w
section
variable {F : StepN → Option Addr × Nat × Nat → Option Addr × Nat × Nat → Option Addr × Nat × Nat → World → Prop} {e : TypeId} {B : Nat} {bad : Nat → Prop} {w : World} {v : Value} {l : List StepN}
theorem OwnT.nil : OwnT F e B bad w (.slice none 0 0) [] := ⟨[], World.ownsRow_nil w B e 3, rfl, fun i s h => by simp at h⟩
theorem OwnT.block (h : OwnT F e B bad w v l) : ∀ g, v.ownBlock = some g → B ≤ g ∧ g < w.heap.size := by obtain ⟨_, h1, _⟩ := h.ex; exact ownsRow_block h1
theorem OwnT.ty (h : OwnT F e B bad w v l) : ∀ g, v.ownBlock = some g → ∃ cur, w.heap[g]? = some (.cells cur e (0, 0)) := by
 obtain ⟨_, h1, _⟩ := h.ex
 intro g hg
 rcases h1.2 with ⟨rfl, _⟩ | ⟨g', cap, cur, rfl, _, hg', _⟩
 ·cases hg
 ·obtain rfl : g' = g := by simpa [Value.ownBlock] using hg
  exact ⟨cur, hg'⟩
theorem OwnT.step {w' : World} (h : OwnT F e B bad w v l) (a : Agree bad w w') (hk : ∀ g, v.ownBlock = some g → w'.heap[g]? = w.heap[g]?) : OwnT F e B bad w' v l := by
 obtain ⟨vs, h1, h2, h3⟩ := h.ex
 refine ⟨vs, ownsRow_keep h1 hk, h2, fun i N hN => ?_⟩
 obtain ⟨x, y, z, k1, k2, k3, k4⟩ := h3 i N hN
 exact ⟨x, y, z, k1, k2, k3, k4.step a⟩
theorem OwnT.below {w' : World} (h : OwnT F e B bad w v l) (hb : Below w.heap.size w w') : OwnT F e B bad w' v l := h.step (.of hb) fun g hg => hb.block g (h.block g hg).2
theorem OwnT.more {bad' : Nat → Prop} (h : OwnT F e B bad w v l) (hb : ∀ b, b < w.heap.size → bad' b → bad b) : OwnT F e B bad' w v l := by
 obtain ⟨vs, h1, h2, h3⟩ := h.ex
 refine ⟨vs, h1, h2, fun i N hN => ?_⟩
 obtain ⟨x, y, z, k1, k2, k3, k4⟩ := h3 i N hN
 exact ⟨x, y, z, k1, k2, k3, k4.more hb⟩
theorem OwnT.app {st : TypeId} {bytes : Nat} {i : TypeInfo} (hu : Tryz.prog.underlying st = some (.slice e)) (hi : Tryz.prog.info? e = some i)
  {z0 : Value} (hz : i.zero = some z0) (hs : i.size = 3) (hb : i.bytes = bytes) (hzs : z0.cells.size = 3) (hby : bytes ≤ 1000) (h : OwnT F e B bad w v l) (hB : B ≤ w.heap.size) {g c : Nat} {s : StepN} {x y z : Option Addr × Nat × Nat}
  (hc0 : w.cell? ⟨g, 0, none⟩ = some (.slice x.1 x.2.1 x.2.2)) (hc1 : w.cell? ⟨g, 1, none⟩ = some (.slice y.1 y.2.1 y.2.2)) (hc2 : w.cell? ⟨g, 2, none⟩ = some (.slice z.1 z.2.1 z.2.2))
  (hN : Firm (F s x y z) bad w) (hv : ∀ g, v.ownBlock = some g → bad g) (hl : l.length ≤ 1000000) (ty : TypeId) :
  ∃ v' w', (Builtin.append_ #[st, st] ty #[v, .slice (some ⟨g, 0, none⟩) 1 c]).run Tryz.prog w = .ok v' w' ∧ OwnT F e B bad w' v' (l ++ [s]) ∧ w.grownBy w' v.ownBlock ∧ MovedV w v v' := by
 obtain ⟨vs, h1, h2, h3⟩ := h.ex
 obtain ⟨v', w', k1, k2, k3, k4⟩ := run_appV hu hi hz hs hb hzs (by decide) h1 (a := ⟨g, 0, none⟩) (m := 1) (c := c) (news := [.slice x.1 x.2.1 x.2.2, .slice y.1 y.2.1 y.2.2, .slice z.1 z.2.1 z.2.2]) rfl
  (fun j u hj => by
   match j, hj with
   | 0, hj => simp at hj; subst hj; exact hc0
   | 1, hj => simp at hj; subst hj; exact hc1
   | 2, hj => simp at hj; subst hj; exact hc2
   | j + 3, hj => simp at hj)
  (fun u hj => by simp at hj; rcases hj with rfl | rfl | rfl <;> rfl) (by simp only [maxLen]; omega) (Nat.le_trans (Nat.mul_le_mul (Nat.add_le_add_right hl 1) hby) (by decide)) hB ty
 have ag : Agree bad w w' := .grown k3 hv
 refine ⟨v', w', k1, ⟨vs ++ [.slice x.1 x.2.1 x.2.2, .slice y.1 y.2.1 y.2.2, .slice z.1 z.2.1 z.2.2], by rw [List.length_append]; exact k2, by simp [h2]; omega, fun j M hM => ?_⟩, k3, k4⟩
 rcases Nat.lt_or_ge j l.length with hj | hj
 ·rw [List.getElem?_append_left hj] at hM
  obtain ⟨x', y', z', g0, g1, g2, g3⟩ := h3 j M hM
  exact ⟨x', y', z', by rw [List.getElem?_append_left (by omega)]; exact g0, by rw [List.getElem?_append_left (by omega)]; exact g1, by rw [List.getElem?_append_left (by omega)]; exact g2, g3.step ag⟩
 ·rw [List.getElem?_append_right hj] at hM
  obtain ⟨t, ht⟩ : ∃ t, j - l.length = t := ⟨_, rfl⟩
  rw [ht] at hM
  cases t with
  | zero =>
   simp at hM
   subst hM
   have e0 : j * 3 - vs.length = 0 := by omega
   have e1 : j * 3 + 1 - vs.length = 1 := by omega
   have e2 : j * 3 + 2 - vs.length = 2 := by omega
   exact ⟨x, y, z, by rw [List.getElem?_append_right (by omega), e0]; rfl, by rw [List.getElem?_append_right (by omega), e1]; rfl, by rw [List.getElem?_append_right (by omega), e2]; rfl, hN.step ag⟩
  | succ t => simp at hM
theorem OwnT.app2 {st : TypeId} {bytes : Nat} {i : TypeInfo} (hu : Tryz.prog.underlying st = some (.slice e)) (hi : Tryz.prog.info? e = some i)
  {z0 : Value} (hz : i.zero = some z0) (hs : i.size = 3) (hb : i.bytes = bytes) (hzs : z0.cells.size = 3) (hby : bytes ≤ 1000) (h : OwnT F e B bad w v l) (hB : B ≤ w.heap.size) {g c : Nat} {s : StepN} {x y z : Option Addr × Nat × Nat}
  (hc0 : w.cell? ⟨g, 0, none⟩ = some (.slice x.1 x.2.1 x.2.2)) (hc1 : w.cell? ⟨g, 1, none⟩ = some (.slice y.1 y.2.1 y.2.2)) (hc2 : w.cell? ⟨g, 2, none⟩ = some (.slice z.1 z.2.1 z.2.2))
  (hN : Firm (F s x y z) bad w) (hv : ∀ g, v.ownBlock = some g → bad g) (hlt : ∀ g, bad g → g < w.heap.size) (hl : l.length ≤ 1000000) (ty : TypeId) :
  ∃ v' w' bad', (Builtin.append_ #[st, st] ty #[v, .slice (some ⟨g, 0, none⟩) 1 c]).run Tryz.prog w = .ok v' w' ∧ OwnT F e B bad' w' v' (l ++ [s]) ∧ w.grownBy w' v.ownBlock ∧
   (∀ g, bad g → bad' g) ∧ (∀ g, g < w.heap.size → bad' g → bad g) ∧ (∀ g, v'.ownBlock = some g → bad' g) ∧ (∀ g, bad' g → g < w'.heap.size) := by
 obtain ⟨v', w', k1, _, k3, k4⟩ := h.app hu hi hz hs hb hzs hby hB (c := c) hc0 hc1 hc2 hN hv hl ty
 have hsub : ∀ g, g < w.heap.size → (bad g ∨ v'.ownBlock = some g) → bad g := by
  intro g hg hx
  rcases hx with hx | hx
  ·exact hx
  ·rcases k4 with k4 | k4
   ·exact hv g (by rw [← k4]; exact hx)
   ·have := k4 g hx; omega
 obtain ⟨v2, w2, g1, g2, _, _⟩ := (h.more (bad' := fun g => bad g ∨ v'.ownBlock = some g) hsub).app hu hi hz hs hb hzs hby hB (c := c) hc0 hc1 hc2 (hN.more hsub) (fun g hg => .inl (hv g hg)) hl ty
 rw [k1] at g1
 injection g1 with e1 e2
 subst e1 e2
 exact ⟨v', w', _, k1, g2, k3, fun g hg => .inl hg, hsub, fun g hg => .inr hg, fun g hg => by
  rcases hg with hg | hg
  ·exact Nat.lt_of_lt_of_le (hlt g hg) k3.size
  ·exact (g2.block g hg).2⟩
theorem OwnT.other {e' : TypeId} {bad' : Nat → Prop} {w' : World} {v' : Value} (h : OwnT F e B bad w v l) (hg : w.grownBy w' v'.ownBlock) (ht : ∀ g, v'.ownBlock = some g → ∃ cur, w.heap[g]? = some (.cells cur e' (0, 0))) (hne : e ≠ e')
  (hv : ∀ g, v'.ownBlock = some g → bad' g) (hsub : ∀ g, g < w.heap.size → bad' g → bad g) : OwnT F e B bad' w' v l := by
 refine (h.more hsub).step (.grown hg hv) fun g hx => hg.block g (h.block g hx).2 fun hc => ?_
 obtain ⟨c1, h1⟩ := h.ty g hx
 obtain ⟨c2, h2⟩ := ht g hc.symm
 rw [h1] at h2
 injection h2 with h3
 injection h3 with _ h4
 exact hne h4
theorem OwnT.elim (h : OwnT F e B bad w v l) : ∃ p c, v = .slice p l.length c ∧ l.length ≤ c ∧ c ≤ 9223372036854775807 ∧ (p = none → c = 0) ∧
  (0 < l.length → ∃ b off, p = some ⟨b, off, none⟩ ∧ b < w.heap.size ∧ ∀ (i : Nat) (s : StepN), l[i]? = some s → ∃ x y z : Option Addr × Nat × Nat,
   w.cell? ⟨b, off + i * 3, none⟩ = some (.slice x.1 x.2.1 x.2.2) ∧ w.cell? ⟨b, off + i * 3 + 1, none⟩ = some (.slice y.1 y.2.1 y.2.2) ∧ w.cell? ⟨b, off + i * 3 + 2, none⟩ = some (.slice z.1 z.2.1 z.2.2) ∧ F s x y z w) := by
 obtain ⟨vs, h1, h2, h3⟩ := h.ex
 rcases h1.2 with ⟨rfl, h0⟩ | ⟨g, cap, cur, rfl, hb, hg, hnc, hcm, hcs, ht⟩
 ·exact ⟨none, 0, by rw [h0], by omega, by omega, fun _ => rfl, fun h => by omega⟩
 ·have hlt : g < w.heap.size := (Array.getElem?_eq_some_iff.1 hg).1
  have hcell : ∀ (o : Nat) (u : Value), vs[o]? = some u → w.cell? ⟨g, 0 + o, none⟩ = some u := by
   intro o u hu
   have h6 : (cur.toList.take (l.length * 3))[o]? = some u := by rw [ht]; exact hu
   have ho : o < l.length * 3 := by rw [← h2]; exact (List.getElem?_eq_some_iff.1 hu).1
   rw [List.getElem?_take, if_pos ho] at h6
   unfold World.cell?
   dsimp only
   rw [hg]
   simp only [Nat.zero_add]
   rw [Array.getElem?_toList] at h6
   exact h6
  refine ⟨some ⟨g, 0, none⟩, cap, rfl, hnc, by simpa [maxLen] using hcm, (fun h => by cases h), fun _ => ⟨g, 0, rfl, hlt, fun i s hs => ?_⟩⟩
  obtain ⟨x, y, z, k0, k1, k2, k3⟩ := h3 i s hs
  exact ⟨x, y, z, hcell _ _ k0, hcell _ _ k1, hcell _ _ k2, k3.out⟩
end
theorem OwnT.psteps {t : TypeId} {B : Nat} {bad : Nat → Prop} {w : World} {v : Value} {l : List StepN} (h : OwnT (PStep 2) t B bad w v l) (hu : ∀ s ∈ l, s.n < B32 2 ∧ s.base < B32 2) : ∃ p c, v = .slice p l.length c ∧ PSteps w 2 p l.length c l := by
 obtain ⟨p, c, h1, h2, h3, h4, h5⟩ := h.elim
 refine ⟨p, c, h1, rfl, h2, h3, h4, fun h0 => ?_⟩
 obtain ⟨b, off, g1, g2, g3⟩ := h5 h0
 refine ⟨b, off, g1, g2, fun i s hs => ?_⟩
 obtain ⟨x, y, z, k0, k1, k2, k3⟩ := g3 i s hs
 have hm := hu s (List.mem_of_getElem? hs)
 exact ⟨_, _, _, _, _, _, _, _, _, k0, k1, k2, k3.n, hm.1, k3.base, hm.2, k3.ps⟩
theorem OwnT.slist {t : TypeId} {B : Nat} {bad : Nat → Prop} {w : World} {v : Value} {l : List StepN} (h : OwnT SStep t B bad w v l) : ∃ p c, v = .slice p l.length c ∧ SList w p l.length c l := by
 obtain ⟨p, c, h1, h2, h3, _, h5⟩ := h.elim
 refine ⟨p, c, h1, rfl, h2, h3, fun h0 => ?_⟩
 obtain ⟨b, off, g1, g2, g3⟩ := h5 h0
 refine ⟨b, off, g1, g2, fun i s hs => ?_⟩
 obtain ⟨x, y, z, k0, k1, k2, k3⟩ := g3 i s hs
 exact ⟨_, _, _, _, _, _, _, _, _, k0, k1, k2, k3.n, k3.base, k3.ps⟩
theorem snoc_take {α : Type} {l : List α} {k : Nat} {N : α} (h : l[k]? = some N) : l.take (k + 1) = l.take k ++ [N] := by
 obtain ⟨hi, e⟩ := List.getElem?_eq_some_iff.1 h
 rw [List.take_succ_eq_append_getElem hi, e]
end Go.Proofs.YtcbhgfiafamflaaGreatDoor
