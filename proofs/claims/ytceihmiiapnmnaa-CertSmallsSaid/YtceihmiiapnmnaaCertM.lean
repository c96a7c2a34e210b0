/- A claim as a step, the program's and the document's: the walk. -/
import Derived.Test.YtceihmiiapnmnaaCertL
namespace Go.Proofs.Ytceihmiiapnmnaa
open Go Go.RowKit Go.Proofs.Ytceihmiiapnmnaa.Flow
set_option maxRecDepth 100000

theorem Try.info_Nat : (Try.prog.info? 43).map (fun i => (i.zero, i.size, i.bytes)) = some (some (.agg #[.slice none 0 0]), 1, 24) := by kernel_rfl

/-- A number in new memory. -/
abbrev NewAt (At : World → Option Addr → Nat → Nat → Nat → Prop) (B : Nat) (w : World) (p : Option Addr) (n c N : Nat) : Prop := At w p n c N ∧ New B p
theorem NumLike.new {At : World → Option Addr → Nat → Nat → Nat → Prop} (L : NumLike At) (B : Nat) : NumLike (NewAt At B) := ⟨fun h hb => ⟨L.below h.1 hb, h.2⟩, fun h hk => ⟨L.kept h.1 hk, h.2⟩⟩

/-- A number of no words stands anywhere; none lies in a box of slices. -/
structure NumZero (At : World → Option Addr → Nat → Nat → Nat → Prop) : Prop where
  zero : ∀ {w w' p c N}, At w p 0 c N → w.heap.size ≤ w'.heap.size → At w' p 0 c N
  clash : ∀ {w p n c N t} {x0 x1 x2 : Option Addr × Nat × Nat} {q : Addr}, At w p n c N → p = some q → Box3 t w q.block (.slice x0.1 x0.2.1 x0.2.2) (.slice x1.1 x1.2.1 x1.2.2) (.slice x2.1 x2.2.1 x2.2.2) → n = 0
theorem box_cell {t : TypeId} {w : World} {b o : Nat} {x0 x1 x2 : Option Addr × Nat × Nat} {v : Value} (h : Box3 t w b (.slice x0.1 x0.2.1 x0.2.2) (.slice x1.1 x1.2.1 x1.2.2) (.slice x2.1 x2.2.1 x2.2.2)) (hc : w.cell? ⟨b, o, none⟩ = some v) : ∃ p n c, v = .slice p n c := by
  have hb := h.at_
  simp only [World.cell?, hb] at hc
  match o, hc with
  | 0, hc => simp at hc; exact ⟨_, _, _, hc.symm⟩
  | 1, hc => simp at hc; exact ⟨_, _, _, hc.symm⟩
  | 2, hc => simp at hc; exact ⟨_, _, _, hc.symm⟩
  | o + 3, hc => simp at hc
theorem natZero : NumZero NatAt := ⟨fun {w w' p c N} h hs => by
  obtain ⟨ws, r1, r2, r3, r4⟩ := h.ex
  refine ⟨ws, ⟨r1.len, r1.cap, r1.max, ?_⟩, r2, r3, r4⟩
  rcases r1.at_ with k | ⟨b, off, k1, k2, k3⟩
  · exact .inl k
  · exact .inr ⟨b, off, k1, Nat.lt_of_lt_of_le k2 hs, fun i x hx => by have := r1.len; have := (List.getElem?_eq_some_iff.1 hx).1; omega⟩,
  fun {w p n c N t x0 x1 x2 q} h hq hb => by
  obtain ⟨ws, r1, _⟩ := h.ex
  rcases r1.at_ with k | ⟨b, off, k1, k2, k3⟩
  · exact k.2.1
  · rcases Nat.eq_zero_or_pos n with h0 | h0
    · exact h0
    · rw [k1] at hq; cases hq
      have hl : 0 < ws.length := by rw [← r1.len]; exact h0
      obtain ⟨p', n', c', e⟩ := box_cell hb (k3 0 _ (List.getElem?_eq_getElem hl))
      cases e⟩
theorem bitsZero : NumZero BitsAt := ⟨fun {w w' p c N} h hs => by
  refine ⟨h.len, h.cap, h.max, ?_⟩
  rcases h.at_ with k | ⟨b, off, k1, k2, k3⟩
  · exact .inl k
  · exact .inr ⟨b, off, k1, Nat.lt_of_lt_of_le k2 hs, fun i x hx => by have := h.len; have := (List.getElem?_eq_some_iff.1 hx).1; omega⟩,
  fun {w p n c N t x0 x1 x2 q} h hq hb => by
  rcases h.at_ with k | ⟨b, off, k1, k2, k3⟩
  · exact k.2.1
  · rcases Nat.eq_zero_or_pos n with h0 | h0
    · exact h0
    · rw [k1] at hq; cases hq
      have hl : 0 < (bitsOf N).length := by rw [← h.len]; exact h0
      obtain ⟨p', n', c', e⟩ := box_cell hb (k3 0 _ (List.getElem?_eq_getElem hl))
      cases e⟩
theorem NumStands.firm0 {At : World → Option Addr → Nat → Nat → Nat → Prop} (S : NumStands At) (Z : NumZero At) {w : World} {p : Option Addr} {n c N : Nat} (h : At w p n c N) {bad : Nat → Prop} (hb : ∀ q, p = some q → bad q.block → n = 0) : Firm (fun w => At w p n c N) bad w := by
  rcases Nat.eq_zero_or_pos n with h0 | h0
  · subst h0
    exact fun _ k => Z.zero h k.size
  · exact S.firm h fun q hq hx => by have := hb q hq hx; omega
/-- So it begins: a box that two numbers were laid in. -/
theorem Side.start {At : World → Option Addr → Nat → Nat → Nat → Prop} (S : NumStands At) (Z : NumZero At) {t e t1 t2 : TypeId} {B b b1 b2 M0 M1 : Nat} {w : World} {x y : Option Addr × Nat × Nat} {x1 y1 x2 y2 z1 z2 : Option Addr × Nat × Nat}
    (hx : NewAt At B w x.1 x.2.1 x.2.2 M0) (hy : NewAt At B w y.1 y.2.1 y.2.2 M1) (hb : Box3 t w b (.slice x.1 x.2.1 x.2.2) (.slice y.1 y.2.1 y.2.2) (.slice none 0 0)) (hB : B ≤ b) (h1 : b = b1 ∨ b = b2)
    (k1 : Box3 t1 w b1 (.slice x1.1 x1.2.1 x1.2.2) (.slice y1.1 y1.2.1 y1.2.2) (.slice z1.1 z1.2.1 z1.2.2)) (k2 : Box3 t2 w b2 (.slice x2.1 x2.2.1 x2.2.2) (.slice y2.1 y2.2.1 y2.2.2) (.slice z2.1 z2.2.1 z2.2.2)) :
    Side At t e B (fun g => g < B ∨ g = b1 ∨ g = b2) b M0 M1 [] x y (.slice none 0 0) w := by
  have no : ∀ {z : Option Addr × Nat × Nat} {M : Nat}, NewAt At B w z.1 z.2.1 z.2.2 M → Firm (fun w => At w z.1 z.2.1 z.2.2 M) (fun g => g < B ∨ g = b1 ∨ g = b2) w := fun {z M} hz => S.firm0 Z hz.1 fun q hq hc => by
    rcases hc with hc | hc | hc
    · have := hz.2 q hq; omega
    · subst hc; exact Z.clash hz.1 hq k1
    · subst hc; exact Z.clash hz.1 hq k2
  exact ⟨hb, no hx, no hy, OwnV.nil, .inr h1, (fun g hg => by cases hg), hB⟩

/-- A step of the program's, in its cells. -/
structure PStep (e : Nat) (s : StepN) (x y z : Option Addr × Nat × Nat) (w : World) : Prop where
  n : NatAt w x.1 x.2.1 x.2.2 s.n
  base : NatAt w y.1 y.2.1 y.2.2 s.base
  ps : PList w e z.1 z.2.1 z.2.2 s.ps
/-- And one of the document's. -/
structure SStep (s : StepN) (x y z : Option Addr × Nat × Nat) (w : World) : Prop where
  n : BitsAt w x.1 x.2.1 x.2.2 s.n
  base : BitsAt w y.1 y.2.1 y.2.2 s.base
  ps : NList w z.1 z.2.1 z.2.2 s.ps
/-- A step's three slices. -/
abbrev trip (x y z : Option Addr × Nat × Nat) : Value := .agg #[.slice x.1 x.2.1 x.2.2, .slice y.1 y.2.1 y.2.2, .slice z.1 z.2.1 z.2.2]
def StepOut (w : World) (s : StepN) (e : Ending) (w' : World) : Prop :=
  ∃ x y z x' y' z' : Option Addr × Nat × Nat, e = .returned (.tuple #[trip x y z, trip x' y' z']) ∧ Below w.heap.size w w' ∧ Firm (PStep 2 s x y z) (fun g => g < w.heap.size) w' ∧ Firm (SStep s x' y' z') (fun g => g < w.heap.size) w'

theorem Side.pstep {t e : TypeId} {B B0 : Nat} {bad : Nat → Prop} {b : Nat} {s : StepN} {x y : Option Addr × Nat × Nat} {v : Value} {w : World} (h : Side NatAt t e B bad b s.n s.base s.ps x y v w) (hu : ∀ q ∈ s.ps, q < B32 2) (hB : B0 ≤ B) (hlo : ∀ g, g < B → bad g) :
    ∃ z : Option Addr × Nat × Nat, v = .slice z.1 z.2.1 z.2.2 ∧ Firm (PStep 2 s x y z) (fun g => g < B0) w := by
  obtain ⟨p, c, rfl, _⟩ := h.own.plist hu
  have hsub : ∀ g, g < w.heap.size → g < B0 → bad g := fun g _ hg => hlo g (by omega)
  refine ⟨(p, s.ps.length, c), rfl, fun w2 a => ⟨h.one.more hsub w2 a, h.two.more hsub w2 a, ?_⟩⟩
  obtain ⟨p', c', e', h'⟩ := ((h.own.more hsub).step a fun g hg => a.block g (h.own.block g hg).2 (by have := (h.own.block g hg).1; omega)).plist hu
  cases e'
  exact h'
theorem Side.sstep {t e : TypeId} {B B0 : Nat} {bad : Nat → Prop} {b : Nat} {s : StepN} {x y : Option Addr × Nat × Nat} {v : Value} {w : World} (h : Side BitsAt t e B bad b s.n s.base s.ps x y v w) (hB : B0 ≤ B) (hlo : ∀ g, g < B → bad g) :
    ∃ z : Option Addr × Nat × Nat, v = .slice z.1 z.2.1 z.2.2 ∧ Firm (SStep s x y z) (fun g => g < B0) w := by
  obtain ⟨p, c, rfl, _⟩ := h.own.nlist
  have hsub : ∀ g, g < w.heap.size → g < B0 → bad g := fun g _ hg => hlo g (by omega)
  refine ⟨(p, s.ps.length, c), rfl, fun w2 a => ⟨h.one.more hsub w2 a, h.two.more hsub w2 a, ?_⟩⟩
  obtain ⟨p', c', e', h'⟩ := ((h.own.more hsub).step a fun g hg => a.block g (h.own.block g hg).2 (by have := (h.own.block g hg).1; omega)).nlist
  cases e'
  exact h'
theorem Box3.drew {t : TypeId} {w : World} {b : Nat} {v0 v1 v2 : Value} (h : Box3 t w b v0 v1 v2) : Box3 t w.drew b v0 v1 v2 := ⟨h.at_⟩
theorem Agree.drew {bad : Nat → Prop} {w w' : World} (h : Agree bad w w') : Agree bad w w'.drew := ⟨h.size, h.block⟩
theorem Box3.off {t : TypeId} {w : World} {b g o : Nat} {v0 v1 v2 : Value} (h : Box3 t w b v0 v1 v2) (hn : b ≠ g) (u : Value) : Box3 t (w.setCell ⟨g, o, none⟩ u) b v0 v1 v2 := ⟨(Below.heap_setCell _ _ _ _ hn).trans h.at_⟩
theorem six_stores {t1 t2 : TypeId} {wr wf : World} {r1 r2 : Nat} {u0 u1 u2 v0 v1 v2 a0 a1 a2 b0 b1 b2 : Value} (k1 : Box3 t1 wr r1 u0 u1 u2) (k2 : Box3 t2 wr r2 v0 v1 v2) (hn : r1 ≠ r2)
    (hf : wf = ((((((wr.setCell ⟨r1, 0, none⟩ a0).setCell ⟨r1, 1, none⟩ a1).setCell ⟨r1, 2, none⟩ a2).setCell ⟨r2, 0, none⟩ b0).setCell ⟨r2, 1, none⟩ b1).setCell ⟨r2, 2, none⟩ b2).drew) :
    Box3 t1 wf r1 a0 a1 a2 ∧ Box3 t2 wf r2 b0 b1 b2 ∧ Agree (fun g => g = r1 ∨ g = r2) wr wf ∧ ∀ (B : Nat) (w : World), Below B w wr → B ≤ r1 → B ≤ r2 → Below B w wf := by
  subst hf
  have a1 : ∀ (W : World) (o : Nat) (u : Value), Agree (fun g => g = r1 ∨ g = r2) W (W.setCell ⟨r1, o, none⟩ u) := fun W o u => .set _ _ _ _ (.inl rfl)
  have a2 : ∀ (W : World) (o : Nat) (u : Value), Agree (fun g => g = r1 ∨ g = r2) W (W.setCell ⟨r2, o, none⟩ u) := fun W o u => .set _ _ _ _ (.inr rfl)
  exact ⟨((((((k1.set0 _).set1 _).set2 _).off hn _).off hn _).off hn _).drew, ((((((k2.off hn.symm _).off hn.symm _).off hn.symm _).set0 _).set1 _).set2 _).drew,
    ((((((a1 wr 0 _).trans (a1 _ 1 _)).trans (a1 _ 2 _)).trans (a2 _ 0 _)).trans (a2 _ 1 _)).trans (a2 _ 2 _)).drew,
    fun B w h h1 h2 => ((((((h.setCell h1 _).setCell h1 _).setCell h1 _).setCell h2 _).setCell h2 _).setCell h2 _).drew⟩
theorem take_snoc {l : List Nat} {k N : Nat} (h : l[k]? = some N) : l.take (k + 1) = l.take k ++ [N] := by
  obtain ⟨hi, e⟩ := List.getElem?_eq_some_iff.1 h
  rw [List.take_succ_eq_append_getElem hi, e]

set_option maxHeartbeats 4000000 in
set_option maxRecDepth 100000 in
theorem step_calls (w : World) (s : StepN) (q : Option Addr) (m d : Nat) (hr : RowIn w .u64 q m d s.ps) (hu : U64 s.n ∧ U64 s.base ∧ ∀ x ∈ s.ps, U64 x) (h40 : m ≤ 40) :
    Calls Try.prog 18 #[.agg #[.int .u64 (s.n : Nat), .int .u64 (s.base : Nat), .slice q m d]] w (StepOut w s) := by
  have HU1 : Hold (s.n < 18446744073709551616) := ⟨hu.1⟩
  have HU2 : Hold (s.base < 18446744073709551616) := ⟨hu.2.1⟩
  have HU3 : Hold _ := ⟨hu.2.2⟩
  have HR : Hold _ := ⟨hr⟩
  have HML : Hold _ := ⟨hr.len⟩
  clear hu hr
  have b1 : Below w.heap.size w (w.alloc (.cells #[.int .u64 (s.n : Nat), .int .u64 (s.base : Nat), .slice q m d] 35)) := (Below.refl _ _).alloc (Nat.le_refl _) _
  have k1 := Box3.made 35 w (.int .u64 (s.n : Nat)) (.int .u64 (s.base : Nat)) (.slice q m d)
  go_enter Try.func18, Try.ntmps18
  go_wp2
  have HZ1 : Hold ((w.alloc (.cells #[.int .u64 (s.n : Nat), .int .u64 (s.base : Nat), .slice q m d] 35)).heap.size = w.heap.size + 1) := ⟨by simp⟩
  generalize w.alloc (.cells #[.int .u64 (s.n : Nat), .int .u64 (s.base : Nat), .slice q m d] 35) = w1 at *
  have b2 : Below w1.heap.size w1 (w1.alloc (.cells #[.slice none 0 0, .slice none 0 0, .slice none 0 0] 52)) := (Below.refl _ _).alloc (Nat.le_refl _) _
  have k2 := Box3.made 52 w1 (.slice none 0 0) (.slice none 0 0) (.slice none 0 0)
  have HZ2 : Hold ((w1.alloc (.cells #[.slice none 0 0, .slice none 0 0, .slice none 0 0] 52)).heap.size = w.heap.size + 1 + 1) := ⟨by rw [← HZ1.out]; simp⟩
  generalize w1.alloc (.cells #[.slice none 0 0, .slice none 0 0, .slice none 0 0] 52) = w2 at *
  have b3 : Below w2.heap.size w2 (w2.alloc (.cells #[.slice none 0 0, .slice none 0 0, .slice none 0 0] 55)) := (Below.refl _ _).alloc (Nat.le_refl _) _
  have k3 := Box3.made 55 w2 (.slice none 0 0) (.slice none 0 0) (.slice none 0 0)
  generalize w2.alloc (.cells #[.slice none 0 0, .slice none 0 0, .slice none 0 0] 55) = w0 at *
  have hk1 := (k1.below b2 k1.lt).below b3 (Nat.lt_of_lt_of_le k1.lt b2.size)
  have HB0 : Hold (Below w.heap.size w w0) := ⟨bstep (bstep b1 b2) b3⟩
  have KR1 : Hold _ := ⟨k2.below b3 k2.lt⟩
  have KR2 : Hold _ := ⟨k3⟩
  have HRB : Hold (w.heap.size < w0.heap.size ∧ w1.heap.size < w0.heap.size ∧ w2.heap.size < w0.heap.size) := ⟨hk1.lt, (k2.below b3 k2.lt).lt, k3.lt⟩
  have HR12 : Hold (w1.heap.size < w2.heap.size) := ⟨k2.lt⟩
  clear b1 b2 b3 k1 k2 k3
  have HC : Hold (∀ w', Below w0.heap.size w0 w' → w'.cell? ⟨w.heap.size, 0, none⟩ = some (.int .u64 (s.n : Nat)) ∧ w'.cell? ⟨w.heap.size, 1, none⟩ = some (.int .u64 (s.base : Nat))) := ⟨fun w' h => ⟨(hk1.below h hk1.lt).cells.1, (hk1.below h hk1.lt).cells.2.1⟩⟩
  refine wp_region_dutiesS (by kernel_rfl) (by kernel_rfl)
    [some (.pointer (some ⟨w.heap.size, 0, none⟩)), some (.int .u64 (s.n : Nat)), none, some (.pointer (some ⟨w.heap.size, 1, none⟩)), some (.int .u64 (s.base : Nat)), none, none, none, none]
    [false, false, true, false, false, true, true, true, true] rfl
    (fun _ _ => True) (fun D sp w' => StepG (NewAt NatAt w0.heap.size) (fun p n c => .agg #[.slice p n c]) 52 w0 s.n s.base (D 2) (D 5) (D 6) (D 7) (D 8) (sp 2) (sp 5) (sp 6) (sp 7) w') (fun _ _ _ => True) (fun _ _ _ _ h _ => h)
    StepG.start ?_ ?_
  · simp only [DutiesS, Nat.reduceAdd]
    refine ⟨?_, ?_, ?_, ?_, ?_, ?_, ?_, ?_, ?_, trivial⟩
    case refine_3 =>
      intro D sp w' hD hW hdp hG
      have d8 : D 8 = false := hW 8 (List.mem_of_elem_eq_true (by kernel_rfl))
      rw [hD, d8] at hG
      (with_reducible refine asked_call (w1 := w') (f := 15) (args := #[.int .u64 (s.n : Nat)]) ?_ ?_ ?_)
      · simp only [Region.wanted]
      · simp [Act.eval, Act.put, go_sem]
      · refine (new_calls s.n w' HU1.out).mono ?_
        rintro e w5 ⟨p, n, c, rfl, hn, hb, hnew⟩
        exact ⟨_, rfl, trivial, trivial, by simpa [upd, d8] using (hG.later (natLike.new _) hb).put2 ⟨(p, n, c), rfl, hn, fun q hq => Nat.le_trans hG.bel.size (hnew q hq)⟩⟩
    case refine_6 =>
      intro D sp w' hD hW hdp hG
      have d8 : D 8 = false := hW 8 (List.mem_of_elem_eq_true (by kernel_rfl))
      rw [hD, d8] at hG
      (with_reducible refine asked_call (w1 := w') (f := 15) (args := #[.int .u64 (s.base : Nat)]) ?_ ?_ ?_)
      · simp only [Region.wanted]
      · simp [Act.eval, Act.put, go_sem]
      · refine (new_calls s.base w' HU2.out).mono ?_
        rintro e w5 ⟨p, n, c, rfl, hn, hb, hnew⟩
        exact ⟨_, rfl, trivial, trivial, by simpa [upd, d8] using (hG.later (natLike.new _) hb).put5 ⟨(p, n, c), rfl, hn, fun q hq => Nat.le_trans hG.bel.size (hnew q hq)⟩⟩
    case refine_7 =>
      intro D sp w' hD hW hdp hG
      have d8 : D 8 = false := hW 8 (List.mem_of_elem_eq_true (by kernel_rfl))
      have d2 : D 2 = true := (hdp 2 (List.mem_of_elem_eq_true (by kernel_rfl))).1
      have d5 : D 5 = true := (hdp 5 (List.mem_of_elem_eq_true (by kernel_rfl))).1
      rw [hD, d8] at hG
      (with_reducible refine Exists.elim (hG.one d2) fun x hx => ?_)
      (with_reducible refine Exists.elim (hG.two d5) fun y hy => ?_)
      have h1 := hx.1
      have h2 := hy.1
      (with_reducible refine asked_value (w1 := w') (v := .agg #[.slice x.1 x.2.1 x.2.2, .slice y.1 y.2.1 y.2.2, .slice none 0 0]) ?_ ?_ ?_)
      · simp only [Region.wanted]
      · simp [execOp, Act.eval, Act.put, go_sem, h1, h2]
      · exact ⟨trivial, trivial, by simpa [upd, d8] using hG.put6 hx.2 hy.2⟩
    case refine_8 =>
      intro D sp w' hD hW hdp hG
      have d8 : D 8 = false := hW 8 (List.mem_of_elem_eq_true (by kernel_rfl))
      rw [hD, d8] at hG
      (with_reducible refine asked_value (w1 := w'.alloc (.cells #[.slice none 0 0, .slice none 0 0, .slice none 0 0] 52)) (v := .pointer (some ⟨w'.heap.size, 0, none⟩)) ?_ ?_ ?_)
      · simp only [Region.wanted]
      · simp [execOp, Act.eval, Act.put, go_sem]
      · exact ⟨trivial, trivial, by simpa [upd, d8] using hG.put7 (natLike.new _)⟩
    case refine_9 =>
      intro D sp w' hD hW hdp hG
      have d6 : D 6 = true := (hdp 6 (List.mem_of_elem_eq_true (by kernel_rfl))).1
      have d7 : D 7 = true := (hdp 7 (List.mem_of_elem_eq_true (by kernel_rfl))).1
      rw [hD] at hG
      (with_reducible refine Exists.elim (hG.box d7 rfl) fun b hb => ?_)
      (with_reducible refine Exists.elim (hG.agg d6) fun x hx => ?_)
      (with_reducible refine Exists.elim hx fun y hy => ?_)
      have h7 := hb.1
      have h6 := hy.1
      have hc0 := hb.2.2.cells.1
      have hc1 := hb.2.2.cells.2.1
      have hc2 := hb.2.2.cells.2.2
      have hf0 := hb.2.2.free 0
      have hf1 := hb.2.2.free 1
      have hf2 := hb.2.2.free 2
      have hN := hG.put8 (natLike.new _) h7 hb.2.1 hb.2.2 hy.2.1 hy.2.2
      (with_reducible refine asked_skip (w1 := ((w'.setCell ⟨b, 0, none⟩ (.slice x.1 x.2.1 x.2.2)).setCell ⟨b, 1, none⟩ (.slice y.1 y.2.1 y.2.2)).setCell ⟨b, 2, none⟩ (.slice none 0 0)) ?_ ?_ ?_)
      · simp only [Region.wanted]
      · simp [execOp, Act.eval, Act.put, go_sem, h7, h6, hc0, hc1, hc2, hf0, hf1, hf2]
      · exact ⟨trivial, trivial, by simpa [upd] using hN⟩
    all_goals
      intro D sp w' hD hW hdp hG
      have c0 := HC.out w' hG.bel
      have c1 := c0.1
      have c2 := c0.2
      simp [asked, Region.wanted, Oper.gives, execOp, Act.eval, Act.put, go_sem, c1, c2]
  · intro sp w3 hsp hG
    simp only [frameOf, Nat.reduceAdd]
    have hb4 := hG.bel
    have hf := hG.full rfl
    clear hsp hG
    (with_reducible refine Exists.elim hf fun g hf1 => ?_)
    (with_reducible refine Exists.elim hf1 fun x hf2 => ?_)
    (with_reducible refine Exists.elim hf2 fun y hf3 => ?_)
    clear hf hf1 hf2
    rw [hf3.1]
    generalize sp 2 = u2
    generalize sp 5 = u5
    generalize sp 6 = u6
    have HF : Hold _ := ⟨hf3.2⟩
    have HB4 : Hold _ := ⟨hb4⟩
    have hk3 := hk1.below hb4 hk1.lt
    have HC2 : Hold (∀ w', Below w3.heap.size w3 w' → w'.cell? ⟨w.heap.size, 0, none⟩ = some (.int .u64 (s.n : Nat)) ∧ w'.cell? ⟨w.heap.size, 1, none⟩ = some (.int .u64 (s.base : Nat))) := ⟨fun w' h => ⟨(hk3.below h hk3.lt).cells.1, (hk3.below h hk3.lt).cells.2.1⟩⟩
    clear hf3 hb4 HC
    go_simp
    go_wp2
    refine wp_region_dutiesS (by kernel_rfl) (by kernel_rfl)
      [some (.pointer (some ⟨w.heap.size, 0, none⟩)), some (.int .u64 (s.n : Nat)), none, some (.pointer (some ⟨w.heap.size, 1, none⟩)), some (.int .u64 (s.base : Nat)), none, none, none, none]
      [false, false, true, false, false, true, true, true, true] rfl
      (fun _ _ => True) (fun D sp w' => StepG (NewAt BitsAt w3.heap.size) (fun p n c => .slice p n c) 55 w3 s.n s.base (D 2) (D 5) (D 6) (D 7) (D 8) (sp 2) (sp 5) (sp 6) (sp 7) w') (fun _ _ _ => True) (fun _ _ _ _ h _ => h)
      StepG.start ?_ ?_
    · simp only [DutiesS, Nat.reduceAdd]
      refine ⟨?_, ?_, ?_, ?_, ?_, ?_, ?_, ?_, ?_, trivial⟩
      case refine_3 =>
        intro D sp w' hD hW hdp hG
        have d8 : D 8 = false := hW 8 (List.mem_of_elem_eq_true (by kernel_rfl))
        rw [hD, d8] at hG
        (with_reducible refine asked_call (w1 := w') (f := 13) (args := #[.int .u64 (s.n : Nat)]) ?_ ?_ ?_)
        · simp only [Region.wanted]
        · simp [Act.eval, Act.put, go_sem]
        · refine (small_calls s.n w' HU1.out).mono ?_
          rintro e w5 ⟨p, n, c, rfl, hn, hb, hnew⟩
          exact ⟨_, rfl, trivial, trivial, by simpa [upd, d8] using (hG.later (bitsLike.new _) hb).put2 ⟨(p, n, c), rfl, hn, fun q hq => Nat.le_trans hG.bel.size (hnew q hq)⟩⟩
      case refine_6 =>
        intro D sp w' hD hW hdp hG
        have d8 : D 8 = false := hW 8 (List.mem_of_elem_eq_true (by kernel_rfl))
        rw [hD, d8] at hG
        (with_reducible refine asked_call (w1 := w') (f := 13) (args := #[.int .u64 (s.base : Nat)]) ?_ ?_ ?_)
        · simp only [Region.wanted]
        · simp [Act.eval, Act.put, go_sem]
        · refine (small_calls s.base w' HU2.out).mono ?_
          rintro e w5 ⟨p, n, c, rfl, hn, hb, hnew⟩
          exact ⟨_, rfl, trivial, trivial, by simpa [upd, d8] using (hG.later (bitsLike.new _) hb).put5 ⟨(p, n, c), rfl, hn, fun q hq => Nat.le_trans hG.bel.size (hnew q hq)⟩⟩
      case refine_7 =>
        intro D sp w' hD hW hdp hG
        have d8 : D 8 = false := hW 8 (List.mem_of_elem_eq_true (by kernel_rfl))
        have d2 : D 2 = true := (hdp 2 (List.mem_of_elem_eq_true (by kernel_rfl))).1
        have d5 : D 5 = true := (hdp 5 (List.mem_of_elem_eq_true (by kernel_rfl))).1
        rw [hD, d8] at hG
        (with_reducible refine Exists.elim (hG.one d2) fun x hx => ?_)
        (with_reducible refine Exists.elim (hG.two d5) fun y hy => ?_)
        have h1 := hx.1
        have h2 := hy.1
        (with_reducible refine asked_value (w1 := w') (v := .agg #[.slice x.1 x.2.1 x.2.2, .slice y.1 y.2.1 y.2.2, .slice none 0 0]) ?_ ?_ ?_)
        · simp only [Region.wanted]
        · simp [execOp, Act.eval, Act.put, go_sem, h1, h2]
        · exact ⟨trivial, trivial, by simpa [upd, d8] using hG.put6 hx.2 hy.2⟩
      case refine_8 =>
        intro D sp w' hD hW hdp hG
        have d8 : D 8 = false := hW 8 (List.mem_of_elem_eq_true (by kernel_rfl))
        rw [hD, d8] at hG
        (with_reducible refine asked_value (w1 := w'.alloc (.cells #[.slice none 0 0, .slice none 0 0, .slice none 0 0] 55)) (v := .pointer (some ⟨w'.heap.size, 0, none⟩)) ?_ ?_ ?_)
        · simp only [Region.wanted]
        · simp [execOp, Act.eval, Act.put, go_sem]
        · exact ⟨trivial, trivial, by simpa [upd, d8] using hG.put7 (bitsLike.new _)⟩
      case refine_9 =>
        intro D sp w' hD hW hdp hG
        have d6 : D 6 = true := (hdp 6 (List.mem_of_elem_eq_true (by kernel_rfl))).1
        have d7 : D 7 = true := (hdp 7 (List.mem_of_elem_eq_true (by kernel_rfl))).1
        rw [hD] at hG
        (with_reducible refine Exists.elim (hG.box d7 rfl) fun b hb => ?_)
        (with_reducible refine Exists.elim (hG.agg d6) fun x hx => ?_)
        (with_reducible refine Exists.elim hx fun y hy => ?_)
        have h7 := hb.1
        have h6 := hy.1
        have hc0 := hb.2.2.cells.1
        have hc1 := hb.2.2.cells.2.1
        have hc2 := hb.2.2.cells.2.2
        have hf0 := hb.2.2.free 0
        have hf1 := hb.2.2.free 1
        have hf2 := hb.2.2.free 2
        have hN := hG.put8 (bitsLike.new _) h7 hb.2.1 hb.2.2 hy.2.1 hy.2.2
        (with_reducible refine asked_skip (w1 := ((w'.setCell ⟨b, 0, none⟩ (.slice x.1 x.2.1 x.2.2)).setCell ⟨b, 1, none⟩ (.slice y.1 y.2.1 y.2.2)).setCell ⟨b, 2, none⟩ (.slice none 0 0)) ?_ ?_ ?_)
        · simp only [Region.wanted]
        · simp [execOp, Act.eval, Act.put, go_sem, h7, h6, hc0, hc1, hc2, hf0, hf1, hf2]
        · exact ⟨trivial, trivial, by simpa [upd] using hN⟩
      all_goals
        intro D sp w' hD hW hdp hG
        have c0 := HC2.out w' hG.bel
        have c1 := c0.1
        have c2 := c0.2
        simp [asked, Region.wanted, Oper.gives, execOp, Act.eval, Act.put, go_sem, c1, c2]
    · intro sp w4 hsp hG
      simp only [frameOf, Nat.reduceAdd]
      have hb5 := hG.bel
      have hf := hG.full rfl
      clear hsp hG
      (with_reducible refine Exists.elim hf fun g2 hf1 => ?_)
      (with_reducible refine Exists.elim hf1 fun x2 hf2 => ?_)
      (with_reducible refine Exists.elim hf2 fun y2 hf3 => ?_)
      clear hf hf1 hf2
      rw [hf3.1]
      generalize sp 2 = u2'
      generalize sp 5 = u5'
      generalize sp 6 = u6'
      have hk4 := hk3.below hb5 hk3.lt
      have hq2 := hk4.cells.2.2
      have hg1 := HF.out.2.1.below hb5 HF.out.2.1.lt
      have hg2 := hf3.2.2.1
      have hz3 : w0.heap.size ≤ w3.heap.size := HB4.out.size
      have hz4 : w0.heap.size ≤ g2 := Nat.le_trans hz3 hf3.2.1
      have nw1 := HF.out.2.2.1
      have nw2 := HF.out.2.2.2
      have nw3 := hf3.2.2.2.1
      have nw4 := hf3.2.2.2.2
      have HS1 : Hold (Side NatAt 52 43 w0.heap.size (fun h => h < w0.heap.size ∨ h = g ∨ h = g2) g s.n s.base [] x y (.slice none 0 0) w4) :=
        ⟨Side.start natStands natZero ⟨natLike.below nw1.1 hb5, nw1.2⟩ ⟨natLike.below nw2.1 hb5, nw2.2⟩ hg1 HF.out.1 (.inl rfl) (z1 := (none, 0, 0)) (z2 := (none, 0, 0)) hg1 hg2⟩
      have HS2 : Hold (Side BitsAt 55 38 w0.heap.size (fun h => h < w0.heap.size ∨ h = g ∨ h = g2) g2 s.n s.base [] x2 y2 (.slice none 0 0) w4) :=
        ⟨Side.start bitsStands bitsZero ⟨nw3.1, fun q hq => Nat.le_trans hz3 (nw3.2 q hq)⟩ ⟨nw4.1, fun q hq => Nat.le_trans hz3 (nw4.2 q hq)⟩ hg2 hz4 (.inr rfl) (z1 := (none, 0, 0)) (z2 := (none, 0, 0)) hg1 hg2⟩
      have HBL0 : Hold _ := ⟨bstepS HB4.out hb5⟩
      have HLT0 : Hold (∀ h, (h < w0.heap.size ∨ h = g ∨ h = g2) → h < w4.heap.size) := ⟨fun h hh => by
        rcases hh with hh | rfl | rfl
        · exact Nat.lt_of_lt_of_le hh (bstepS HB4.out hb5).size
        · exact hg1.lt
        · exact hg2.lt⟩
      clear hf3 hg1 hg2 hz3 hz4 nw1 nw2 nw3 nw4 hk1 hk3 hk4 hb5 HB4 HF HC2
      go_simp
      go_wp2
      go_loopw [25] (fun iv wr => ∃ k : Nat, k ≤ m ∧ iv = .int .i64 k ∧ ∃ (bad : Nat → Prop) (v u : Value), Hold (Below w0.heap.size w0 wr) ∧ Hold (∀ h, bad h → h < wr.heap.size) ∧ Hold (∀ h, h < w0.heap.size → bad h) ∧
        Hold (Side NatAt 52 43 w0.heap.size bad g s.n s.base (s.ps.take k) x y v wr) ∧ Hold (Side BitsAt 55 38 w0.heap.size bad g2 s.n s.base (s.ps.take k) x2 y2 u wr)) (fun iv _ => m - (intOf iv).toNat)
      case atStart => exact ⟨0, by omega, rfl, _, _, _, HBL0, HLT0, ⟨fun h hh => .inl hh⟩, HS1, HS2⟩
      case round =>
        clear HS1 HS2 HBL0 HLT0 hq2
        obtain ⟨k, hk, rfl, bad, v, u, HBL, HLT, HLO, HS1, HS2⟩ := hrel
        by_cases hkm : k < m
        · obtain ⟨N, hN⟩ : ∃ N, s.ps[k]? = some N := ⟨s.ps[k]'(by rw [← HML.out]; exact hkm), List.getElem?_eq_getElem _⟩
          have HN3 : Hold (N < 18446744073709551616) := ⟨HU3.out N (List.mem_of_getElem? hN)⟩
          obtain ⟨b, off, rfl, hbs, hc⟩ := (HR.out.row (by omega)).pos (by omega)
          have hck : wr.cell? ⟨b, off + k, none⟩ = some (.int .u64 (N : Nat)) := by rw [(bstep HB0.out HBL.out).cell (p := ⟨b, off + k, none⟩) hbs]; exact hc k N hN
          have HNx : Hold _ := ⟨take_snoc hN⟩
          have HTK : Hold ((s.ps.take k).length ≤ 1000000) := ⟨by rw [List.length_take]; omega⟩
          obtain ⟨i1, hi1, hz1, hs1, hb1⟩ := info_parts Try.info_Nat
          obtain ⟨i2, hi2, hz2, hs2, hb2⟩ := info_parts Try.info_N
          have II1 : Hold (_ ∧ _ ∧ _ ∧ _) := ⟨⟨hi1, hz1, hs1, hb1⟩⟩
          have II2 : Hold (_ ∧ _ ∧ _ ∧ _) := ⟨⟨hi2, hz2, hs2, hb2⟩⟩
          clear hc hN hi1 hz1 hs1 hb1 hi2 hz2 hs2 hb2
          go_wp2
          refine wp_region_dutiesS (by kernel_rfl) (by kernel_rfl)
              [some (.pointer (some ⟨g, 2, none⟩)), some v, some (.int .u64 (N : Nat)), none, none, none, some (.pointer (some ⟨g, 2, none⟩)), none]
              [false, false, false, true, true, true, false, true] rfl
              (fun _ _ => True) (fun D sp w' => GrowG NatAt (fun p n c => .agg #[.slice p n c]) 52 43 w0 wr bad g (.slice x.1 x.2.1 x.2.2) (.slice y.1 y.2.1 y.2.2) v (s.ps.take k) N (D 3) (D 4) (D 5) (D 7) (sp 3) (sp 4) (sp 5) w') (fun _ _ _ => True) (fun _ _ _ _ h _ => h)
              (GrowG.start HBL.out) ?_ ?_
          · simp only [DutiesS, Nat.reduceAdd]
            refine ⟨?_, ?_, ?_, ?_, ?_, ?_, ?_, ?_, trivial⟩
            case refine_4 =>
              intro D sp w' hD hW hdp hG
              have d4 : D 4 = false := hW 4 (List.mem_of_elem_eq_true (by kernel_rfl))
              rw [hD, d4] at hG
              have d5 := hG.d5f
              rw [d5] at hG
              have d7 := hG.d7f
              rw [d7] at hG
              (with_reducible refine asked_call (w1 := w') (f := 15) (args := #[.int .u64 (N : Nat)]) ?_ ?_ ?_)
              · simp only [Region.wanted]
              · simp [Act.eval, Act.put, go_sem]
              · refine (new_calls N w' HN3.out).mono ?_
                rintro e w5 ⟨p, n, c, rfl, hn, hb, hnew⟩
                exact ⟨_, rfl, trivial, trivial, by simpa [upd, d4, d5, d7] using hG.put3 (x := (p, n, c)) natLike hb hn hnew⟩
            case refine_5 =>
              intro D sp w' hD hW hdp hG
              have d3 : D 3 = true := (hdp 3 (List.mem_of_elem_eq_true (by kernel_rfl))).1
              rw [hD, d3] at hG
              have d5 := hG.d5f
              rw [d5] at hG
              have d7 := hG.d7f
              rw [d7] at hG
              (with_reducible refine Exists.elim (hG.one rfl rfl) fun x hx => ?_)
              have h3 := hx.1
              have hN4 := hG.put4 natLike hx.2.1 hx.2.2
              (with_reducible refine asked_value (w1 := w'.alloc (.cells #[.slice x.1 x.2.1 x.2.2] 43)) (v := .slice (some ⟨w'.heap.size, 0, none⟩) 1 1) ?_ ?_ ?_)
              · simp only [Region.wanted]
              · simp [execOp, Act.eval, Act.put, go_sem, h3]
              · exact ⟨trivial, trivial, by simpa [upd, d3, d5, d7] using hN4⟩
            case refine_6 =>
              intro D sp w' hD hW hdp hG
              have d4 : D 4 = true := (hdp 4 (List.mem_of_elem_eq_true (by kernel_rfl))).1
              rw [hD, d4] at hG
              have d7 := hG.d7f
              have d3 := hG.o4 rfl
              rw [d7, d3] at hG
              (with_reducible refine Exists.elim (hG.row rfl rfl) fun g hg => ?_)
              (with_reducible refine Exists.elim hg fun x hx => ?_)
              clear hg
              have h4 := hx.1
              have hpre := hG.pre rfl
              have hlt' : ∀ g, bad g → g < w'.heap.size := fun g hg => Nat.lt_of_lt_of_le (HLT.out g hg) hpre.size
              (with_reducible refine OwnV.app2 (N := N) (c := 1) Try.underlying50 II1.out.1 II1.out.2.1 II1.out.2.2.1 II1.out.2.2.2 rfl (by decide) (HS1.out.own.below hpre) hG.bel.size hx.2.1 (natStands.fresh hx.2.2.1 hx.2.2.2 HLT.out) HS1.out.inv hlt' HTK.out 50 (fun v' w5 bad' hr ho hgr h1 h2 h3 h5 => ?_))
              have hN5 := hG.put5 ho hgr (fun g hg => (HS1.out.own.block g hg).1) h1 (fun g hg => h2 g (Nat.lt_of_lt_of_le hg hpre.size)) h3 h5
              (with_reducible refine asked_value (w1 := w5) (v := v') ?_ ?_ ?_)
              · simp only [Region.wanted]
              · simp [execOp, resolve, invoke, builtin, Act.eval, Act.put, h4, hr, Result.andThen]
              · exact ⟨trivial, trivial, by simpa [upd, d3, d4, d7] using hN5⟩
            case refine_8 =>
              intro D sp w' hD hW hdp hG
              have d5 : D 5 = true := (hdp 5 (List.mem_of_elem_eq_true (by kernel_rfl))).1
              rw [hD, d5] at hG
              have hp := hG.put7 HS1.out.box (HS1.out.apart (by decide)) HS1.out.inb (by decide) HS1.out.low
              have hc2 := hp.1.cells.2.2
              have hf2 := hp.1.free 2
              have hN7 := hp.2
              (with_reducible refine Exists.elim hG.slc fun z hz => ?_)
              (with_reducible refine asked_skip (w1 := w'.setCell ⟨g, 2, none⟩ (sp 5)) ?_ ?_ ?_)
              · simp only [Region.wanted]
              · simp [execOp, Act.eval, Act.put, go_sem, hc2, hf2, hz]
              · exact ⟨trivial, trivial, by simpa [upd, d5] using hN7⟩
            case refine_2 =>
              intro D sp w' hD hW hdp hG
              have d5 : D 5 = false := hW 5 (List.mem_of_elem_eq_true (by kernel_rfl))
              rw [d5] at hG
              have hc2 := (hG.box HS1.out.box).cells.2.2
              simp [asked, Region.wanted, Oper.gives, execOp, Act.eval, Act.put, go_sem, hc2]
            all_goals
              intro D sp w' hD hW hdp hG
              simp [asked, Region.wanted, Oper.gives, execOp, Act.eval, Act.put, go_sem]
          · intro sp w5 hsp hG
            simp only [frameOf, Nat.reduceAdd]
            have hbel := hG.bel
            (with_reducible refine Exists.elim (hG.side HS1.out) fun bad2 hs3 => ?_)
            have hs2 := HS2.out.other HS1.out (by decide) (by decide) (by decide) (by decide) hs3.2.2.1 hs3.2.1 hs3.2.2.2.2
            have HT1 : Hold _ := ⟨hs3.1⟩
            have HT2 : Hold _ := ⟨hs2⟩
            have HLT5 : Hold _ := ⟨hs3.2.2.2.1⟩
            have HLO5 : Hold (∀ h, h < w0.heap.size → bad2 h) := ⟨fun h hh => hs3.2.1 _ (HLO.out h hh)⟩
            have HBL5 : Hold _ := ⟨hbel⟩
            clear hbel hs2 hs3 hsp hG HS1 HS2 HLT HLO HBL
            generalize sp 3 = z3
            generalize sp 4 = z4
            generalize sp 5 = v5 at *
            go_simp
            go_wp2
            refine wp_region_dutiesS (by kernel_rfl) (by kernel_rfl)
                [some (.pointer (some ⟨g2, 2, none⟩)), some u, some (.int .u64 (N : Nat)), none, none, none, some (.pointer (some ⟨g2, 2, none⟩)), none]
                [false, false, false, true, true, true, false, true] rfl
                (fun _ _ => True) (fun D sp w' => GrowG BitsAt (fun p n c => .slice p n c) 55 38 w0 w5 bad2 g2 (.slice x2.1 x2.2.1 x2.2.2) (.slice y2.1 y2.2.1 y2.2.2) u (s.ps.take k) N (D 3) (D 4) (D 5) (D 7) (sp 3) (sp 4) (sp 5) w') (fun _ _ _ => True) (fun _ _ _ _ h _ => h)
                (GrowG.start HBL5.out) ?_ ?_
            · simp only [DutiesS, Nat.reduceAdd]
              refine ⟨?_, ?_, ?_, ?_, ?_, ?_, ?_, ?_, trivial⟩
              case refine_4 =>
                intro D sp w' hD hW hdp hG
                have d4 : D 4 = false := hW 4 (List.mem_of_elem_eq_true (by kernel_rfl))
                rw [hD, d4] at hG
                have d5 := hG.d5f
                rw [d5] at hG
                have d7 := hG.d7f
                rw [d7] at hG
                (with_reducible refine asked_call (w1 := w') (f := 13) (args := #[.int .u64 (N : Nat)]) ?_ ?_ ?_)
                · simp only [Region.wanted]
                · simp [Act.eval, Act.put, go_sem]
                · refine (small_calls N w' HN3.out).mono ?_
                  rintro e w5 ⟨p, n, c, rfl, hn, hb, hnew⟩
                  exact ⟨_, rfl, trivial, trivial, by simpa [upd, d4, d5, d7] using hG.put3 (x := (p, n, c)) bitsLike hb hn hnew⟩
              case refine_5 =>
                intro D sp w' hD hW hdp hG
                have d3 : D 3 = true := (hdp 3 (List.mem_of_elem_eq_true (by kernel_rfl))).1
                rw [hD, d3] at hG
                have d5 := hG.d5f
                rw [d5] at hG
                have d7 := hG.d7f
                rw [d7] at hG
                (with_reducible refine Exists.elim (hG.one rfl rfl) fun x hx => ?_)
                have h3 := hx.1
                have hN4 := hG.put4 bitsLike hx.2.1 hx.2.2
                (with_reducible refine asked_value (w1 := w'.alloc (.cells #[.slice x.1 x.2.1 x.2.2] 38)) (v := .slice (some ⟨w'.heap.size, 0, none⟩) 1 1) ?_ ?_ ?_)
                · simp only [Region.wanted]
                · simp [execOp, Act.eval, Act.put, go_sem, h3]
                · exact ⟨trivial, trivial, by simpa [upd, d3, d5, d7] using hN4⟩
              case refine_6 =>
                intro D sp w' hD hW hdp hG
                have d4 : D 4 = true := (hdp 4 (List.mem_of_elem_eq_true (by kernel_rfl))).1
                rw [hD, d4] at hG
                have d7 := hG.d7f
                have d3 := hG.o4 rfl
                rw [d7, d3] at hG
                (with_reducible refine Exists.elim (hG.row rfl rfl) fun g hg => ?_)
                (with_reducible refine Exists.elim hg fun x hx => ?_)
                clear hg
                have h4 := hx.1
                have hpre := hG.pre rfl
                have hlt' : ∀ g, bad2 g → g < w'.heap.size := fun g hg => Nat.lt_of_lt_of_le (HLT5.out g hg) hpre.size
                (with_reducible refine OwnV.app2 (N := N) (c := 1) Try.underlying53 II2.out.1 II2.out.2.1 II2.out.2.2.1 II2.out.2.2.2 rfl (by decide) (HT2.out.own.below hpre) hG.bel.size hx.2.1 (bitsStands.fresh hx.2.2.1 hx.2.2.2 HLT5.out) HT2.out.inv hlt' HTK.out 53 (fun v' w5 bad' hr ho hgr h1 h2 h3 h5 => ?_))
                have hN5 := hG.put5 ho hgr (fun g hg => (HT2.out.own.block g hg).1) h1 (fun g hg => h2 g (Nat.lt_of_lt_of_le hg hpre.size)) h3 h5
                (with_reducible refine asked_value (w1 := w5) (v := v') ?_ ?_ ?_)
                · simp only [Region.wanted]
                · simp [execOp, resolve, invoke, builtin, Act.eval, Act.put, h4, hr, Result.andThen]
                · exact ⟨trivial, trivial, by simpa [upd, d3, d4, d7] using hN5⟩
              case refine_8 =>
                intro D sp w' hD hW hdp hG
                have d5 : D 5 = true := (hdp 5 (List.mem_of_elem_eq_true (by kernel_rfl))).1
                rw [hD, d5] at hG
                have hp := hG.put7 HT2.out.box (HT2.out.apart (by decide)) HT2.out.inb (by decide) HT2.out.low
                have hc2 := hp.1.cells.2.2
                have hf2 := hp.1.free 2
                have hN7 := hp.2
                (with_reducible refine Exists.elim hG.slc fun z hz => ?_)
                (with_reducible refine asked_skip (w1 := w'.setCell ⟨g2, 2, none⟩ (sp 5)) ?_ ?_ ?_)
                · simp only [Region.wanted]
                · simp [execOp, Act.eval, Act.put, go_sem, hc2, hf2, hz]
                · exact ⟨trivial, trivial, by simpa [upd, d5] using hN7⟩
              case refine_2 =>
                intro D sp w' hD hW hdp hG
                have d5 : D 5 = false := hW 5 (List.mem_of_elem_eq_true (by kernel_rfl))
                rw [d5] at hG
                have hc2 := (hG.box HT2.out.box).cells.2.2
                simp [asked, Region.wanted, Oper.gives, execOp, Act.eval, Act.put, go_sem, hc2]
              all_goals
                intro D sp w' hD hW hdp hG
                simp [asked, Region.wanted, Oper.gives, execOp, Act.eval, Act.put, go_sem]
            · intro sp w6 hsp hG
              simp only [frameOf, Nat.reduceAdd]
              have hbel := hG.bel
              (with_reducible refine Exists.elim (hG.side HT2.out) fun bad3 hs3 => ?_)
              have hs1 := HT1.out.other HT2.out (by decide) (by decide) (by decide) (by decide) hs3.2.2.1 hs3.2.1 hs3.2.2.2.2
              have HSF1 : Hold _ := ⟨hs1⟩
              have HSF2 : Hold _ := ⟨hs3.1⟩
              have HLT6 : Hold _ := ⟨hs3.2.2.2.1⟩
              have HLO6 : Hold (∀ h, h < w0.heap.size → bad3 h) := ⟨fun h hh => hs3.2.1 _ (HLO5.out h hh)⟩
              have HBL6 : Hold _ := ⟨hbel⟩
              clear hbel hs1 hs3 hsp hG
              generalize sp 3 = r3
              generalize sp 4 = r4
              generalize sp 5 = r5 at *
              go_simp
              go_wp2
              go_roundw
              case rel => exact ⟨k + 1, by omega, by go_num, bad3, _, _, HBL6, HLT6, HLO6, ⟨by rw [HNx.out]; exact HSF1.out⟩, ⟨by rw [HNx.out]; exact HSF2.out⟩⟩
              case measure => simp [intOf]; omega
        · obtain rfl : k = m := by omega
          have htk : s.ps.take k = s.ps := List.take_of_length_le (by rw [← HML.out]; exact Nat.le_refl _)
          rw [htk] at HS1 HS2
          obtain ⟨z1, rfl, F1⟩ := HS1.out.pstep (B0 := w0.heap.size) HU3.out (Nat.le_refl _) HLO.out
          obtain ⟨z2, rfl, F2⟩ := HS2.out.sstep (B0 := w0.heap.size) (Nat.le_refl _) HLO.out
          have kb1 := HS1.out.box
          have kb2 := HS2.out.box
          have kr1 := KR1.out.below HBL.out HRB.out.2.1
          have kr2 := KR2.out.below HBL.out HRB.out.2.2
          have HFF : Hold _ := ⟨And.intro F1 F2⟩
          have hl1 := HS1.out.low
          have hl2 := HS2.out.low
          have h12 : w1.heap.size < w2.heap.size := HR12.out
          have hr1 := HRB.out.2.1
          have hr2 := HRB.out.2.2
          rw [HZ1.out] at kr1 hr1 h12
          rw [HZ2.out] at kr2 hr2 h12
          have hc10 := kb1.cells.1
          have hc11 := kb1.cells.2.1
          have hc12 := kb1.cells.2.2
          have hc20 := kb2.cells.1
          have hc21 := kb2.cells.2.1
          have hc22 := kb2.cells.2.2
          have hd10 := kr1.cells.1
          have hd11 := kr1.cells.2.1
          have hd12 := kr1.cells.2.2
          have hd20 := kr2.cells.1
          have hd21 := kr2.cells.2.1
          have hd22 := kr2.cells.2.2
          have hf10 := kr1.free 0
          have hf11 := kr1.free 1
          have hf12 := kr1.free 2
          have hf20 := kr2.free 0
          have hf21 := kr2.free 1
          have hf22 := kr2.free 2
          have n1 : g ≠ w.heap.size + 1 := by omega
          have n2 : g ≠ w.heap.size + 1 + 1 := by omega
          have n3 : g2 ≠ w.heap.size + 1 := by omega
          have n4 : g2 ≠ w.heap.size + 1 + 1 := by omega
          have n5 : w.heap.size + 1 ≠ w.heap.size + 1 + 1 := by omega
          obtain ⟨wf, hwf⟩ : ∃ W, W = ((((((wr.setCell ⟨w.heap.size + 1, 0, none⟩ (.slice x.1 x.2.1 x.2.2)).setCell ⟨w.heap.size + 1, 1, none⟩ (.slice y.1 y.2.1 y.2.2)).setCell ⟨w.heap.size + 1, 2, none⟩ (.slice z1.1 z1.2.1 z1.2.2)).setCell
            ⟨w.heap.size + 1 + 1, 0, none⟩ (.slice x2.1 x2.2.1 x2.2.2)).setCell ⟨w.heap.size + 1 + 1, 1, none⟩ (.slice y2.1 y2.2.1 y2.2.2)).setCell ⟨w.heap.size + 1 + 1, 2, none⟩ (.slice z2.1 z2.2.1 z2.2.2)).drew := ⟨_, rfl⟩
          have hsix := six_stores kr1 kr2 n5 hwf
          have fr1 := hsix.1
          have fr2 := hsix.2.1
          have HFA : Hold (Agree (fun g => g < w0.heap.size) wr wf) := ⟨⟨hsix.2.2.1.size, fun b hb hn => hsix.2.2.1.block b hb fun hx => hn (by rcases hx with rfl | rfl; exact hr1; exact hr2)⟩⟩
          have HFB : Hold (Below w.heap.size w wf) := ⟨hsix.2.2.2 _ _ (bstep HB0.out HBL.out) (by omega) (by omega)⟩
          clear hsix
          have HFW : Hold _ := ⟨hwf⟩
          have HWs : Hold (w.heap.size ≤ w0.heap.size) := ⟨HB0.out.size⟩
          clear hwf
          have e10 := fr1.cells.1
          have e11 := fr1.cells.2.1
          have e12 := fr1.cells.2.2
          have e20 := fr2.cells.1
          have e21 := fr2.cells.2.1
          have e22 := fr2.cells.2.2
          clear fr1 fr2
          clear hl1 hl2 h12 hr1 hr2 kb1 kb2 kr1 kr2 F1 F2 HS1 HS2 HLO HLT HRB KR1 KR2 HR12 HB0
          go_wp2
          go_region
          rw [← HFW.out]
          clear HFW hc10 hc11 hc12 hc20 hc21 hc22 hd10 hd11 hd12 hd20 hd21 hd22 hf10 hf11 hf12 hf20 hf21 hf22
          go_wp2
          refine bodyPost_ret (v := .tuple #[trip x y z1, trip x2 y2 z2]) (by simp [results, Try.results18, go_sem, e10, e11, e12, e20, e21, e22]) rfl ⟨x, y, z1, x2, y2, z2, rfl, HFB.out, (HFF.out.1.step HFA.out).more (fun b _ hb => Nat.lt_of_lt_of_le hb HWs.out), (HFF.out.2.step HFA.out).more (fun b _ hb => Nat.lt_of_lt_of_le hb HWs.out)⟩

end Go.Proofs.Ytceihmiiapnmnaa
