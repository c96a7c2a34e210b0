/- GroupAsks, walked: out of what a group's calls do. -/
import Derived.Test.YtcbhgfiafamflaaGreatDoorGrpN
import Derived.Test.YtcbhgfiafamflaaGreatDoorGrpC
/-! A group, whatever it lies in: what its calls do, as the laws use it; the laws' own groups; the chapter's example lives. -/
namespace Go.Proofs.YtcbhgfiafamflaaGreatDoor
open Go Go.RowKit Go.Proofs.YtcbhgfiafamflaaGreatDoor.Flow
set_option maxRecDepth 100000

/-- What the program's groups do. 'At': how a group lies in memory; 'ready': what its calls want of the world (the package-level tables). -/
structure GrpDoes (At : World → Nat → Nat → Nat → Nat → Nat → Prop) (ready : World → Prop) : Prop where
  below : ∀ {w w' b P Q G H}, At w b P Q G H → Below w.heap.size w w' → At w' b P Q G H
  readyBelow : ∀ {w w'}, ready w → Below w.heap.size w w' → ready w'
  lim : ∀ {w b P Q G H}, At w b P Q G H → 2 ≤ P ∧ P < B32 33 ∧ 2 ≤ Q ∧ Q < B32 33
  new : ∀ (i : Nat) (w : World) (x y z : Option Addr × Nat × Nat) (pc : Option Addr) (nc cc : Nat), i < 3 → ready w → At3 w x (gP i) → At3 w y (gQ i) → At3 w z (gG i) → PSteps w 3 pc nc cc (gChain i) →
    Calls Tryz.prog 9 #[.agg #[.slice x.1 x.2.1 x.2.2, .slice y.1 y.2.1 y.2.2, .slice z.1 z.2.1 z.2.2, .slice none 0 0], .slice pc nc cc] w fun e w' =>
      ∃ b, e = .returned (.tuple #[.pointer (some ⟨b, 0, none⟩), .int .i64 0]) ∧ At w' b (gP i) (gQ i) (gG i) (gH i) ∧ Below w.heap.size w w'
  exp : ∀ {w b P Q G H e1 e2 A E v u}, At w b P Q G H → Fit e1 A v w → Fit e2 E u w → e1 ≤ 200 → e2 ≤ 200 →
    Calls Tryz.prog 21 #[.pointer (some ⟨b, 0, none⟩), v, u] w fun e w' => ∃ x, e = .returned x ∧ Fit 33 (A ^ E % P) x w' ∧ Below w.heap.size w w'
  member : ∀ {w b P Q G H e1 A v}, At w b P Q G H → Fit e1 A v w → e1 ≤ 200 →
    Calls Tryz.prog 30 #[.pointer (some ⟨b, 0, none⟩), v] w fun e w' => e = .returned (.bool (decide (0 < A ∧ A < P ∧ A ^ Q % P = 1))) ∧ Below w.heap.size w w'

section
variable {At : World → Nat → Nat → Nat → Nat → Nat → Prop} {ready : World → Prop}
def GrpOut (At : World → Nat → Nat → Nat → Nat → Nat → Prop) (i : Nat) (w : World) (e : Ending) (w' : World) : Prop :=
  ∃ b, e = .returned (.pointer (some ⟨b, 0, none⟩)) ∧ At w' b (gP i) (gQ i) (gG i) (gH i) ∧ Below w.heap.size w w'

set_option maxHeartbeats 2000000 in
set_option maxRecDepth 100000 in
theorem group_calls (D : GrpDoes At ready) (w : World) (A : Int) (hr : ready w) :
    Calls Tryz.prog 16 #[.int .i64 A, .slice none 0 0] w (GrpOut At ((IntKind.u64.wrap A) % 3).toNat w) := by
  have HD : Hold _ := ⟨D⟩
  have HR : Hold _ := ⟨hr⟩
  have hi : ((IntKind.u64.wrap A) % 3).toNat < 3 := by
    have h1 := Int.emod_nonneg (IntKind.u64.wrap A) (show (3 : Int) ≠ 0 by decide)
    have h2 := Int.emod_lt_of_pos (IntKind.u64.wrap A) (show (0 : Int) < 3 by decide)
    omega
  obtain ⟨i, ei⟩ : ∃ i, ((IntKind.u64.wrap A) % 3).toNat = i := ⟨_, rfl⟩
  have HN : Hold _ := ⟨numbers_calls w A none 0 0⟩
  rw [ei] at hi HN ⊢
  have HI : Hold _ := ⟨hi⟩
  clear D hr hi ei
  go_enter Tryz.func16, Tryz.ntmps16
  go_wp2_with fail
  refine HN.out.mono ?_
  rintro en w1 ⟨x, y, z, pc, nc, cc, rfl, h1, h2, h3, h4, b1⟩
  have HH : Hold _ := ⟨HD.out.new i w1 x y z pc nc cc HI.out (HD.out.readyBelow HR.out b1) h1 h2 h3 h4⟩
  have B1 : Hold _ := ⟨b1⟩
  clear h1 h2 h3 h4 b1 HN
  go_wp2_with fail
  refine HH.out.mono ?_
  rintro en w2 ⟨b, rfl, hg, b2⟩
  have HG : Hold _ := ⟨hg⟩
  have B2 : Hold _ := ⟨bstep B1.out b2⟩
  clear hg b2 HH B1
  go_wp2
  go_ret
  exact ⟨b, rfl, HG.out, B2.out⟩

theorem two_not : ¬ (0 < 2 ∧ 2 < 607 ∧ 2 ^ 101 % 607 = 1) := by
  rw [← pm_eq 2 607 65 101 (by decide)]
  decide +kernel
theorem group_one : 64 ^ 101 % 607 = 1 := gG_member 0 (by omega)

set_option maxHeartbeats 2000000 in
set_option maxRecDepth 100000 in
theorem lives9_calls (D : GrpDoes At ready) (w : World) (hr : ready w) :
    Calls Tryz.prog 6 #[] w fun e w' => e = .returned (.bool true) ∧ Below w.heap.size w w' := by
  have HD : Hold _ := ⟨D⟩
  have HR : Hold _ := ⟨hr⟩
  have HN : Hold _ := ⟨group_calls D w 0 hr⟩
  clear D hr
  go_enter Tryz.func6, Tryz.ntmps6
  go_wp2_with fail
  refine HN.out.mono ?_
  rintro en w1 ⟨b, rfl, hg, b1⟩
  have hg' : At w1 b 607 101 64 597 := hg
  have HG : Hold _ := ⟨hg'⟩
  have B1 : Hold _ := ⟨b1⟩
  clear hg hg' b1 HN
  go_wp2_with fail
  refine (new_calls 64 w1 (by omega)).mono ?_
  rintro en w2 ⟨p2, n2, c2, rfl, h2, b2, _⟩
  have H2 : Hold _ := ⟨Fit.of (e := 1) h2 (by decide)⟩
  have HG2 : Hold _ := ⟨HD.out.below HG.out b2⟩
  have B2 : Hold _ := ⟨bstep B1.out b2⟩
  clear h2 b2 HG B1
  go_wp2_with fail
  refine (new_calls 101 w2 (by omega)).mono ?_
  rintro en w3 ⟨p3, n3, c3, rfl, h3, b3, _⟩
  have H3 : Hold _ := ⟨Fit.of (e := 1) h3 (by decide)⟩
  have H23 : Hold _ := ⟨H2.out.below b3⟩
  have HG3 : Hold _ := ⟨HD.out.below HG2.out b3⟩
  have B3 : Hold _ := ⟨bstep B2.out b3⟩
  clear h3 b3 HG2 B2 H2
  go_wp2_with fail
  refine (HD.out.exp HG3.out H23.out H3.out (by decide) (by decide)).mono ?_
  rintro en w4 ⟨_, rfl, ⟨p4, n4, c4, rfl, h4, l4⟩, b4⟩
  have H4 : Hold (Fit 33 1 (.agg #[.slice p4 n4 c4]) w4) := ⟨(Fit.of h4 l4).cast group_one⟩
  have HG4 : Hold _ := ⟨HD.out.below HG3.out b4⟩
  have B4 : Hold _ := ⟨bstep B3.out b4⟩
  clear h4 l4 b4 HG3 B3 H23 H3
  go_wp2_with fail
  refine (new_calls 1 w4 (by omega)).mono ?_
  rintro en w5 ⟨p5, n5, c5, rfl, h5, b5, _⟩
  have H5 : Hold _ := ⟨Fit.of (e := 1) h5 (by decide)⟩
  have H45 : Hold _ := ⟨H4.out.below b5⟩
  have HG5 : Hold _ := ⟨HD.out.below HG4.out b5⟩
  have B5 : Hold _ := ⟨bstep B4.out b5⟩
  clear h5 b5 HG4 B4 H4
  go_wp2_with fail
  refine (cmp_fitK H45.out H5.out (by decide) (by decide) (cmpI_zero.2 rfl)).mono ?_
  rintro en w6 ⟨_, rfl, rfl, b6⟩
  have HG6 : Hold _ := ⟨HD.out.below HG5.out b6⟩
  have B6 : Hold _ := ⟨bstep B5.out b6⟩
  clear b6 HG5 B5 H45 H5
  go_wp2_with fail
  refine (new_calls 2 w6 (by omega)).mono ?_
  rintro en w7 ⟨p7, n7, c7, rfl, h7, b7, _⟩
  have H7 : Hold _ := ⟨Fit.of (e := 1) h7 (by decide)⟩
  have HG7 : Hold _ := ⟨HD.out.below HG6.out b7⟩
  have B7 : Hold _ := ⟨bstep B6.out b7⟩
  clear h7 b7 HG6 B6
  go_wp2_with fail
  refine (HD.out.member HG7.out H7.out (by decide)).mono ?_
  rintro en w8 ⟨rfl, b8⟩
  rw [decide_eq_false two_not]
  have B8 : Hold _ := ⟨bstep B7.out b8⟩
  have HN8 : Hold _ := ⟨group_calls HD.out w8 1 (HD.out.readyBelow HR.out B8.out)⟩
  clear b8 HG7 B7 H7
  go_wp2_with fail
  refine HN8.out.mono ?_
  rintro en w9 ⟨b9, rfl, _, bb9⟩
  have B9 : Hold _ := ⟨bstep B8.out bb9⟩
  clear bb9 HN8
  go_wp2
  go_ret
  exact ⟨rfl, B9.out⟩
end

end Go.Proofs.YtcbhgfiafamflaaGreatDoor

namespace Go.Proofs.YtcbhgfiafamflaaGreatDoor
open Go Go.RowKit Go.Proofs.YtcbhgfiafamflaaGreatDoor.Flow
set_option maxRecDepth 100000

theorem be_least (N : Nat) : be (beOf N (bsize N)) = N := by
  unfold be beOf
  rw [List.reverse_reverse, le_leOf, Nat.mod_eq_of_lt (bsize_lt N)]

set_option maxHeartbeats 2000000 in
set_option maxRecDepth 100000 in
theorem num9_calls {w : World} {v : Value} {e N : Nat} (h : Fit e N v w) (he : e ≤ 200) :
    Calls Tryz.prog 67 #[v] w fun en w' => ∃ x, en = .returned x ∧ RBits N x w' ∧ Below w.heap.size w w' := by
  obtain ⟨p, n, c, rfl, h1, h2⟩ := h
  have hbx := Box1.mk1 w (.slice p n c) 33
  have HF : Hold _ := ⟨(Fit.of h1 h2).below hbx.bel⟩
  have HB : Hold _ := ⟨hbx.bel⟩
  have hl : Hold (bsize N ≤ 1000) := ⟨by
    have : blen N ≤ 32 * e := (blen_le N _).2 (by
      have : B32 e = 2 ^ (32 * e) := by unfold B32; rw [Nat.pow_mul]
      rw [← this]; exact h2)
    unfold bsize
    omega⟩
  clear h1 h2 hbx
  go_enter Tryz.func67, Tryz.ntmps67
  go_wp2_with fail
  refine (least_fit HF.out (by omega)).mono ?_
  rintro en w1 ⟨_, rfl, ⟨q, m, d, rfl, hr⟩, b1⟩
  have HR : Hold (RowIn w1 .u8 q m d (beOf N (bsize N))) := ⟨⟨hr.len, hr.cap, hr.max, fun _ => hr⟩⟩
  have HM : Hold (m ≤ 1000) := ⟨by rw [hr.len, beOf_length]; exact hl.out⟩
  have HB1 : Hold _ := ⟨bstep HB.out b1⟩
  clear hr b1
  go_wp2_with fail
  refine (of_calls w1 q m d _ HR.out (leOf_bytes N _).reverse HM.out).mono ?_
  rintro en w2 ⟨x, y, z, rfl, hb, b2, _⟩
  rw [be_least] at hb
  have HN : Hold _ := ⟨hb⟩
  have HB2 : Hold _ := ⟨bstep HB1.out b2⟩
  clear hb b2
  go_wp2
  go_ret
  exact ⟨_, rfl, RBits.of HN.out, HB2.out⟩

theorem kept_four {t : TypeId} {w : World} {b : Nat} {x0 x1 x2 x3 : Option Addr × Nat × Nat} (h : Box4 t w b (.slice x0.1 x0.2.1 x0.2.2) (.slice x1.1 x1.2.1 x1.2.2) (.slice x2.1 x2.2.1 x2.2.2) (.slice x3.1 x3.2.1 x3.2.2)) (u0 u1 u2 u3 : Value) :
    KeptS w ((((w.setCell ⟨b, 0, none⟩ u0).setCell ⟨b, 1, none⟩ u1).setCell ⟨b, 2, none⟩ u2).setCell ⟨b, 3, none⟩ u3) := by
  have h0 := h.at_
  have k0 := KeptS.set h.cells.1 u0
  have k1 : KeptS (w.setCell ⟨b, 0, none⟩ u0) ((w.setCell ⟨b, 0, none⟩ u0).setCell ⟨b, 1, none⟩ u1) := KeptS.set (p := x1.1) (n := x1.2.1) (c := x1.2.2) (by simp [World.cell?, World.setCell, Array.getElem?_modify, h0]) u1
  have k2 : KeptS ((w.setCell ⟨b, 0, none⟩ u0).setCell ⟨b, 1, none⟩ u1) (((w.setCell ⟨b, 0, none⟩ u0).setCell ⟨b, 1, none⟩ u1).setCell ⟨b, 2, none⟩ u2) := KeptS.set (p := x2.1) (n := x2.2.1) (c := x2.2.2) (by simp [World.cell?, World.setCell, Array.getElem?_modify, h0]) u2
  have k3 : KeptS (((w.setCell ⟨b, 0, none⟩ u0).setCell ⟨b, 1, none⟩ u1).setCell ⟨b, 2, none⟩ u2) ((((w.setCell ⟨b, 0, none⟩ u0).setCell ⟨b, 1, none⟩ u1).setCell ⟨b, 2, none⟩ u2).setCell ⟨b, 3, none⟩ u3) := KeptS.set (p := x3.1) (n := x3.2.1) (c := x3.2.2) (by simp [World.cell?, World.setCell, Array.getElem?_modify, h0]) u3
  exact ((k0.trans k1).trans k2).trans k3

/-- A group of the document's, as a value. -/
structure RefVal (P Q G H : Nat) (v : Value) (w : World) : Prop where
  ex : ∃ p0 n0 c0 p1 n1 c1 p2 n2 c2 p3 n3 c3, v = .agg #[.slice p0 n0 c0, .slice p1 n1 c1, .slice p2 n2 c2, .slice p3 n3 c3] ∧ BitsAt w p0 n0 c0 P ∧ BitsAt w p1 n1 c1 Q ∧ BitsAt w p2 n2 c2 G ∧ BitsAt w p3 n3 c3 H
theorem RefVal.below {P Q G H : Nat} {v : Value} {w w' : World} (h : RefVal P Q G H v w) (hb : Below w.heap.size w w') : RefVal P Q G H v w' := by
  obtain ⟨p0, n0, c0, p1, n1, c1, p2, n2, c2, p3, n3, c3, h0, h1, h2, h3, h4⟩ := h.ex
  exact ⟨p0, n0, c0, p1, n1, c1, p2, n2, c2, p3, n3, c3, h0, h1.below hb, h2.below hb, h3.below hb, h4.below hb⟩
theorem RefVal.elim {P Q G H : Nat} {v : Value} {w : World} (h : RefVal P Q G H v w) {C : Prop}
    (k : ∀ p0 n0 c0 p1 n1 c1 p2 n2 c2 p3 n3 c3, v = .agg #[.slice p0 n0 c0, .slice p1 n1 c1, .slice p2 n2 c2, .slice p3 n3 c3] → BitsAt w p0 n0 c0 P ∧ BitsAt w p1 n1 c1 Q ∧ BitsAt w p2 n2 c2 G ∧ BitsAt w p3 n3 c3 H → C) : C := by
  obtain ⟨p0, n0, c0, p1, n1, c1, p2, n2, c2, p3, n3, c3, h0, h1⟩ := h.ex
  exact k _ _ _ _ _ _ _ _ _ _ _ _ h0 h1
/-- The field, as a value. -/
structure FieldVal (Q : Nat) (v : Value) (w : World) : Prop where
  ex : ∃ r, v = .pointer (some ⟨r, 0, none⟩) ∧ Ring w r Q 33
theorem FieldVal.below {Q : Nat} {v : Value} {w w' : World} (h : FieldVal Q v w) (hb : Below w.heap.size w w') : FieldVal Q v w' := by
  obtain ⟨r, h1, h2⟩ := h.ex
  exact ⟨r, h1, h2.below hb⟩
theorem FieldVal.elim {Q : Nat} {v : Value} {w : World} (h : FieldVal Q v w) {C : Prop} (k : ∀ r, v = .pointer (some ⟨r, 0, none⟩) → Ring w r Q 33 → C) : C := by
  obtain ⟨r, h1, h2⟩ := h.ex
  exact k r h1 h2

/-- What more of a group's calls do; what they do of none. -/
structure AsksDoes (At : World → Nat → Nat → Nat → Nat → Nat → Prop) (ready : World → Prop) : Prop where
  pp : ∀ {w b P Q G H}, At w b P Q G H → Calls Tryz.prog 51 #[.pointer (some ⟨b, 0, none⟩)] w fun e w' => ∃ x, e = .returned x ∧ Fit 33 P x w' ∧ Below w.heap.size w w'
  gg : ∀ {w b P Q G H}, At w b P Q G H → Calls Tryz.prog 13 #[.pointer (some ⟨b, 0, none⟩)] w fun e w' => ∃ x, e = .returned x ∧ Fit 33 G x w' ∧ Below w.heap.size w w'
  hh : ∀ {w b P Q G H}, At w b P Q G H → Calls Tryz.prog 12 #[.pointer (some ⟨b, 0, none⟩)] w fun e w' => ∃ x, e = .returned x ∧ Fit 33 H x w' ∧ Below w.heap.size w w'
  field : ∀ {w b P Q G H}, At w b P Q G H → Calls Tryz.prog 28 #[.pointer (some ⟨b, 0, none⟩)] w fun e w' => ∃ x, e = .returned x ∧ FieldVal Q x w' ∧ Below w.heap.size w w'
  chal : ∀ {w b P Q G H p n c L}, At w b P Q G H → ready w → PartsIn w p n c L → Whole0 L → n ≤ 10 → (∀ P ∈ L, P.n ≤ 300) →
    Calls Tryz.prog 23 #[.pointer (some ⟨b, 0, none⟩), .slice p n c] w fun e w' => ∃ x, e = .returned x ∧ Fit 33 (be (sha (saidOf (L.map (·.bs)))) % Q) x w' ∧ Below w.heap.size w w'
  chalNil : ∀ w, ready w → Calls Tryz.prog 23 #[.pointer none, .slice none 0 0] w fun e w' => ∃ x, e = .returned x ∧ Fit 33 0 x w' ∧ Below w.heap.size w w'
  fieldNil : ∀ w, Calls Tryz.prog 28 #[.pointer none] w fun e w' => e = .returned (.pointer none) ∧ Below w.heap.size w w'
  sizeNil : ∀ w, Calls Tryz.prog 14 #[.pointer none] w fun e w' => e = .returned (.int .i64 0) ∧ Below w.heap.size w w'
  memberNil : ∀ {w v N}, Fit 33 N v w → Calls Tryz.prog 30 #[.pointer none, v] w fun e w' => e = .returned (.bool false) ∧ Below w.heap.size w w'
  ofNil : ∀ w, Calls Tryz.prog 24 #[.pointer none, .slice none 0 0] w fun e w' => ∃ p n c, e = .returned (.tuple #[.agg #[.slice p n c], .int .i64 1]) ∧ Below w.heap.size w w'
  bytesNil : ∀ {w v N}, Fit 33 N v w → Calls Tryz.prog 25 #[.pointer none, v] w fun e w' => ∃ p n c, e = .returned (.tuple #[.slice p n c, .int .i64 1]) ∧ Below w.heap.size w w'
  multiNil : ∀ w, Calls Tryz.prog 18 #[.pointer none, .slice none 0 0, .slice none 0 0] w fun e w' => ∃ p n c, e = .returned (.tuple #[.agg #[.slice p n c], .int .i64 1]) ∧ Below w.heap.size w w'

section
variable {At : World → Nat → Nat → Nat → Nat → Nat → Prop} {ready : World → Prop}

set_option maxHeartbeats 4000000 in
set_option maxRecDepth 100000 in
theorem ref9_calls (D : GrpDoes At ready) (A : AsksDoes At ready) {w : World} {b P Q G H : Nat} (hg : At w b P Q G H) :
    Calls Tryz.prog 26 #[.pointer (some ⟨b, 0, none⟩)] w fun e w' => ∃ x, e = .returned x ∧ RefVal P Q G H x w' ∧ Below w.heap.size w w' := by
  have hbx : Below w.heap.size w (w.alloc (.cells #[.slice none 0 0, .slice none 0 0, .slice none 0 0, .slice none 0 0] 51)) := (Below.refl _ _).alloc (Nat.le_refl _) _
  have HBX : Hold _ := ⟨Box4.made 51 w (.slice none 0 0) (.slice none 0 0) (.slice none 0 0) (.slice none 0 0)⟩
  obtain ⟨wa, hwa⟩ : ∃ wa, w.alloc (.cells #[.slice none 0 0, .slice none 0 0, .slice none 0 0, .slice none 0 0] 51) = wa := ⟨_, rfl⟩
  rw [hwa] at hbx HBX
  have HG : Hold _ := ⟨D.below hg hbx⟩
  have HB : Hold _ := ⟨hbx⟩
  have HD : Hold _ := ⟨D⟩
  have HA : Hold _ := ⟨A⟩
  clear hg hbx D A
  go_enter Tryz.func26, Tryz.ntmps26
  go_wp2_with fail
  refine (HA.out.pp HG.out).mono ?_
  rintro en w1 ⟨x1, rfl, h1, b1⟩
  have H1 : Hold _ := ⟨h1⟩
  have HG1 : Hold _ := ⟨HD.out.below HG.out b1⟩
  have HB1 : Hold _ := ⟨b1⟩
  clear h1 b1
  go_wp2_with fail
  refine (num9_calls H1.out (by decide)).mono ?_
  rintro en w2 ⟨_, rfl, ⟨p0, n0, c0, rfl, h2⟩, b2⟩
  have H2 : Hold _ := ⟨h2⟩
  have HG2 : Hold _ := ⟨HD.out.below HG1.out b2⟩
  have HB2 : Hold _ := ⟨bstep HB1.out b2⟩
  clear h2 b2
  go_wp2_with fail
  refine (HA.out.field HG2.out).mono ?_
  rintro en w3 ⟨x3, rfl, h3, b3⟩
  have H23 : Hold _ := ⟨H2.out.below b3⟩
  have HG3 : Hold _ := ⟨HD.out.below HG2.out b3⟩
  have HB3 : Hold _ := ⟨bstep HB2.out b3⟩
  obtain ⟨r, rfl, hr3⟩ := h3.ex
  have H3 : Hold (Ring w3 r Q 33) := ⟨hr3⟩
  clear h3 hr3 b3
  go_wp2_with fail
  refine (modulus_fit H3.out).mono ?_
  rintro en w4 ⟨x4, rfl, h4, b4⟩
  have H24 : Hold _ := ⟨H23.out.below b4⟩
  have H4 : Hold _ := ⟨h4⟩
  have HG4 : Hold _ := ⟨HD.out.below HG3.out b4⟩
  have HB4 : Hold _ := ⟨bstep HB3.out b4⟩
  clear h4 b4
  go_wp2_with fail
  refine (num9_calls H4.out (by decide)).mono ?_
  rintro en w5 ⟨_, rfl, ⟨p1, n1, c1, rfl, h5⟩, b5⟩
  have H25 : Hold _ := ⟨H24.out.below b5⟩
  have H5 : Hold _ := ⟨h5⟩
  have HG5 : Hold _ := ⟨HD.out.below HG4.out b5⟩
  have HB5 : Hold _ := ⟨bstep HB4.out b5⟩
  clear h5 b5
  go_wp2_with fail
  refine (HA.out.gg HG5.out).mono ?_
  rintro en w6 ⟨x6, rfl, h6, b6⟩
  have H26 : Hold _ := ⟨H25.out.below b6⟩
  have H56 : Hold _ := ⟨H5.out.below b6⟩
  have H6 : Hold _ := ⟨h6⟩
  have HG6 : Hold _ := ⟨HD.out.below HG5.out b6⟩
  have HB6 : Hold _ := ⟨bstep HB5.out b6⟩
  clear h6 b6
  go_wp2_with fail
  refine (num9_calls H6.out (by decide)).mono ?_
  rintro en w7 ⟨_, rfl, ⟨p2, n2, c2, rfl, h7⟩, b7⟩
  have H27 : Hold _ := ⟨H26.out.below b7⟩
  have H57 : Hold _ := ⟨H56.out.below b7⟩
  have H7 : Hold _ := ⟨h7⟩
  have HG7 : Hold _ := ⟨HD.out.below HG6.out b7⟩
  have HB7 : Hold _ := ⟨bstep HB6.out b7⟩
  clear h7 b7
  go_wp2_with fail
  refine (HA.out.hh HG7.out).mono ?_
  rintro en w8 ⟨x8, rfl, h8, b8⟩
  have H28 : Hold _ := ⟨H27.out.below b8⟩
  have H58 : Hold _ := ⟨H57.out.below b8⟩
  have H78 : Hold _ := ⟨H7.out.below b8⟩
  have H8 : Hold _ := ⟨h8⟩
  have HB8 : Hold _ := ⟨bstep HB7.out b8⟩
  clear h8 b8
  go_wp2_with fail
  refine (num9_calls H8.out (by decide)).mono ?_
  rintro en w9 ⟨_, rfl, ⟨p3, n3, c3, rfl, h9⟩, b9⟩
  have H29 : Hold _ := ⟨H28.out.below b9⟩
  have H59 : Hold _ := ⟨H58.out.below b9⟩
  have H79 : Hold _ := ⟨H78.out.below b9⟩
  have H9 : Hold _ := ⟨h9⟩
  have HB9 : Hold _ := ⟨bstep HB8.out b9⟩
  have hbx9 := HBX.out.below HB9.out HBX.out.lt
  have g0 := hbx9.cells.1
  have g1 := hbx9.cells.2.1
  have g2 := hbx9.cells.2.2.1
  have g3 := hbx9.cells.2.2.2
  have f0 := hbx9.free
  clear h9 b9
  go_wp2
  obtain ⟨wf, hwf⟩ : ∃ wf, wf = (((w9.setCell ⟨w.heap.size, 0, none⟩ (.slice p0 n0 c0)).setCell ⟨w.heap.size, 1, none⟩ (.slice p1 n1 c1)).setCell ⟨w.heap.size, 2, none⟩ (.slice p2 n2 c2)).setCell ⟨w.heap.size, 3, none⟩ (.slice p3 n3 c3) := ⟨_, rfl⟩
  have hkp : KeptS w9 wf := by rw [hwf]; exact kept_four (x0 := (none, 0, 0)) (x1 := (none, 0, 0)) (x2 := (none, 0, 0)) (x3 := (none, 0, 0)) hbx9 _ _ _ _
  have hst := four_stores hbx9 hwf
  have e0 := hst.1.cells.1
  have e1 := hst.1.cells.2.1
  have e2 := hst.1.cells.2.2.1
  have e3 := hst.1.cells.2.2.2
  have hbf := hst.2.2 w.heap.size w (bstep HB.out HB9.out) (Nat.le_refl _)
  rw [← hwf]
  refine bodyPost_ret (v := .agg #[.slice p0 n0 c0, .slice p1 n1 c1, .slice p2 n2 c2, .slice p3 n3 c3]) (by simp [results, Tryz.results26, go_sem, e0, e1, e2, e3]) rfl ⟨_, rfl, ⟨p0, n0, c0, p1, n1, c1, p2, n2, c2, p3, n3, c3, rfl, bitsLike.kept H29.out hkp, bitsLike.kept H59.out hkp, bitsLike.kept H79.out hkp, bitsLike.kept H9.out hkp⟩, hbf⟩

theorem chal_len {L : List Part} {n : Nat} (hn : n = L.length) (h10 : n ≤ 10) (hl : ∀ P ∈ L, P.bs.length ≤ 300) : (saidOf (L.map (·.bs))).length ≤ 1000000 := by
  have key : ∀ (l : List Part), (∀ P ∈ l, P.bs.length ≤ 300) → (saidOf (l.map (·.bs))).length ≤ 308 * l.length := by
    intro l
    induction l with
    | nil => intro _; simp [saidOf]
    | cons P l ih =>
      intro h
      have h1 := h P (by simp)
      have h2 := ih fun Q hQ => h Q (by simp [hQ])
      simp only [List.map_cons, saidOf, List.length_append, le8_length, List.length_cons]
      omega
  have := key L hl
  omega

set_option maxHeartbeats 8000000 in
set_option maxRecDepth 1000000 in
theorem asks_calls (D : GrpDoes At ready) (X : AsksDoes At ready) (w : World) (hr : ready w) (A : Int) (p : Option Addr) (n c : Nat) (L : List Part) (hL : PartsIn w p n c L) (hz : Whole0 L) :
    Calls Tryz.prog 5 #[.int .i64 A, .slice p n c] w fun e w' => e = .returned (.bool true) ∧ Below w.heap.size w w' := by
  have HL : Hold _ := ⟨hL⟩
  have HLn : Hold _ := ⟨hL.len⟩
  have hl1 := Nat.le_trans hL.cap hL.max
  have HZ : Hold _ := ⟨hz⟩
  have HD : Hold _ := ⟨D⟩
  have HA : Hold _ := ⟨X⟩
  have HR : Hold _ := ⟨hr⟩
  have HLI : Hold _ := ⟨lives9_calls D⟩
  have HGr : Hold _ := ⟨fun (w : World) (A : Int) (hr : ready w) => group_calls D w A hr⟩
  clear hL D X hr hz
  go_enter Tryz.func5, Tryz.ntmps5
  go_wp2_with fail
  refine (HLI.out w HR.out).mono ?_
  rintro en w1 ⟨rfl, b1⟩
  have B1 : Hold _ := ⟨b1⟩
  clear b1
  by_cases hl10 : 10 < n
  · have hl10' : (10 : Int) < n := by omega
    go_wp2_with fail
    refine (HLI.out w1 (HD.out.readyBelow HR.out B1.out)).mono ?_
    rintro en w2 ⟨rfl, b2⟩
    have B2 : Hold _ := ⟨bstep B1.out b2⟩
    clear b2
    go_wp2
    go_ret
    exact ⟨rfl, B2.out⟩
  have hl10' : ¬ (10 : Int) < n := by omega
  go_wp2
  go_loopw [6, 26] (fun _ iv wr => ∃ k : Nat, k ≤ n ∧ iv = .int .i64 k ∧ Hold (Below w.heap.size w wr) ∧ Hold (∀ i P, i < k → L[i]? = some P → P.n ≤ 300)) (fun _ iv _ => n - (intOf iv).toNat)
  case atStart => exact ⟨0, by omega, rfl, B1, ⟨fun i P h => by omega⟩⟩
  case round =>
    obtain ⟨k, hk, rfl, HB, HF⟩ := hrel
    by_cases hkn : k < n
    · obtain ⟨S, hSk⟩ : ∃ s, L[k]? = some s := ⟨L[k]'(by rw [← HLn.out]; exact hkn), List.getElem?_eq_getElem _⟩
      have hLr := HL.out.below HB.out
      obtain ⟨bb, off, rfl, hb, hc⟩ := hLr.cells (by omega)
      have hx := hc k S hSk
      have hSm := Nat.le_trans (hLr.ok k S hSk).row.cap (hLr.ok k S hSk).row.max
      have HSk : Hold _ := ⟨hSk⟩
      have hkn' : (k : Int) < n := by omega
      clear hc hSk hLr
      by_cases h300 : 300 < S.n
      · have h300' : (300 : Int) < S.n := by omega
        go_wp2
        go_ret
        exact ⟨rfl, HB.out⟩
      · have h300' : ¬ (300 : Int) < S.n := by omega
        have HF' : Hold (∀ i P, i < k + 1 → L[i]? = some P → P.n ≤ 300) := ⟨fun i P hi hP => by
          rcases (by omega : i < k ∨ i = k) with h | rfl
          · exact HF.out i P h hP
          · have := HSk.out
            rw [hP] at this
            cases this
            omega⟩
        go_wp2
        go_roundw
        case rel => exact ⟨k + 1, by omega, by go_num, HB, HF'⟩
        case measure => simp [intOf]; omega
    · obtain rfl : k = n := by omega
      have hkn' : ¬ (k : Int) < k := by omega
      have HFL : Hold (∀ P ∈ L, P.n ≤ 300) := ⟨fun P hP => by
        obtain ⟨i, hi⟩ := List.getElem?_of_mem hP
        exact HF.out i P (by rw [HLn.out]; exact (List.getElem?_eq_some_iff.1 hi).1) hi⟩
      have HMx : Hold ((saidOf (L.map (·.bs))).length ≤ 1000000) := ⟨chal_len HLn.out (by omega) fun P hP => by
        have h1 := HFL.out P hP
        obtain ⟨i, hi⟩ := List.getElem?_of_mem hP
        rw [(HL.out.ok i P hi).row.len] at h1
        exact h1⟩
      clear HF
      go_wp2_with fail
      refine (HGr.out wr A (HD.out.readyBelow HR.out HB.out)).mono ?_
      rintro en w2 ⟨b, rfl, hg, b2⟩
      obtain ⟨i, hi⟩ : ∃ i, ((IntKind.u64.wrap A) % 3).toNat = i := ⟨_, rfl⟩
      rw [hi] at hg
      clear hi
      obtain ⟨P, hP⟩ : ∃ P, gP i = P := ⟨_, rfl⟩
      obtain ⟨Q, hQ⟩ : ∃ Q, gQ i = Q := ⟨_, rfl⟩
      obtain ⟨G, hG⟩ : ∃ G, gG i = G := ⟨_, rfl⟩
      obtain ⟨H, hH⟩ : ∃ H, gH i = H := ⟨_, rfl⟩
      rw [hP, hQ, hG, hH] at hg
      clear hP hQ hG hH
      have HQ0 : Hold (0 < Q) := ⟨by have := (HD.out.lim hg).2.2.1; omega⟩
      have HQl : Hold (blen Q ≤ 900000) := ⟨by have := lim_blen (HD.out.lim hg).2.2.2; omega⟩
      have HQB : Hold (Q < B32 33) := ⟨(HD.out.lim hg).2.2.2⟩
      have HB2 : Hold _ := ⟨bstep HB.out b2⟩
      have HG2 : Hold _ := ⟨hg⟩
      obtain ⟨ZZ, hZZ⟩ : ∃ Z, be (sha (saidOf (L.map (·.bs)))) % Q = Z := ⟨_, rfl⟩
      have HZZ : Hold _ := ⟨hZZ⟩
      have HZQ : Hold (ZZ < Q) := ⟨by rw [← hZZ]; exact Nat.mod_lt _ HQ0.out⟩
      clear b2 hg hZZ
      go_wp2_with fail
      refine (HA.out.chal HG2.out (HD.out.readyBelow HR.out HB2.out) (HL.out.below HB2.out) HZ.out (by omega) HFL.out).mono ?_
      rintro en w3 ⟨_, rfl, ⟨qc, mc, dc, rfl, hc1, hc2⟩, b3⟩
      rw [HZZ.out] at hc1 hc2
      have hb4 : Below w3.heap.size w3 (w3.alloc (.cells #[.slice qc mc dc] 33)) := (Below.refl _ _).alloc (Nat.le_refl _) _
      have H94 : Hold _ := ⟨NatBox.made w3 (.slice qc mc dc)⟩
      obtain ⟨w4, hw4⟩ : ∃ w4, w3.alloc (.cells #[.slice qc mc dc] 33) = w4 := ⟨_, rfl⟩
      rw [hw4] at hb4 H94
      have hb34 := bstep b3 hb4
      have HB4 : Hold _ := ⟨bstep HB2.out hb34⟩
      have HG4 : Hold _ := ⟨HD.out.below HG2.out hb34⟩
      have HC4 : Hold _ := ⟨(Fit.of hc1 hc2).below hb4⟩
      clear hb4 hb34 b3 hc1 hc2
      go_wp2_with fail
      refine (HA.out.ofNil w4).mono ?_
      rintro en w5 ⟨pa, na, ca, rfl, b5⟩
      have hb6 : Below w5.heap.size w5 (w5.alloc (.cells #[.slice pa na ca] 33)) := (Below.refl _ _).alloc (Nat.le_refl _) _
      obtain ⟨w6, hw6⟩ : ∃ w6, w5.alloc (.cells #[.slice pa na ca] 33) = w6 := ⟨_, rfl⟩
      rw [hw6] at hb6
      have hb56 := bstep b5 hb6
      have HB6 : Hold _ := ⟨bstep HB4.out hb56⟩
      have HG6 : Hold _ := ⟨HD.out.below HG4.out hb56⟩
      have HC6 : Hold _ := ⟨HC4.out.below hb56⟩
      have H96 : Hold _ := ⟨H94.out.below hb56 H94.out.lt⟩
      have c9 := H96.out.cell
      clear hb6 hb56 b5
      go_wp2_with fail
      refine (HA.out.bytesNil HC6.out).mono ?_
      rintro en w7 ⟨pb, nb, cb, rfl, b7⟩
      have HB7 : Hold _ := ⟨bstep HB6.out b7⟩
      have HG7 : Hold _ := ⟨HD.out.below HG6.out b7⟩
      have HC7 : Hold _ := ⟨HC6.out.below b7⟩
      have H97 : Hold _ := ⟨H96.out.below b7 H96.out.lt⟩
      clear c9 b7
      go_wp2_with fail
      refine (HA.out.multiNil w7).mono ?_
      rintro en w8 ⟨pm, nm, cm, rfl, b8⟩
      have hb9 : Below w8.heap.size w8 (w8.alloc (.cells #[.slice pm nm cm] 33)) := (Below.refl _ _).alloc (Nat.le_refl _) _
      obtain ⟨wz, hwz⟩ : ∃ wz, w8.alloc (.cells #[.slice pm nm cm] 33) = wz := ⟨_, rfl⟩
      rw [hwz] at hb9
      have hb89 := bstep b8 hb9
      have HBz : Hold _ := ⟨bstep HB7.out hb89⟩
      have HG : Hold _ := ⟨HD.out.below HG7.out hb89⟩
      have HC : Hold _ := ⟨HC7.out.below hb89⟩
      have H9 : Hold _ := ⟨H97.out.below hb89 H97.out.lt⟩
      have HP : Hold _ := ⟨HL.out.below HBz.out⟩
      have HRef : Hold _ := ⟨fun (w : World) (hg : At w b P Q G H) => ref9_calls HD.out HA.out hg⟩
      obtain ⟨K, hK0⟩ : ∃ K, cmpI ZZ Q = K := ⟨_, rfl⟩
      have HK : Hold _ := ⟨hK0⟩
      have HKn : Hold (decide (K < 0) = true) := ⟨decide_eq_true (by rw [← hK0, cmpI_lt HZQ.out]; decide)⟩
      clear hb9 hb89 b8 hK0
      go_wp2
      have hK := HKn.out
      refine wp_region_duties (by kernel_rfl) (by kernel_rfl)
        [some (.agg #[.slice qc mc dc]), some (.pointer (some ⟨b, 0, none⟩)), none, some (.slice p k c), none, none, some (.bool true), some (.agg #[.slice qc mc dc]), some (.pointer (some ⟨b, 0, none⟩)), none, none, none, some (.bool true), some (.bool true), some (.bool true), some (.pointer none), none, none, some (.bool true), some (.bool true), some (.pointer none), none, some (.bool true), some (.bool true), some (.bool true), some (.pointer none), none, some (.bool true), some (.bool true), some (.bool true), some (.pointer none), some (.agg #[.slice qc mc dc]), none, some (.bool true), some (.bool true), some (.bool true), some (.int .i64 1), some (.bool true), some (.bool true), some (.bool true), some (.int .i64 1), some (.bool true), some (.bool true), some (.bool true), some (.int .i64 1), some (.bool true), some (.bool true), some (.bool true)]
        [false, false, true, false, true, true, false, false, false, true, true, true, false, false, false, false, true, true, false, false, false, true, false, false, false, false, true, false, false, false, false, false, true, false, false, false, false, false, false, false, false, false, false, false, false, false, false, false] rfl
        (fun w1 w2 => Below w1.heap.size w1 w2)
        (fun _ w' => Below wz.heap.size wz w')
        (fun i v w' => match i with
          | 2 => RefVal P Q G H v w'
          | 4 => RBits ZZ v w'
          | 5 => v = .bool true
          | 9 => FieldVal Q v w'
          | 10 => Fit 33 Q v w'
          | 11 => v = .int .i64 K
          | 16 => Fit 33 0 v w'
          | 17 => v = .bool true
          | 21 => v = .pointer none
          | 26 => v = .int .i64 0
          | 32 => v = .bool false
          | _ => True)
        ?_ (Below.refl _ _).drew ?_ ?_
      · intro i v w1 w2 hf hb
        split at hf
        · exact hf.below hb
        · exact hf.below hb
        · exact hf
        · exact hf.below hb
        · exact hf.below hb
        · exact hf
        · exact hf.below hb
        · exact hf
        · exact hf
        · exact hf
        · exact hf
        · trivial
      · simp only [Duties, Nat.reduceAdd]
        refine ⟨?_, ?_, ?_, ?_, ?_, ?_, ?_, ?_, ?_, ?_, ?_, ?_, ?_, ?_, ?_, ?_, ?_, ?_, ?_, ?_, ?_, ?_, ?_, ?_, ?_, ?_, ?_, ?_, ?_, ?_, ?_, ?_, ?_, ?_, ?_, ?_, ?_, ?_, ?_, ?_, ?_, ?_, ?_, ?_, ?_, ?_, ?_, ?_, trivial⟩
        case refine_1 =>
          intro D sp w' hD hW hdp hbx'
          have c0 := (H9.out.below hbx' H9.out.lt).cell
          (with_reducible refine asked_value (w1 := w') (v := .agg #[.slice qc mc dc]) ?_ ?_ ?_)
          · first | (simp only [Region.wanted]; done) | simp [Region.wanted, yielded, Act.put, go_sem]
          · simp [execOp, Act.eval, go_sem, c0]
          · exact ⟨rfl, rfl⟩
        case refine_2 =>
          intro D sp w' hD hW hdp hbx'
          (with_reducible refine asked_value (w1 := w') (v := .pointer (some ⟨b, 0, none⟩)) ?_ ?_ ?_)
          · first | (simp only [Region.wanted]; done) | simp [Region.wanted, yielded, Act.put, go_sem]
          · simp [execOp, Act.eval, Act.put, go_sem]
          · exact ⟨rfl, rfl⟩
        case refine_3 =>
          intro D sp w' hD hW hdp hbx'
          (with_reducible refine asked_call (w1 := w') (f := 26) (args := #[.pointer (some ⟨b, 0, none⟩)]) ?_ ?_ ?_)
          · first | (simp only [Region.wanted]; done) | simp [Region.wanted, yielded, Act.put, go_sem]
          · simp [Act.eval, Act.put, go_sem]
          · refine (HRef.out w' (HD.out.below HG.out hbx')).mono ?_
            rintro en w9 ⟨u, rfl, hu, hb⟩
            exact ⟨u, rfl, hb, hu, bstep hbx' hb⟩
        case refine_4 =>
          intro D sp w' hD hW hdp hbx'
          (with_reducible refine asked_value (w1 := w') (v := .slice p k c) ?_ ?_ ?_)
          · first | (simp only [Region.wanted]; done) | simp [Region.wanted, yielded, Act.put, go_sem]
          · simp [execOp, Act.eval, Act.put, go_sem]
          · exact ⟨rfl, rfl⟩
        case refine_5 =>
          intro D sp w' hD hW hdp hbx'
          have k2 : RefVal P Q G H (sp 2) w' := (hdp 2 (List.mem_of_elem_eq_true (by kernel_rfl))).2
          (with_reducible refine k2.elim (fun p0 n0 c0 p1 n1 c1 p2 n2 c2 p3 n3 c3 hv hq => ?_))
          (with_reducible refine asked_call (w1 := w') (f := 27) (args := #[.agg #[.slice p0 n0 c0, .slice p1 n1 c1, .slice p2 n2 c2, .slice p3 n3 c3], .slice p k c]) ?_ ?_ ?_)
          · simp only [Region.wanted]
          · simp [Act.eval, Act.put, go_sem, hv]
          · refine (dchal_calls w' p0 n0 c0 p1 n1 c1 Q p2 n2 c2 p3 n3 c3 hq.2.1 HQ0.out HQl.out p k c L (HP.out.below hbx') HZ.out HMx.out).mono ?_
            rintro en w9 ⟨u, rfl, hu, hb⟩
            rw [HZZ.out] at hu
            exact ⟨u, rfl, hb, hu, bstep hbx' hb⟩
        case refine_6 =>
          intro D sp w' hD hW hdp hbx'
          have k4 : RBits ZZ (sp 4) w' := (hdp 4 (List.mem_of_elem_eq_true (by kernel_rfl))).2
          (with_reducible refine asked_call (w1 := w') (f := 11) (args := #[.agg #[.slice qc mc dc], sp 4]) ?_ ?_ ?_)
          · first | (simp only [Region.wanted]; done) | simp [Region.wanted, yielded, Act.put, go_sem]
          · simp [Act.eval, Act.put, go_sem]
          · refine (same_fit' (HC.out.below hbx') k4 (by decide)).mono ?_
            rintro en w9 ⟨u, rfl, rfl, hb⟩
            exact ⟨_, rfl, hb, rfl, bstep hbx' hb⟩
        case refine_7 =>
          intro D sp w' hD hW hdp hbx'
          have k5 : (sp 5) = .bool true := (hdp 5 (List.mem_of_elem_eq_true (by kernel_rfl))).2
          (with_reducible refine asked_value (w1 := w') (v := .bool true) ?_ ?_ ?_)
          · first | (simp only [Region.wanted]; done) | simp [Region.wanted, yielded, Act.put, go_sem, k5]
          · simp [execOp, Act.eval, Act.put, go_sem, k5]
          · exact ⟨rfl, rfl⟩
        case refine_8 =>
          intro D sp w' hD hW hdp hbx'
          have c0 := (H9.out.below hbx' H9.out.lt).cell
          (with_reducible refine asked_value (w1 := w') (v := .agg #[.slice qc mc dc]) ?_ ?_ ?_)
          · first | (simp only [Region.wanted]; done) | simp [Region.wanted, yielded, Act.put, go_sem]
          · simp [execOp, Act.eval, Act.put, go_sem, c0]
          · exact ⟨rfl, rfl⟩
        case refine_9 =>
          intro D sp w' hD hW hdp hbx'
          (with_reducible refine asked_value (w1 := w') (v := .pointer (some ⟨b, 0, none⟩)) ?_ ?_ ?_)
          · first | (simp only [Region.wanted]; done) | simp [Region.wanted, yielded, Act.put, go_sem]
          · simp [execOp, Act.eval, Act.put, go_sem]
          · exact ⟨rfl, rfl⟩
        case refine_10 =>
          intro D sp w' hD hW hdp hbx'
          (with_reducible refine asked_call (w1 := w') (f := 28) (args := #[.pointer (some ⟨b, 0, none⟩)]) ?_ ?_ ?_)
          · first | (simp only [Region.wanted]; done) | simp [Region.wanted, yielded, Act.put, go_sem]
          · simp [Act.eval, Act.put, go_sem]
          · refine (HA.out.field (HD.out.below HG.out hbx')).mono ?_
            rintro en w9 ⟨u, rfl, hu, hb⟩
            exact ⟨u, rfl, hb, hu, bstep hbx' hb⟩
        case refine_11 =>
          intro D sp w' hD hW hdp hbx'
          have k9 : FieldVal Q (sp 9) w' := (hdp 9 (List.mem_of_elem_eq_true (by kernel_rfl))).2
          (with_reducible refine k9.elim (fun r hv hr => ?_))
          (with_reducible refine asked_call (w1 := w') (f := 29) (args := #[.pointer (some ⟨r, 0, none⟩)]) ?_ ?_ ?_)
          · first | (simp only [Region.wanted]; done) | simp [Region.wanted, yielded, Act.put, go_sem]
          · simp [Act.eval, Act.put, go_sem, hv]
          · refine (modulus_fit hr).mono ?_
            rintro en w9 ⟨u, rfl, hu, hb⟩
            exact ⟨u, rfl, hb, hu, bstep hbx' hb⟩
        case refine_12 =>
          intro D sp w' hD hW hdp hbx'
          have k10 : Fit 33 Q (sp 10) w' := (hdp 10 (List.mem_of_elem_eq_true (by kernel_rfl))).2
          (with_reducible refine asked_call (w1 := w') (f := 22) (args := #[.agg #[.slice qc mc dc], sp 10]) ?_ ?_ ?_)
          · first | (simp only [Region.wanted]; done) | simp [Region.wanted, yielded, Act.put, go_sem]
          · simp [Act.eval, Act.put, go_sem]
          · refine (cmp_fitK (HC.out.below hbx') k10 (by decide) (by decide) HK.out).mono ?_
            rintro en w9 ⟨u, rfl, rfl, hb⟩
            exact ⟨_, rfl, hb, rfl, bstep hbx' hb⟩
        case refine_13 =>
          intro D sp w' hD hW hdp hbx'
          have k11 : (sp 11) = .int .i64 K := (hdp 11 (List.mem_of_elem_eq_true (by kernel_rfl))).2
          (with_reducible refine asked_value (w1 := w') (v := .bool true) ?_ ?_ ?_)
          · first | (simp only [Region.wanted]; done) | simp [Region.wanted, yielded, Act.put, go_sem, k11]
          · simp [execOp, Act.eval, Act.put, go_sem, k11, hK]
          · exact ⟨rfl, rfl⟩
        case refine_14 =>
          intro D sp w' hD hW hdp hbx'
          (with_reducible refine asked_value (w1 := w') (v := .bool true) ?_ ?_ ?_)
          · first | (simp only [Region.wanted]; done) | simp [Region.wanted, yielded, Act.put, go_sem]
          · simp [execOp, Act.eval, Act.put, go_sem]
          · exact ⟨rfl, rfl⟩
        case refine_15 =>
          intro D sp w' hD hW hdp hbx'
          (with_reducible refine asked_value (w1 := w') (v := .bool true) ?_ ?_ ?_)
          · first | (simp only [Region.wanted]; done) | simp [Region.wanted, yielded, Act.put, go_sem]
          · simp [execOp, Act.eval, Act.put, go_sem]
          · exact ⟨rfl, rfl⟩
        case refine_16 =>
          intro D sp w' hD hW hdp hbx'
          (with_reducible refine asked_value (w1 := w') (v := .pointer none) ?_ ?_ ?_)
          · first | (simp only [Region.wanted]; done) | simp [Region.wanted, yielded, Act.put, go_sem]
          · simp [execOp, Act.eval, Act.put, go_sem]
          · exact ⟨rfl, rfl⟩
        case refine_17 =>
          intro D sp w' hD hW hdp hbx'
          (with_reducible refine asked_call (w1 := w') (f := 23) (args := #[.pointer none, .slice none 0 0]) ?_ ?_ ?_)
          · first | (simp only [Region.wanted]; done) | simp [Region.wanted, yielded, Act.put, go_sem]
          · simp [Act.eval, Act.put, go_sem]
          · refine (HA.out.chalNil w' (HD.out.readyBelow (HD.out.readyBelow HR.out HBz.out) hbx')).mono ?_
            rintro en w9 ⟨u, rfl, hu, hb⟩
            exact ⟨u, rfl, hb, hu, bstep hbx' hb⟩
        case refine_18 =>
          intro D sp w' hD hW hdp hbx'
          have k16 : Fit 33 0 (sp 16) w' := (hdp 16 (List.mem_of_elem_eq_true (by kernel_rfl))).2
          (with_reducible refine asked_call (w1 := w') (f := 19) (args := #[sp 16]) ?_ ?_ ?_)
          · first | (simp only [Region.wanted]; done) | simp [Region.wanted, yielded, Act.put, go_sem]
          · simp [Act.eval, Act.put, go_sem]
          · refine (zero_fitB k16 (decide_eq_true rfl)).mono ?_
            rintro en w9 ⟨u, rfl, rfl, hb⟩
            exact ⟨_, rfl, hb, rfl, bstep hbx' hb⟩
        case refine_19 =>
          intro D sp w' hD hW hdp hbx'
          have k17 : (sp 17) = .bool true := (hdp 17 (List.mem_of_elem_eq_true (by kernel_rfl))).2
          (with_reducible refine asked_value (w1 := w') (v := .bool true) ?_ ?_ ?_)
          · first | (simp only [Region.wanted]; done) | simp [Region.wanted, yielded, Act.put, go_sem, k17]
          · simp [execOp, Act.eval, Act.put, go_sem, k17]
          · exact ⟨rfl, rfl⟩
        case refine_20 =>
          intro D sp w' hD hW hdp hbx'
          (with_reducible refine asked_value (w1 := w') (v := .bool true) ?_ ?_ ?_)
          · first | (simp only [Region.wanted]; done) | simp [Region.wanted, yielded, Act.put, go_sem]
          · simp [execOp, Act.eval, Act.put, go_sem]
          · exact ⟨rfl, rfl⟩
        case refine_21 =>
          intro D sp w' hD hW hdp hbx'
          (with_reducible refine asked_value (w1 := w') (v := .pointer none) ?_ ?_ ?_)
          · first | (simp only [Region.wanted]; done) | simp [Region.wanted, yielded, Act.put, go_sem]
          · simp [execOp, Act.eval, Act.put, go_sem]
          · exact ⟨rfl, rfl⟩
        case refine_22 =>
          intro D sp w' hD hW hdp hbx'
          (with_reducible refine asked_call (w1 := w') (f := 28) (args := #[.pointer none]) ?_ ?_ ?_)
          · first | (simp only [Region.wanted]; done) | simp [Region.wanted, yielded, Act.put, go_sem]
          · simp [Act.eval, Act.put, go_sem]
          · refine (HA.out.fieldNil w').mono ?_
            rintro en w9 ⟨rfl, hb⟩
            exact ⟨_, rfl, hb, rfl, bstep hbx' hb⟩
        case refine_23 =>
          intro D sp w' hD hW hdp hbx'
          have k21 : (sp 21) = .pointer none := (hdp 21 (List.mem_of_elem_eq_true (by kernel_rfl))).2
          (with_reducible refine asked_value (w1 := w') (v := .bool true) ?_ ?_ ?_)
          · first | (simp only [Region.wanted]; done) | simp [Region.wanted, yielded, Act.put, go_sem, k21]
          · simp [execOp, Act.eval, Act.put, go_sem, k21]
          · exact ⟨rfl, rfl⟩
        case refine_24 =>
          intro D sp w' hD hW hdp hbx'
          (with_reducible refine asked_value (w1 := w') (v := .bool true) ?_ ?_ ?_)
          · first | (simp only [Region.wanted]; done) | simp [Region.wanted, yielded, Act.put, go_sem]
          · simp [execOp, Act.eval, Act.put, go_sem]
          · exact ⟨rfl, rfl⟩
        case refine_25 =>
          intro D sp w' hD hW hdp hbx'
          (with_reducible refine asked_value (w1 := w') (v := .bool true) ?_ ?_ ?_)
          · first | (simp only [Region.wanted]; done) | simp [Region.wanted, yielded, Act.put, go_sem]
          · simp [execOp, Act.eval, Act.put, go_sem]
          · exact ⟨rfl, rfl⟩
        case refine_26 =>
          intro D sp w' hD hW hdp hbx'
          (with_reducible refine asked_value (w1 := w') (v := .pointer none) ?_ ?_ ?_)
          · first | (simp only [Region.wanted]; done) | simp [Region.wanted, yielded, Act.put, go_sem]
          · simp [execOp, Act.eval, Act.put, go_sem]
          · exact ⟨rfl, rfl⟩
        case refine_27 =>
          intro D sp w' hD hW hdp hbx'
          (with_reducible refine asked_call (w1 := w') (f := 14) (args := #[.pointer none]) ?_ ?_ ?_)
          · first | (simp only [Region.wanted]; done) | simp [Region.wanted, yielded, Act.put, go_sem]
          · simp [Act.eval, Act.put, go_sem]
          · refine (HA.out.sizeNil w').mono ?_
            rintro en w9 ⟨rfl, hb⟩
            exact ⟨_, rfl, hb, rfl, bstep hbx' hb⟩
        case refine_28 =>
          intro D sp w' hD hW hdp hbx'
          have k26 : (sp 26) = .int .i64 0 := (hdp 26 (List.mem_of_elem_eq_true (by kernel_rfl))).2
          (with_reducible refine asked_value (w1 := w') (v := .bool true) ?_ ?_ ?_)
          · first | (simp only [Region.wanted]; done) | simp [Region.wanted, yielded, Act.put, go_sem, k26]
          · simp [execOp, Act.eval, Act.put, go_sem, k26]
          · exact ⟨rfl, rfl⟩
        case refine_29 =>
          intro D sp w' hD hW hdp hbx'
          (with_reducible refine asked_value (w1 := w') (v := .bool true) ?_ ?_ ?_)
          · first | (simp only [Region.wanted]; done) | simp [Region.wanted, yielded, Act.put, go_sem]
          · simp [execOp, Act.eval, Act.put, go_sem]
          · exact ⟨rfl, rfl⟩
        case refine_30 =>
          intro D sp w' hD hW hdp hbx'
          (with_reducible refine asked_value (w1 := w') (v := .bool true) ?_ ?_ ?_)
          · first | (simp only [Region.wanted]; done) | simp [Region.wanted, yielded, Act.put, go_sem]
          · simp [execOp, Act.eval, Act.put, go_sem]
          · exact ⟨rfl, rfl⟩
        case refine_31 =>
          intro D sp w' hD hW hdp hbx'
          (with_reducible refine asked_value (w1 := w') (v := .pointer none) ?_ ?_ ?_)
          · first | (simp only [Region.wanted]; done) | simp [Region.wanted, yielded, Act.put, go_sem]
          · simp [execOp, Act.eval, Act.put, go_sem]
          · exact ⟨rfl, rfl⟩
        case refine_32 =>
          intro D sp w' hD hW hdp hbx'
          have c0 := (H9.out.below hbx' H9.out.lt).cell
          (with_reducible refine asked_value (w1 := w') (v := .agg #[.slice qc mc dc]) ?_ ?_ ?_)
          · first | (simp only [Region.wanted]; done) | simp [Region.wanted, yielded, Act.put, go_sem]
          · simp [execOp, Act.eval, Act.put, go_sem, c0]
          · exact ⟨rfl, rfl⟩
        case refine_33 =>
          intro D sp w' hD hW hdp hbx'
          (with_reducible refine asked_call (w1 := w') (f := 30) (args := #[.pointer none, .agg #[.slice qc mc dc]]) ?_ ?_ ?_)
          · first | (simp only [Region.wanted]; done) | simp [Region.wanted, yielded, Act.put, go_sem]
          · simp [Act.eval, Act.put, go_sem]
          · refine (HA.out.memberNil (HC.out.below hbx')).mono ?_
            rintro en w9 ⟨rfl, hb⟩
            exact ⟨_, rfl, hb, rfl, bstep hbx' hb⟩
        case refine_34 =>
          intro D sp w' hD hW hdp hbx'
          have k32 : (sp 32) = .bool false := (hdp 32 (List.mem_of_elem_eq_true (by kernel_rfl))).2
          (with_reducible refine asked_value (w1 := w') (v := .bool true) ?_ ?_ ?_)
          · first | (simp only [Region.wanted]; done) | simp [Region.wanted, yielded, Act.put, go_sem, k32]
          · simp [execOp, Act.eval, Act.put, go_sem, k32]
          · exact ⟨rfl, rfl⟩
        case refine_35 =>
          intro D sp w' hD hW hdp hbx'
          (with_reducible refine asked_value (w1 := w') (v := .bool true) ?_ ?_ ?_)
          · first | (simp only [Region.wanted]; done) | simp [Region.wanted, yielded, Act.put, go_sem]
          · simp [execOp, Act.eval, Act.put, go_sem]
          · exact ⟨rfl, rfl⟩
        case refine_36 =>
          intro D sp w' hD hW hdp hbx'
          (with_reducible refine asked_value (w1 := w') (v := .bool true) ?_ ?_ ?_)
          · first | (simp only [Region.wanted]; done) | simp [Region.wanted, yielded, Act.put, go_sem]
          · simp [execOp, Act.eval, Act.put, go_sem]
          · exact ⟨rfl, rfl⟩
        case refine_37 =>
          intro D sp w' hD hW hdp hbx'
          (with_reducible refine asked_value (w1 := w') (v := .int .i64 1) ?_ ?_ ?_)
          · first | (simp only [Region.wanted]; done) | simp [Region.wanted, yielded, Act.put, go_sem]
          · simp [execOp, Act.eval, Act.put, go_sem]
          · exact ⟨rfl, rfl⟩
        case refine_38 =>
          intro D sp w' hD hW hdp hbx'
          (with_reducible refine asked_value (w1 := w') (v := .bool true) ?_ ?_ ?_)
          · first | (simp only [Region.wanted]; done) | simp [Region.wanted, yielded, Act.put, go_sem]
          · simp [execOp, Act.eval, Act.put, go_sem]
          · exact ⟨rfl, rfl⟩
        case refine_39 =>
          intro D sp w' hD hW hdp hbx'
          (with_reducible refine asked_value (w1 := w') (v := .bool true) ?_ ?_ ?_)
          · first | (simp only [Region.wanted]; done) | simp [Region.wanted, yielded, Act.put, go_sem]
          · simp [execOp, Act.eval, Act.put, go_sem]
          · exact ⟨rfl, rfl⟩
        case refine_40 =>
          intro D sp w' hD hW hdp hbx'
          (with_reducible refine asked_value (w1 := w') (v := .bool true) ?_ ?_ ?_)
          · first | (simp only [Region.wanted]; done) | simp [Region.wanted, yielded, Act.put, go_sem]
          · simp [execOp, Act.eval, Act.put, go_sem]
          · exact ⟨rfl, rfl⟩
        case refine_41 =>
          intro D sp w' hD hW hdp hbx'
          (with_reducible refine asked_value (w1 := w') (v := .int .i64 1) ?_ ?_ ?_)
          · first | (simp only [Region.wanted]; done) | simp [Region.wanted, yielded, Act.put, go_sem]
          · simp [execOp, Act.eval, Act.put, go_sem]
          · exact ⟨rfl, rfl⟩
        case refine_42 =>
          intro D sp w' hD hW hdp hbx'
          (with_reducible refine asked_value (w1 := w') (v := .bool true) ?_ ?_ ?_)
          · first | (simp only [Region.wanted]; done) | simp [Region.wanted, yielded, Act.put, go_sem]
          · simp [execOp, Act.eval, Act.put, go_sem]
          · exact ⟨rfl, rfl⟩
        case refine_43 =>
          intro D sp w' hD hW hdp hbx'
          (with_reducible refine asked_value (w1 := w') (v := .bool true) ?_ ?_ ?_)
          · first | (simp only [Region.wanted]; done) | simp [Region.wanted, yielded, Act.put, go_sem]
          · simp [execOp, Act.eval, Act.put, go_sem]
          · exact ⟨rfl, rfl⟩
        case refine_44 =>
          intro D sp w' hD hW hdp hbx'
          (with_reducible refine asked_value (w1 := w') (v := .bool true) ?_ ?_ ?_)
          · first | (simp only [Region.wanted]; done) | simp [Region.wanted, yielded, Act.put, go_sem]
          · simp [execOp, Act.eval, Act.put, go_sem]
          · exact ⟨rfl, rfl⟩
        case refine_45 =>
          intro D sp w' hD hW hdp hbx'
          (with_reducible refine asked_value (w1 := w') (v := .int .i64 1) ?_ ?_ ?_)
          · first | (simp only [Region.wanted]; done) | simp [Region.wanted, yielded, Act.put, go_sem]
          · simp [execOp, Act.eval, Act.put, go_sem]
          · exact ⟨rfl, rfl⟩
        case refine_46 =>
          intro D sp w' hD hW hdp hbx'
          (with_reducible refine asked_value (w1 := w') (v := .bool true) ?_ ?_ ?_)
          · first | (simp only [Region.wanted]; done) | simp [Region.wanted, yielded, Act.put, go_sem]
          · simp [execOp, Act.eval, Act.put, go_sem]
          · exact ⟨rfl, rfl⟩
        case refine_47 =>
          intro D sp w' hD hW hdp hbx'
          (with_reducible refine asked_value (w1 := w') (v := .bool true) ?_ ?_ ?_)
          · first | (simp only [Region.wanted]; done) | simp [Region.wanted, yielded, Act.put, go_sem]
          · simp [execOp, Act.eval, Act.put, go_sem]
          · exact ⟨rfl, rfl⟩
        case refine_48 =>
          intro D sp w' hD hW hdp hbx'
          (with_reducible refine asked_value (w1 := w') (v := .bool true) ?_ ?_ ?_)
          · first | (simp only [Region.wanted]; done) | simp [Region.wanted, yielded, Act.put, go_sem]
          · simp [execOp, Act.eval, Act.put, go_sem]
          · exact ⟨rfl, rfl⟩
      · intro sp w10 hsp hbx'
        have HBe : Hold _ := ⟨bstep HBz.out hbx'⟩
        clear hsp hbx' hK
        simp only [frameOf, Nat.reduceAdd]
        generalize sp 2 = y2 at *
        generalize sp 4 = y4 at *
        generalize sp 5 = y5 at *
        generalize sp 9 = y9 at *
        generalize sp 10 = y10 at *
        generalize sp 11 = y11 at *
        generalize sp 16 = y16 at *
        generalize sp 17 = y17 at *
        generalize sp 21 = y21 at *
        generalize sp 26 = y26 at *
        generalize sp 32 = y32 at *
        go_simp
        go_wp2
        go_ret
        exact ⟨rfl, HBe.out⟩
end

end Go.Proofs.YtcbhgfiafamflaaGreatDoor
