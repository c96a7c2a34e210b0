/- What a proof says the base was taken as often as was drawn ((schnorr.Proof).Drawn). -/
import Derived.Test.YthgoeiegdhphjaaGreatDoorGqG
import Derived.BigRegion
import Derived.Deep.Slices
import Derived.ChangeSame
import Derived.ChangeSlices
import Derived.ChangeArms
import Derived.Test.YthgoeiegdhphjaaGreatDoorSgC
set_option maxRecDepth 1000000
set_option maxHeartbeats 16000000
set_option linter.unusedSimpArgs false
set_option linter.unusedVariables false
namespace Go.Proofs.YthgoeiegdhphjaaGreatDoor
open Go Go.RowKit Go.Proofs.YthgoeiegdhphjaaGreatDoor.Flow
theorem g_lims (i : Nat) (hi : i < 3) : gP i < B32 3 /\ gQ i < B32 3 /\ gG i < B32 3 := by
 have h := g_bounds i hi
 have h1 : gP i < B32 3 := Nat.lt_of_lt_of_le h.2.2.2.2.2 (by decide)
 have h2 := gTimes_eq i hi
 refine ⟨h1, ?_, by omega⟩
 rcases Nat.eq_zero_or_pos (gTimes i) with h0 | h0
 ·rw [h0, Nat.mul_zero] at h2; omega
 ·have := Nat.le_mul_of_pos_right (gQ i) h0
  omega
theorem gChain_len : ∀ i, i < 3 -> (gChain i).length <= 60
 | 0, _ => by decide
 | 1, _ => by decide
 | 2, _ => by decide
 | _ + 3, h => by omega
theorem idx_lt (A : Int) : ((IntKind.u64.wrap A) % 3).toNat < 3 := by
 have h1 := Int.emod_nonneg (IntKind.u64.wrap A) (show (3 : Int) ≠ 0 by decide)
 have h2 := Int.emod_lt_of_pos (IntKind.u64.wrap A) (show (0 : Int) < 3 by decide)
 omega
theorem gnew_law {w : World} {i : Nat} {x y z : Option Addr × Nat × Nat} {pc : Option Addr} {nc cc : Nat} (hi : i < 3) (hr : Tabs w) (hx : At3 w x (gP i)) (hy : At3 w y (gQ i)) (hz : At3 w z (gG i)) (hc : PSteps w 3 pc nc cc (gChain i)) :
  Calls Tryz.prog 65 #[.agg #[.slice x.1 x.2.1 x.2.2, .slice y.1 y.2.1 y.2.2, .slice z.1 z.2.1 z.2.2, .slice none 0 0], .slice pc nc cc] w fun e w' =>
   ∃ b, e = .returned (.tuple #[.pointer (some ⟨b, 0, none⟩), .int .i64 0]) /\ GroupAt w' b (gP i) (gQ i) (gG i) (gH i) /\ Below w.heap.size w w' := by
 obtain ⟨l1, l2, l3⟩ := g_lims i hi
 refine (gnew_fit (e := 3) (seed := []) hr hx l1 hy l2 hz l3 (part_nil w) hc (by rw [hc.len]; exact gChain_len i hi) (gChain_few i hi) (by decide)).mono ?_
 rintro en w' ⟨_, h0, _, hbl⟩
 rw [newSpec_g i hi] at h0
 obtain ⟨b, rfl, hg⟩ := h0 (by decide) rfl
 exact ⟨b, rfl, hg, hbl⟩
theorem group10_calls (w : World) (A : Int) (hr : Tabs w) :
  Calls Tryz.prog 15 #[.int .i64 A, .slice none 0 0] w fun e w' => ∃ b, e = .returned (.pointer (some ⟨b, 0, none⟩)) /\ GroupAt w' b (gP ((IntKind.u64.wrap A) % 3).toNat) (gQ ((IntKind.u64.wrap A) % 3).toNat) (gG ((IntKind.u64.wrap A) % 3).toNat) (gH ((IntKind.u64.wrap A) % 3).toNat) /\ Below w.heap.size w w' := by
 have HR := hol hr
 have hi := idx_lt A
 obtain ⟨i, ei⟩ : ∃ i, ((IntKind.u64.wrap A) % 3).toNat = i := ⟨_, rfl⟩
 have HN := hol (numbers_calls w A none 0 0)
 rw [ei] at hi HN ⊢
 have HI := hol hi
 clear hr hi ei
 go_enter Tryz.func15, Tryz.ntmps15
 go_wp2_with fail
 refine HN.out.mono ?_
 rintro en w1 ⟨x, y, z, pc, nc, cc, rfl, h1, h2, h3, h4, b1⟩
 have HH := hol (gnew_law HI.out (HR.out.below b1 HR.out.size) h1 h2 h3 h4)
 have B1 := hol b1
 clear h1 h2 h3 h4 b1 HN
 go_wp2_with fail
 refine HH.out.mono ?_
 rintro en w2 ⟨b, rfl, hg, b2⟩
 have HG := hol hg
 have B2 := hol (bstep B1.out b2)
 clear hg b2 HH B1
 go_wp2
 go_ret
 exact ⟨b, rfl, HG.out, B2.out⟩
def Row2 (N M : Nat) (v : Value) (w : World) : Prop := ∃ (g : Nat) (x y : Option Addr × Nat × Nat), v = .slice (some ⟨g, 0, none⟩) 2 2 /\ w.heap[g]? = some (.cells #[.slice x.1 x.2.1 x.2.2, .slice y.1 y.2.1 y.2.2] 36 (0, 0)) /\ At3 w x N /\ At3 w y M /\ N < B32 33 /\ M < B32 33
theorem Row2.kn {N M B : Nat} {v : Value} {w w' : World} (h : Row2 N M v w) (k : KN B w w') : Row2 N M v w' :=
 let ⟨g, x, y, h1, h2, h3, h4, h5, h6⟩ := h
 ⟨g, x, y, h1, k.blk _ _ h2 (fun _ _ _ => by simp), k.k.nat _ _ _ _ h3, k.k.nat _ _ _ _ h4, h5, h6⟩
theorem Row2.plist {N M g : Nat} {x y : Option Addr × Nat × Nat} {w : World} (h2 : w.heap[g]? = some (.cells #[.slice x.1 x.2.1 x.2.2, .slice y.1 y.2.1 y.2.2] 36 (0, 0))) (h3 : At3 w x N) (h4 : At3 w y M) (h5 : N < B32 33) (h6 : M < B32 33) : PList w 33 (some ⟨g, 0, none⟩) 2 2 [N, M] := by
 refine ⟨rfl, Nat.le_refl _, by decide, (fun e => by cases e), fun _ => ⟨g, 0, rfl, (Array.getElem?_eq_some_iff.1 h2).1, fun i K hK => ?_⟩⟩
 match i, hK with
 | 0, hK => cases hK; exact ⟨x.1, x.2.1, x.2.2, by simp [World.cell?, h2], h3, h5⟩
 | 1, hK => cases hK; exact ⟨y.1, y.2.1, y.2.2, by simp [World.cell?, h2], h4, h6⟩
theorem pair_prod {P G S Z C : Nat} : mprod P 1 ([G, Z].zip [S, C]) = (1 * (G ^ S % P) % P) * (Z ^ C % P) % P := rfl
theorem drawn_fit {w : World} {b P Q G H ea ey A Y CC SS : Nat} {va vy : Value} {x y : Option Addr × Nat × Nat} (hg : GroupAt w b P Q G H) (ha : Fit ea A va w) (hv : Fit ey Y vy w) (hea : ea <= 33) (hey : ey <= 33) (hC : At3 w x CC) (hS : At3 w y SS) (lC : CC < B32 33) (lS : SS < B32 33) :
  Calls Tryz.prog 103 #[.agg #[.slice x.1 x.2.1 x.2.2, .slice y.1 y.2.1 y.2.2], .pointer (some ⟨b, 0, none⟩), va, vy] w fun en w' => ∃ u, en = .returned u /\ Fit 33 (sigA P A Y CC SS) u w' /\ Below w.heap.size w w' := by
 obtain ⟨pa, na, ca, rfl, h1, h2⟩ := fit_cases (ha.wide hea)
 obtain ⟨py, ny, cy, rfl, h3, h4⟩ := fit_cases (hv.wide hey)
 have hs := SigBox.made w (.slice x.1 x.2.1 x.2.2) (.slice y.1 y.2.1 y.2.2)
 have hb0 : Below w.heap.size w (w.alloc (.cells #[.slice x.1 x.2.1 x.2.2, .slice y.1 y.2.1 y.2.2] 142)) := bal
 have hz0 : (w.alloc (.cells #[.slice x.1 x.2.1 x.2.2, .slice y.1 y.2.1 y.2.2] 142)).heap.size = w.heap.size + 1 := by simp
 have hbx := NB3.mk3 (w.alloc (.cells #[.slice x.1 x.2.1 x.2.2, .slice y.1 y.2.1 y.2.2] 142)) (.slice pa na ca) (.slice py ny cy) (.slice none 0 0)
 have q0 := hbx.b0
 have q1 := hbx.b1
 have q2 := hbx.b2
 have hbl := bstep hb0 hbx.bel
 have hs2 := hs.below hbx.bel hs.lt
 rw [hz0] at q0 q1 q2
 obtain ⟨wa, hwa⟩ : ∃ wa, ((((w.alloc (.cells #[.slice x.1 x.2.1 x.2.2, .slice y.1 y.2.1 y.2.2] 142)).alloc (.cells #[.slice pa na ca] 36)).alloc (.cells #[.slice py ny cy] 36)).alloc (.cells #[.slice none 0 0] 36)) = wa := ⟨_, rfl⟩
 rw [hwa] at q0 q1 q2 hbl hs2
 have HS9 := hol hs2
 have HXA := hol q0
 have HXY := hol q1
 have HZ0 := hol q2
 have HB3 := hol hbl
 have HA := hol ((Fit.of h1 h2).below hbl)
 have HAb := hol h2
 have HY := hol ((Fit.of h3 h4).below hbl)
 have HCN : Hold (At3 wa x CC) := ⟨hC.below hbl⟩
 have HSN : Hold (At3 wa y SS) := ⟨hS.below hbl⟩
 have HCL := hol lC
 have HSL := hol lS
 have HG := hol (hg.below hbl)
 have HL := hol hg.lims
 obtain ⟨ZZ, hZZ⟩ : ∃ Z, invQ P Y = Z := ⟨_, rfl⟩
 obtain ⟨AA, hAA⟩ : ∃ K, mprod P 1 ([A, ZZ].zip [SS, CC]) = K := ⟨_, rfl⟩
 have HZZ := hol hZZ
 have HAA := hol hAA
 have hAE : sigA P A Y CC SS = AA := by
  unfold sigA
  rw [hZZ, <- hAA, pair_prod, Nat.one_mul, Nat.mod_mod]
 have hAAl : AA < P := by rw [<- hAE]; exact Nat.mod_lt _ (by have := HL.out.1; omega)
 have HAAb : Hold (AA < B32 33) := ⟨Nat.lt_trans hAAl HL.out.2.1⟩
 rw [hAE]
 clear hAE hAAl hZZ hAA h1 h2 h3 h4 hs hb0 hz0 hbx q0 q1 q2 hbl hs2 hg ha hv hC hS
 go_enter Tryz.func103, Tryz.ntmps103
 go_wp2
 refine wp_region_dutiesS (by kernel_rfl) (by kernel_rfl)
  [some (.pointer (some ⟨b, 0, none⟩)), some (.agg #[.slice pa na ca]), some (.pointer (some ⟨b, 0, none⟩)), some (.agg #[.slice py ny cy]), none, none, some (.pointer (some ⟨w.heap.size, 1, none⟩)), some (.agg #[.slice y.1 y.2.1 y.2.2]), some (.pointer (some ⟨w.heap.size, 0, none⟩)), some (.agg #[.slice x.1 x.2.1 x.2.2]), none, none, none, none, some (.int .i64 0), none, none, some (.int .i64 0)]
  [false, false, false, false, true, true, false, false, false, false, true, true, true, true, false, true, true, false] rfl
  (fun wA wB => KN (wa.heap.size) wA wB)
  (fun D sp w' => RG (wa.heap.size) wa [] w' /\ MkB (D 15) (D 16) (sp 15) (wa.heap.size) (AA) w')
  (fun i v w' => match i with
   | 4 => Fit 33 (ZZ) v w'
   | 5 => Row2 A ZZ v w'
   | 10 => Row2 SS CC v w'
   | 11 => TupFit 33 AA (.int .i64 0) v w'
   | 12 => TupFit 33 AA (.int .i64 0) v w'
   | 13 => Fit (33) (AA) v w'
   | _ => True)
  ?_ ⟨RG.start (Nat.le_refl _) (fun x hx => by cases hx), MkB.start (Nat.le_refl _)⟩ ?_ ?_
 ·intro i v wA wB hf hb
  split at hf
  ·exact hf.kn hb
  ·exact hf.kn hb
  ·exact hf.kn hb
  ·exact hf.kn hb
  ·exact hf.kn hb
  ·exact hf.kn hb
  ·trivial
 ·simp only [DutiesS, Nat.reduceAdd]
  refine ⟨?_, ?_, ?_, ?_, ?_, ?_, ?_, ?_, ?_, ?_, ?_, ?_, ?_, ?_, ?_, ?_, ?_, ?_, trivial⟩
  all_goals intro D sp w' hD hW hdp hg
  case refine_2 =>
   have c0 := (HXA.out.below hg.1.keep.bel HXA.out.lt).cell
   with_reducible refine asked_pl ?_ ?_
   all_goals simp [Region.wanted, yielded, execOp, Act.eval, Act.put, go_sem, c0]
  case refine_4 =>
   have c0 := (HXY.out.below hg.1.keep.bel HXY.out.lt).cell
   with_reducible refine asked_pl ?_ ?_
   all_goals simp [Region.wanted, yielded, execOp, Act.eval, Act.put, go_sem, c0]
  case refine_5 =>
   (with_reducible refine asked_call (w1 := w') (f := 156) (args := #[.pointer (some ⟨b, 0, none⟩), .agg #[.slice py ny cy]]) ?_ ?_ ?_)
   ·simp [Region.wanted, yielded, Act.put, go_sem]
   ·simp [Act.eval, Act.put, go_sem]
   ·refine (ginv_fit (HG.out.below hg.1.keep.bel) (HY.out.below hg.1.keep.bel) (by omega)).mono ?_
    rintro en w9 ⟨u, rfl, hu, hb⟩
    rw [HZZ.out] at hu
    exact ⟨u, rfl, KN.of hb hg.1.base, hu, hg.1.later hb, by simpa [upd] using hg.2.later hb⟩
  case refine_6 =>
   have hxb : ∃ p n c, sp 4 = .agg #[.slice p n c] /\ NatAt w' p n c (ZZ) /\ ZZ < B32 (33) := (hdp 4 (mq (by kernel_rfl))).2
   (with_reducible refine Exists.elim hxb fun pb hxb1 => Exists.elim hxb1 fun nb hxb2 => Exists.elim hxb2 fun cb hxb3 => ?_)
   have hb := hxb3.1
   (with_reducible refine asked_value (w1 := w'.alloc (.cells #[.slice pa na ca, .slice pb nb cb] 36)) (v := .slice (some ⟨w'.heap.size, 0, none⟩) 2 2) ?_ ?_ ?_)
   ·simp only [Region.wanted]
   ·simp [execOp, Act.eval, Act.put, go_sem, hb]
   ·have hbl : Below w'.heap.size w' (w'.alloc (.cells #[.slice pa na ca, .slice pb nb cb] 36)) := bal
    exact ⟨KN.of hbl hg.1.base, ⟨w'.heap.size, (pa, na, ca), (pb, nb, cb), rfl, heap_alloc_new w' _, fit_nat ((HA.out.below hg.1.keep.bel).below hbl), hxb3.2.1.below hbl, HAb.out, hxb3.2.2⟩, hg.1.later hbl, by simpa [upd] using hg.2.later hbl⟩
  case refine_8 =>
   have c0 := (HS9.out.below hg.1.keep.bel HS9.out.lt).cells.2
   with_reducible refine asked_pl ?_ ?_
   all_goals simp [Region.wanted, yielded, execOp, Act.eval, Act.put, go_sem, c0]
  case refine_10 =>
   have c0 := (HS9.out.below hg.1.keep.bel HS9.out.lt).cells.1
   with_reducible refine asked_pl ?_ ?_
   all_goals simp [Region.wanted, yielded, execOp, Act.eval, Act.put, go_sem, c0]
  case refine_11 =>
   (with_reducible refine asked_value (w1 := w'.alloc (.cells #[.slice y.1 y.2.1 y.2.2, .slice x.1 x.2.1 x.2.2] 36)) (v := .slice (some ⟨w'.heap.size, 0, none⟩) 2 2) ?_ ?_ ?_)
   ·simp only [Region.wanted]
   ·simp [execOp, Act.eval, Act.put, go_sem]
   ·have hbl : Below w'.heap.size w' (w'.alloc (.cells #[.slice y.1 y.2.1 y.2.2, .slice x.1 x.2.1 x.2.2] 36)) := bal
    exact ⟨KN.of hbl hg.1.base, ⟨w'.heap.size, y, x, rfl, heap_alloc_new w' _, (HSN.out.below hg.1.keep.bel).below hbl, (HCN.out.below hg.1.keep.bel).below hbl, HSL.out, HCL.out⟩, hg.1.later hbl, by simpa [upd] using hg.2.later hbl⟩
  case refine_12 =>
   have hr : ∃ (g : Nat) (x y : Option Addr × Nat × Nat), sp 5 = .slice (some ⟨g, 0, none⟩) 2 2 /\ w'.heap[g]? = some (.cells #[.slice x.1 x.2.1 x.2.2, .slice y.1 y.2.1 y.2.2] 36 (0, 0)) /\ At3 w' x A /\ At3 w' y ZZ /\ A < B32 33 /\ ZZ < B32 33 := (hdp 5 (mq (by kernel_rfl))).2
   (with_reducible refine Exists.elim hr fun ga ha1 => Exists.elim ha1 fun ua ha2 => Exists.elim ha2 fun ta ha3 => ?_)
   have hr : ∃ (g : Nat) (x y : Option Addr × Nat × Nat), sp 10 = .slice (some ⟨g, 0, none⟩) 2 2 /\ w'.heap[g]? = some (.cells #[.slice x.1 x.2.1 x.2.2, .slice y.1 y.2.1 y.2.2] 36 (0, 0)) /\ At3 w' x SS /\ At3 w' y CC /\ SS < B32 33 /\ CC < B32 33 := (hdp 10 (mq (by kernel_rfl))).2
   (with_reducible refine Exists.elim hr fun gb hb1 => Exists.elim hb1 fun ub hb2 => Exists.elim hb2 fun tb hb3 => ?_)
   have ea := ha3.1
   have eb := hb3.1
   (with_reducible refine asked_call (w1 := w') (f := 155) (args := #[.pointer (some ⟨b, 0, none⟩), .slice (some ⟨ga, 0, none⟩) 2 2, .slice (some ⟨gb, 0, none⟩) 2 2]) ?_ ?_ ?_)
   ·simp only [Region.wanted]
   ·simp [Act.eval, Act.put, go_sem, ea, eb]
   ·refine (multi_fit (HG.out.below hg.1.keep.bel) (Row2.plist ha3.2.1 ha3.2.2.1 ha3.2.2.2.1 ha3.2.2.2.2.1 ha3.2.2.2.2.2) (Row2.plist hb3.2.1 hb3.2.2.1 hb3.2.2.2.1 hb3.2.2.2.2.1 hb3.2.2.2.2.2) (by decide) (by decide) (by decide) (by decide)).mono ?_
    rintro en w9 ⟨_, rfl, ⟨p9, n9, c9, rfl, u1, u2⟩, hb⟩
    rw [if_pos rfl, HAA.out] at u1 u2
    exact ⟨_, rfl, KN.of hb hg.1.base, ⟨p9, n9, c9, rfl, u1, u2⟩, hg.1.later hb, by simpa [upd] using hg.2.later hb⟩
  case refine_13 =>
   have k11 : TupFit 33 AA (.int .i64 0) (sp 11) w' := (hdp 11 (mq (by kernel_rfl))).2
   (with_reducible refine asked_value (w1 := w') (v := sp 11) ?_ ?_ ?_)
   ·simp [Region.wanted, yielded, Act.put, go_sem]
   ·simp [execOp, Act.eval, Act.put, go_sem]
   ·exact ⟨KN.same _ _, k11, hg.1, by simpa [upd] using hg.2⟩
  case refine_14 =>
   have hx : ∃ p n c, sp 12 = .tuple #[.agg #[.slice p n c], .int .i64 0] /\ NatAt w' p n c (AA) /\ AA < B32 (33) := (hdp 12 (mq (by kernel_rfl))).2
   (with_reducible refine Exists.elim hx fun p hx1 => Exists.elim hx1 fun n hx2 => Exists.elim hx2 fun c hx3 => ?_)
   have h1 := hx3.1
   (with_reducible refine asked_value (w1 := w') (v := .agg #[.slice p n c]) ?_ ?_ ?_)
   ·simp [Region.wanted, yielded, Act.put, go_sem]
   ·simp [execOp, Act.eval, Act.put, go_sem, h1]
   ·exact ⟨KN.same _ _, ⟨p, n, c, rfl, hx3.2⟩, hg.1, by simpa [upd] using hg.2⟩
  case refine_15 =>
   have hx : ∃ p n c, sp 12 = .tuple #[.agg #[.slice p n c], .int .i64 0] /\ NatAt w' p n c (AA) /\ AA < B32 (33) := (hdp 12 (mq (by kernel_rfl))).2
   (with_reducible refine Exists.elim hx fun p hx1 => Exists.elim hx1 fun n hx2 => Exists.elim hx2 fun c hx3 => ?_)
   have h1 := hx3.1
   with_reducible refine asked_pl ?_ ?_
   all_goals simp [Region.wanted, yielded, execOp, Act.eval, Act.put, go_sem, h1]
  case refine_16 =>
   have h9 : D 16 = false := hW 16 (mq (by kernel_rfl))
   rw [hD, h9] at hg
   (with_reducible refine asked_value (w1 := w'.alloc (.cells #[.slice none 0 0] 36)) (v := .pointer (some ⟨w'.heap.size, 0, none⟩)) ?_ ?_ ?_)
   ·simp [Region.wanted, yielded, Act.put, go_sem]
   ·simp [execOp, go_sem]
   ·have hb : Below w'.heap.size w' (w'.alloc (.cells #[.slice none 0 0] 36)) := bal
    refine ⟨KN.of hb hg.1.base, trivial, hg.1.later hb, ?_⟩
    have h8 := hg.2.made
    simpa [upd, h9] using h8
  case refine_17 =>
   have hx : ∃ p n c, sp 13 = .agg #[.slice p n c] /\ NatAt w' p n c (AA) /\ AA < B32 (33) := (hdp 13 (mq (by kernel_rfl))).2
   (with_reducible refine Exists.elim hx fun p hx1 => Exists.elim hx1 fun n hx2 => Exists.elim hx2 fun c hx3 => ?_)
   have h1 := hx3.1
   have h9 : D 15 = true := (hdp 15 (mq (by kernel_rfl))).1
   rw [h9] at hg
   have hp := hg.2.put (hx3.2.1)
   (with_reducible refine Exists.elim hp fun b hy0 => Exists.elim hy0 fun q hy1 => Exists.elim hy1 fun m hy2 => Exists.elim hy2 fun k hy3 => ?_)
   have h3 := hy3.1
   have h6 := hy3.2.2.1.cell
   have h7 := hy3.2.2.1.free
   (with_reducible refine asked_skip (w1 := w'.setCell ⟨b, 0, none⟩ (.slice p n c)) ?_ ?_ ?_)
   ·simp [Region.wanted, yielded, Act.put, go_sem]
   ·simp [execOp, Act.eval, Act.put, go_sem, h1, h3, h6, h7]
   ·refine ⟨KN.store hy3.2.2.1 (Nat.le_trans (Nat.le_refl _) hy3.2.1) _, trivial, hg.1.store_over hy3.2.2.1 (Nat.le_refl _) hy3.2.1 (fun x hx => by cases hx) _, ?_⟩
    have h8 := hy3.2.2.2
    simpa [upd, h9] using h8
  all_goals ((with_reducible refine asked_pl ?_ ?_); all_goals first | (simp only [Region.wanted]; done) | simp [Region.wanted, yielded, execOp, Act.eval, Act.put, go_sem])
 ·intro sp w4 hsp hg
  obtain ⟨hg1, _, hmk⟩ := hg
  obtain ⟨b11, e11, hb11, pz, nz, cz, hxz, hnz⟩ := hmk rfl
  replace hnz := hnz rfl
  have hbel := hg1.keep.bel
  have hz := HZ0.out.below hbel HZ0.out.lt
  have kx := hxz.cell
  have fz := hz.free
  have k8 := hz.cell
  have kz := (hz.set (.slice pz nz cz)).cell
  have HN := hol (Fit.of (hnz.store hz (.slice pz nz cz)) HAAb.out)
  have HBf : Hold (Below w.heap.size w (w4.setCell ⟨w.heap.size + 1 + 1 + 1, 0, none⟩ (.slice pz nz cz))) := ⟨(bstep HB3.out hbel).setCell (show w.heap.size <= w.heap.size + 1 + 1 + 1 by omega) _⟩
  clear hsp hg1 hmk hxz hnz hb11 hbel hz hwa
  simp only [frameOf, Nat.reduceAdd]
  rw [e11]
  clear e11
  generalize sp 4 = y4, sp 5 = y5, sp 10 = y10, sp 11 = y11, sp 12 = y12, sp 13 = y13, sp 16 = y16 at *
  go_simp
  go_wp2
  exact bodyPost_ret (v := .agg #[.slice pz nz cz]) (by simp [results, Tryz.results103, go_sem, kz]) rfl ⟨_, rfl, HN.out, HBf.out⟩
end Go.Proofs.YthgoeiegdhphjaaGreatDoor
