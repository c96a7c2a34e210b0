/- Whether a step holds, of the program. -/
import Derived.Test.YtdebccghjbfgdaaGreatDoorCpG
import Derived.Test.YtdebccghjbfgdaaGreatDoorCpD
import Derived.Test.YtdebccghjbfgdaaGreatDoorCpE
import Derived.Test.YtdebccghjbfgdaaGreatDoorCertK
namespace Go.Proofs.YtdebccghjbfgdaaGreatDoor
open Go Go.RowKit Go.Proofs.YtdebccghjbfgdaaGreatDoor.Flow
set_option maxRecDepth 100000

theorem holds_iff {N Bs : Nat} {ps bs : List Nat} (hN : 2 ≤ N) : HoldsP N Bs ps bs ↔ KnownAll bs ps ∧ ((∀ p ∈ ps, (N - 1) % p = 0) ∧ N - 1 + 1 < pwl (N - 1) ps * pwl (N - 1) ps) ∧ (Bs ^ (N - 1) % N = 1 ∧ ∀ p ∈ ps, Nat.gcd ((Bs ^ ((N - 1) / p) % N + N - 1) % N) N = 1) := by
  rw [show N - 1 + 1 = N by omega]
  constructor
  · intro h
    have hm : ∀ p ∈ ps, ∃ i, OneOk N Bs bs ps i p := fun p hp => by
      obtain ⟨i, hi⟩ := List.getElem?_of_mem hp
      exact ⟨i, h.each i p hi⟩
    refine ⟨⟨h.some, h.few, fun i p hp => ?_⟩, ⟨fun p hp => ?_, h.great⟩, h.one, fun p hp => ?_⟩
    · have := h.each i p hp
      refine ⟨?_, this.1⟩
      rcases this.2.1 with k | k
      · exact .inl k
      · exact .inr ⟨this.2.2.1, k⟩
    · obtain ⟨i, hi⟩ := hm p hp; exact hi.2.2.2.1
    · obtain ⟨i, hi⟩ := hm p hp; exact hi.2.2.2.2
  · rintro ⟨h1, h2, h3⟩
    refine ⟨hN, h1.1, h1.2.1, fun i p hp => ?_, h3.1, h2.2⟩
    have hk := h1.2.2 i p hp
    have hm := List.mem_of_getElem? hp
    refine ⟨hk.2, ?_, ?_, h2.1 p hm, h3.2 p hm⟩
    · rcases hk.1 with k | k
      · exact .inl k
      · exact .inr k.2
    · rcases hk.1 with k | k
      · exact k.1
      · exact k.1
theorem known_two {bs ps : List Nat} (h : KnownAll bs ps) : ∀ p ∈ ps, 2 ≤ p := fun p hp => by
  obtain ⟨i, hi⟩ := List.getElem?_of_mem hp
  rcases (h.2.2 i p hi).1 with k | k
  · exact k.1
  · exact k.1

open Classical in
set_option maxHeartbeats 4000000 in
set_option maxRecDepth 1000000 in
theorem holds_e (e : Nat) (he : e ≤ 100) : ∀ (w : World) (N B : Nat) (p0 : Option Addr) (n0 c0 : Nat) (p1 : Option Addr) (n1 c1 : Nat) (pp : Option Addr) (np cp : Nat) (ps : List Nat) (pb : Option Addr) (nb cb : Nat) (bs : List Nat),
    NatAt w p0 n0 c0 N → N < B32 e → NatAt w p1 n1 c1 B → B < B32 e → PList w e pp np cp ps → PList w e pb nb cb bs → np ≤ 1000 → nb ≤ 1000 →
    Calls Tryz.prog 188 #[.agg #[.slice p0 n0 c0, .slice p1 n1 c1, .slice pp np cp], .slice pb nb cb] w fun en w' => en = .returned (.bool (decide (HoldsP N B ps bs))) ∧ Below w.heap.size w w' := by
  intro w N Bs p0 n0 c0 p1 n1 c1 pp np cp ps pb nb cb bs hN hNl hB hBl hp hb hnp hnb
  have hbx : Below w.heap.size w (w.alloc (.cells #[.slice p0 n0 c0, .slice p1 n1 c1, .slice pp np cp] 145)) := (Below.refl _ _).alloc (Nat.le_refl _) _
  have HBX3 : Hold _ := ⟨Box3.made 145 w (.slice p0 n0 c0) (.slice p1 n1 c1) (.slice pp np cp)⟩
  obtain ⟨wa, hwa⟩ : ∃ wa, w.alloc (.cells #[.slice p0 n0 c0, .slice p1 n1 c1, .slice pp np cp] 145) = wa := ⟨_, rfl⟩
  rw [hwa] at hbx HBX3
  have HNF : Hold _ := ⟨(Fit.of hN hNl).below hbx⟩
  have HBF : Hold _ := ⟨(Fit.of hB hBl).below hbx⟩
  have HP : Hold _ := ⟨hp.below hbx⟩
  have HBe : Hold _ := ⟨hb.below hbx⟩
  have HLP : Hold _ := ⟨hp.len⟩
  have HX : Hold _ := ⟨hbx⟩
  obtain ⟨ANS, hANS⟩ : ∃ X, decide (HoldsP N Bs ps bs) = X := ⟨_, rfl⟩
  have HANS : Hold _ := ⟨hANS⟩
  rw [hANS]
  have hca := HBX3.out.cells.1
  clear hANS hN hNl hB hBl hp hb hbx
  go_enter Tryz.func188, Tryz.ntmps188
  go_wp2_with fail
  refine (rngnew_fit HNF.out (by omega)).mono ?_
  rintro en w1 ⟨hb1, ⟨hlow, rfl⟩ | ⟨hN2, r, rfl, hR, _⟩⟩
  · have HF : Hold (ANS = false) := ⟨by rw [← HANS.out]; exact decide_eq_false fun h => by have := h.two; omega⟩
    have HBe1 : Hold _ := ⟨bstep HX.out hb1⟩
    clear hb1 hca
    go_wp2
    go_ret
    exact ⟨by rw [HF.out]; rfl, HBe1.out⟩
  have HR : Hold _ := ⟨hR⟩
  have HB1 : Hold _ := ⟨hb1⟩
  have HX1 : Hold _ := ⟨HBX3.out.below hb1 HBX3.out.lt⟩
  clear hb1 hR hca
  go_wp2
  refine wp_region_dutiesS (by kernel_rfl) (by kernel_rfl)
    [some (.pointer (some ⟨w.heap.size, 0, none⟩)), some (.agg #[.slice p0 n0 c0]), none, none, none, none, some (.bool true), none, none, some (.bool true)]
    [false, false, true, true, true, true, false, true, true, false] rfl
    (fun w2 w3 => Keep w1.heap.size w2 w3)
    (fun D sp w' => Below w1.heap.size w1 w' ∧ (D 7 = true → BoxOf (sp 7) w1.heap.size (N - 1) (D 8) w'))
    (fun i v w' => match i with
      | 2 => Fit 1 1 v w'
      | 3 => SubVal (N - 1) v w'
      | 4 => SubVal (N - 1) v w'
      | 5 => AggVal (N - 1) v w'
      | _ => True)
    ?_ ⟨(Below.refl _ _).drew, (fun a => by cases a)⟩ ?_ ?_
  · intro i v w2 w3 hf hb
    split at hf
    · exact Fit.keep hf hb
    · exact SubVal.keep hf hb
    · exact SubVal.keep hf hb
    · exact AggVal.keep hf hb
    · trivial
  · simp only [DutiesS, Nat.reduceAdd]
    refine ⟨?_, ?_, ?_, ?_, ?_, ?_, ?_, ?_, ?_, ?_, trivial⟩
    case refine_2 =>
      intro D sp w' hD hW hdp hg
      have c0 := (HX1.out.below hg.1 HX1.out.lt).cells.1
      simp [asked, Region.wanted, Oper.gives, execOp, Act.eval, Act.put, go_sem, c0]
    case refine_3 =>
      intro D sp w' hD hW hdp hg
      (with_reducible refine asked_call (w1 := w') (f := 20) (args := #[.int .u64 1]) ?_ ?_ ?_)
      · simp only [Region.wanted]
      · simp [Act.eval, Act.put, go_sem]
      · refine (one_fit w').mono ?_
        rintro en w5 ⟨u, rfl, hu, hb⟩
        exact ⟨u, rfl, Keep.of hb hg.1.size, hu, bstep hg.1 hb, by simpa [upd] using fun a => (hg.2 a).later hb⟩
    case refine_4 =>
      intro D sp w' hD hW hdp hg
      have k2 : Fit 1 1 (sp 2) w' := (hdp 2 (List.mem_of_elem_eq_true (by kernel_rfl))).2
      (with_reducible refine asked_call (w1 := w') (f := 116) (args := #[.agg #[.slice p0 n0 c0], sp 2]) ?_ ?_ ?_)
      · simp only [Region.wanted]
      · simp [Act.eval, Act.put, go_sem]
      · refine (sub_exact ((HNF.out.below HB1.out).below hg.1) k2 (by omega) (by omega) (by omega)).mono ?_
        rintro en w5 ⟨u, rfl, hu, hb⟩
        exact ⟨u, rfl, Keep.of hb hg.1.size, hu, bstep hg.1 hb, by simpa [upd] using fun a => (hg.2 a).later hb⟩
    case refine_5 =>
      intro D sp w' hD hW hdp hg
      have k3 : SubVal (N - 1) (sp 3) w' := (hdp 3 (List.mem_of_elem_eq_true (by kernel_rfl))).2
      (with_reducible refine asked_value (w1 := w') (v := sp 3) ?_ ?_ ?_)
      · simp only [Region.wanted]
      · simp [execOp, Act.eval, Act.put, go_sem]
      · exact ⟨Keep.same _ _, k3, hg.1, by simpa [upd] using hg.2⟩
    case refine_6 =>
      intro D sp w' hD hW hdp hg
      have hx : ∃ p n c, sp 4 = .tuple #[.agg #[.slice p n c], .bool true] ∧ NatAt w' p n c (N - 1) := (hdp 4 (List.mem_of_elem_eq_true (by kernel_rfl))).2
      (with_reducible refine Exists.elim hx fun p hx1 => ?_)
      (with_reducible refine Exists.elim hx1 fun n hx2 => ?_)
      (with_reducible refine Exists.elim hx2 fun c hx3 => ?_)
      have h1 := hx3.1
      (with_reducible refine asked_value (w1 := w') (v := .agg #[.slice p n c]) ?_ ?_ ?_)
      · simp only [Region.wanted]
      · simp [execOp, Act.eval, Act.put, go_sem, h1]
      · exact ⟨Keep.same _ _, ⟨p, n, c, rfl, hx3.2⟩, hg.1, by simpa [upd] using hg.2⟩
    case refine_7 =>
      intro D sp w' hD hW hdp hg
      have hx : ∃ p n c, sp 4 = .tuple #[.agg #[.slice p n c], .bool true] ∧ NatAt w' p n c (N - 1) := (hdp 4 (List.mem_of_elem_eq_true (by kernel_rfl))).2
      (with_reducible refine Exists.elim hx fun p hx1 => ?_)
      (with_reducible refine Exists.elim hx1 fun n hx2 => ?_)
      (with_reducible refine Exists.elim hx2 fun c hx3 => ?_)
      have h1 := hx3.1
      simp [asked, Region.wanted, Oper.gives, execOp, Act.eval, Act.put, go_sem, h1]
    case refine_8 =>
      intro D sp w' hD hW hdp hg
      have h8 : D 8 = false := hW 8 (List.mem_of_elem_eq_true (by kernel_rfl))
      (with_reducible refine asked_value (w1 := w'.alloc (.cells #[.slice none 0 0] 36)) (v := .pointer (some ⟨w'.heap.size, 0, none⟩)) ?_ ?_ ?_)
      · simp only [Region.wanted]
      · simp [execOp, go_sem]
      · have hb : Below w'.heap.size w' (w'.alloc (.cells #[.slice none 0 0] 36)) := (Below.refl _ _).alloc (Nat.le_refl _) _
        refine ⟨Keep.of hb hg.1.size, trivial, bstep hg.1 hb, fun _ => ?_⟩
        have := BoxOf.made w' hg.1.size (N - 1)
        simpa [upd, h8] using this
    case refine_9 =>
      intro D sp w' hD hW hdp hg
      have hx : ∃ p n c, sp 5 = .agg #[.slice p n c] ∧ NatAt w' p n c (N - 1) := (hdp 5 (List.mem_of_elem_eq_true (by kernel_rfl))).2
      have hy : ∃ b, sp 7 = .pointer (some ⟨b, 0, none⟩) ∧ w1.heap.size ≤ b ∧ ∃ p n c, NatBox w' b (.slice p n c) ∧ (D 8 = true → NatAt w' p n c (N - 1)) := hg.2 (hdp 7 (List.mem_of_elem_eq_true (by kernel_rfl))).1
      (with_reducible refine Exists.elim hx fun p hx1 => ?_)
      (with_reducible refine Exists.elim hx1 fun n hx2 => ?_)
      (with_reducible refine Exists.elim hx2 fun c hx3 => ?_)
      (with_reducible refine Exists.elim hy fun bb hy1 => ?_)
      have hlo := hy1.2.1
      (with_reducible refine Exists.elim hy1.2.2 fun p2 hy2 => ?_)
      (with_reducible refine Exists.elim hy2 fun n2 hy3 => ?_)
      (with_reducible refine Exists.elim hy3 fun c2 hy4 => ?_)
      have g1 := hx3.1
      have g2 := hy1.1
      have hbx0 := hy4.1
      have g3 := hbx0.cell
      have g4 := hbx0.free
      (with_reducible refine asked_skip (w1 := w'.setCell ⟨bb, 0, none⟩ (.slice p n c)) ?_ ?_ ?_)
      · simp only [Region.wanted]
      · simp [execOp, Act.eval, Act.put, go_sem, g1, g2, g3, g4]
      · exact ⟨Keep.store hbx0 hlo _, trivial, hg.1.setCell hlo _, fun _ => ⟨bb, by simpa [upd] using g2, hlo, p, n, c, hbx0.set _, fun _ => hx3.2.store hbx0 _⟩⟩
    all_goals
      intro D sp w' hD hW hdp hg
      simp [asked, Region.wanted, Oper.gives, execOp, Act.eval, Act.put, go_sem]
  · intro sp w2 hsp hg
    obtain ⟨b7, e7, lo7, p7, n7, c7, x7, v7⟩ := hg.2 rfl
    replace v7 := v7 rfl
    have HB2 : Hold _ := ⟨bstep HB1.out hg.1⟩
    have HX2 : Hold _ := ⟨HX1.out.below hg.1 HX1.out.lt⟩
    have HR2 : Hold _ := ⟨HR.out.below hg.1⟩
    have HX7 : Hold _ := ⟨x7⟩
    have HL7 : Hold _ := ⟨Fit.of v7 (Nat.lt_of_le_of_lt (Nat.sub_le N 1) HNF.out.lim)⟩
    clear hsp hg x7 v7
    simp only [frameOf, Nat.reduceAdd]
    rw [e7]
    clear e7
    generalize sp 2 = y2 at *
    generalize sp 3 = y3 at *
    generalize sp 4 = y4 at *
    generalize sp 5 = y5 at *
    generalize sp 8 = y8 at *
    go_simp
    have d2 := HX2.out.cells.2.2
    obtain ⟨S1, hS1⟩ : ∃ X, decide (KnownAll bs ps) = X := ⟨_, rfl⟩
    have HS1 : Hold _ := ⟨hS1⟩
    clear hS1
    go_wp2_with fail
    refine (areknown_calls (HP.out.below HB2.out) (HBe.out.below HB2.out) (by omega)).mono ?_
    rintro en w3 ⟨rfl, hb3⟩
    rw [HS1.out]
    have HX3 : Hold _ := ⟨HX2.out.below hb3 HX2.out.lt⟩
    have HB3 : Hold _ := ⟨bstep HB2.out hb3⟩
    have HR3 : Hold _ := ⟨HR2.out.below hb3⟩
    have HX73 : Hold _ := ⟨HX7.out.below hb3 HX7.out.lt⟩
    have HL73 : Hold _ := ⟨HL7.out.below hb3⟩
    clear hb3 d2
    cases S1 with
    | false =>
      have HF : Hold (ANS = false) := ⟨by rw [← HANS.out]; exact decide_eq_false fun h => (of_decide_eq_false HS1.out) ((holds_iff hN2).1 h).1⟩
      have HE : Hold _ := ⟨bstep HX.out HB3.out⟩
      go_wp2
      go_ret
      exact ⟨by rw [HF.out]; rfl, HE.out⟩
    | true =>
      have HK : Hold (KnownAll bs ps) := ⟨of_decide_eq_true HS1.out⟩
      obtain ⟨S2, hS2⟩ : ∃ X, decide ((∀ p ∈ ps, (N - 1) % p = 0) ∧ N - 1 + 1 < pwl (N - 1) ps * pwl (N - 1) ps) = X := ⟨_, rfl⟩
      have HS2 : Hold _ := ⟨hS2⟩
      clear hS2
      have d2 := HX3.out.cells.2.2
      have d7 := HX73.out.cell
      go_wp2_with fail
      refine (enough_calls HL73.out (HP.out.below HB3.out) he (by omega) (known_two HK.out) hnp).mono ?_
      rintro en w4 ⟨rfl, hb4⟩
      rw [HS2.out]
      have HX4 : Hold _ := ⟨HX3.out.below hb4 HX3.out.lt⟩
      have HB4 : Hold _ := ⟨bstep HB3.out hb4⟩
      have HR4 : Hold _ := ⟨HR3.out.below hb4⟩
      have HX74 : Hold _ := ⟨HX73.out.below hb4 HX73.out.lt⟩
      have HL74 : Hold _ := ⟨HL73.out.below hb4⟩
      clear hb4 d2 d7
      cases S2 with
      | false =>
        have HF : Hold (ANS = false) := ⟨by rw [← HANS.out]; exact decide_eq_false fun h => (of_decide_eq_false HS2.out) ((holds_iff hN2).1 h).2.1⟩
        have HE : Hold _ := ⟨bstep HX.out HB4.out⟩
        go_wp2
        go_ret
        exact ⟨by rw [HF.out]; rfl, HE.out⟩
      | true =>
        obtain ⟨S3, hS3⟩ : ∃ X, decide (Bs ^ (N - 1) % N = 1 ∧ ∀ p ∈ ps, Nat.gcd ((Bs ^ ((N - 1) / p) % N + N - 1) % N) N = 1) = X := ⟨_, rfl⟩
        have HS3 : Hold _ := ⟨hS3⟩
        have HF : Hold (ANS = S3) := ⟨by
          rw [← HANS.out, ← hS3]
          exact decide_eq_decide.2 ⟨fun h => ((holds_iff hN2).1 h).2.2, fun h => (holds_iff hN2).2 ⟨HK.out, of_decide_eq_true HS2.out, h⟩⟩⟩
        clear hS3
        have d1 := HX4.out.cells.2.1
        have d2 := HX4.out.cells.2.2
        have d7 := HX74.out.cell
        go_wp2_with fail
        refine (prove_calls HR4.out (HBF.out.below HB4.out) HL74.out (HP.out.below HB4.out) he (known_two HK.out)).mono ?_
        rintro en w5 ⟨rfl, hb5⟩
        rw [HS3.out]
        have HE : Hold _ := ⟨bstep HX.out (bstep HB4.out hb5)⟩
        clear hb5 d1 d2 d7
        go_wp2
        go_ret
        exact ⟨by rw [HF.out]; rfl, HE.out⟩

end Go.Proofs.YtdebccghjbfgdaaGreatDoor
