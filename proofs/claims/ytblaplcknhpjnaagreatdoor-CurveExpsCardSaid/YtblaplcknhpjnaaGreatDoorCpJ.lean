/- Chains, of the program. -/
import Derived.Test.YtblaplcknhpjnaaGreatDoorCpG
import Derived.Test.YtblaplcknhpjnaaGreatDoorCpD
import Derived.Test.YtblaplcknhpjnaaGreatDoorCpE
import Derived.Test.YtblaplcknhpjnaaGreatDoorCertK
import Derived.Test.YtblaplcknhpjnaaGreatDoorCpB
import Derived.Test.YtblaplcknhpjnaaGreatDoorCurP
/-! Whether a step holds, of the program. -/
namespace Go.Proofs.YtblaplcknhpjnaaGreatDoor
open Go Go.RowKit Go.Proofs.YtblaplcknhpjnaaGreatDoor.Flow
set_option maxRecDepth 100000

theorem holds_iff {N Bs : Nat} {ps bs : List Nat} (hN : 2 ≤ N) : HoldsP N Bs ps bs ↔ KnownAll bs ps ∧ ((∀ p ∈ ps, (N - 1) % p = 0) ∧ N - 1 + 1 < pwl (N - 1) ps * pwl (N - 1) ps) ∧ (Bs ^ (N - 1) % N = 1 ∧ ∀ p ∈ ps, Nat.gcd ((Bs ^ ((N - 1) / p) % N + N - 1) % N) N = 1) := by
  rw [show N - 1 + 1 = N by omega]
  constructor
  · intro h
    have hm : ∀ p ∈ ps, ∃ i, OneOk N Bs bs ps i p := fun p hp => by
      obtain ⟨i, hi⟩ := List.getElem?_of_mem hp
      exact ⟨i, h.each i p hi⟩
    refine ⟨⟨h.some, h.few, fun i p hp => ?_⟩, ⟨fun p hp => ?_, h.great⟩, h.one, fun p hp => ?_⟩
    · have := h.each i p hp
      refine ⟨?_, this.1⟩
      rcases this.2.1 with k | k
      · exact .inl k
      · exact .inr ⟨this.2.2.1, k⟩
    · obtain ⟨i, hi⟩ := hm p hp; exact hi.2.2.2.1
    · obtain ⟨i, hi⟩ := hm p hp; exact hi.2.2.2.2
  · rintro ⟨h1, h2, h3⟩
    refine ⟨hN, h1.1, h1.2.1, fun i p hp => ?_, h3.1, h2.2⟩
    have hk := h1.2.2 i p hp
    have hm := List.mem_of_getElem? hp
    refine ⟨hk.2, ?_, ?_, h2.1 p hm, h3.2 p hm⟩
    · rcases hk.1 with k | k
      · exact .inl k
      · exact .inr k.2
    · rcases hk.1 with k | k
      · exact k.1
      · exact k.1
theorem known_two {bs ps : List Nat} (h : KnownAll bs ps) : ∀ p ∈ ps, 2 ≤ p := fun p hp => by
  obtain ⟨i, hi⟩ := List.getElem?_of_mem hp
  rcases (h.2.2 i p hi).1 with k | k
  · exact k.1
  · exact k.1

open Classical in
set_option maxHeartbeats 4000000 in
set_option maxRecDepth 1000000 in
theorem holds_e (e : Nat) (he : e ≤ 100) : ∀ (w : World) (N B : Nat) (p0 : Option Addr) (n0 c0 : Nat) (p1 : Option Addr) (n1 c1 : Nat) (pp : Option Addr) (np cp : Nat) (ps : List Nat) (pb : Option Addr) (nb cb : Nat) (bs : List Nat),
    NatAt w p0 n0 c0 N → N < B32 e → NatAt w p1 n1 c1 B → B < B32 e → PList w e pp np cp ps → PList w e pb nb cb bs → np ≤ 1000 → nb ≤ 1000 →
    Calls Tryz.prog 138 #[.agg #[.slice p0 n0 c0, .slice p1 n1 c1, .slice pp np cp], .slice pb nb cb] w fun en w' => en = .returned (.bool (decide (HoldsP N B ps bs))) ∧ Below w.heap.size w w' := by
  intro w N Bs p0 n0 c0 p1 n1 c1 pp np cp ps pb nb cb bs hN hNl hB hBl hp hb hnp hnb
  have hbx : Below w.heap.size w (w.alloc (.cells #[.slice p0 n0 c0, .slice p1 n1 c1, .slice pp np cp] 114)) := (Below.refl _ _).alloc (Nat.le_refl _) _
  have HBX3 : Hold _ := ⟨Box3.made 114 w (.slice p0 n0 c0) (.slice p1 n1 c1) (.slice pp np cp)⟩
  obtain ⟨wa, hwa⟩ : ∃ wa, w.alloc (.cells #[.slice p0 n0 c0, .slice p1 n1 c1, .slice pp np cp] 114) = wa := ⟨_, rfl⟩
  rw [hwa] at hbx HBX3
  have HNF : Hold _ := ⟨(Fit.of hN hNl).below hbx⟩
  have HBF : Hold _ := ⟨(Fit.of hB hBl).below hbx⟩
  have HP : Hold _ := ⟨hp.below hbx⟩
  have HBe : Hold _ := ⟨hb.below hbx⟩
  have HLP : Hold _ := ⟨hp.len⟩
  have HX : Hold _ := ⟨hbx⟩
  obtain ⟨ANS, hANS⟩ : ∃ X, decide (HoldsP N Bs ps bs) = X := ⟨_, rfl⟩
  have HANS : Hold _ := ⟨hANS⟩
  rw [hANS]
  have hca := HBX3.out.cells.1
  clear hANS hN hNl hB hBl hp hb hbx
  go_enter Tryz.func138, Tryz.ntmps138
  go_wp2_with fail
  refine (rngnew_fit HNF.out (by omega)).mono ?_
  rintro en w1 ⟨hb1, ⟨hlow, rfl⟩ | ⟨hN2, r, rfl, hR, _⟩⟩
  · have HF : Hold (ANS = false) := ⟨by rw [← HANS.out]; exact decide_eq_false fun h => by have := h.two; omega⟩
    have HBe1 : Hold _ := ⟨bstep HX.out hb1⟩
    clear hb1 hca
    go_wp2
    go_ret
    exact ⟨by rw [HF.out]; rfl, HBe1.out⟩
  have HR : Hold _ := ⟨hR⟩
  have HB1 : Hold _ := ⟨hb1⟩
  have HX1 : Hold _ := ⟨HBX3.out.below hb1 HBX3.out.lt⟩
  clear hb1 hR hca
  go_wp2
  refine wp_region_dutiesS (by kernel_rfl) (by kernel_rfl)
    [some (.pointer (some ⟨w.heap.size, 0, none⟩)), some (.agg #[.slice p0 n0 c0]), none, none, none, none, some (.bool true), none, none, some (.bool true)]
    [false, false, true, true, true, true, false, true, true, false] rfl
    (fun w2 w3 => Keep w1.heap.size w2 w3)
    (fun D sp w' => Below w1.heap.size w1 w' ∧ (D 7 = true → BoxOf (sp 7) w1.heap.size (N - 1) (D 8) w'))
    (fun i v w' => match i with
      | 2 => Fit 1 1 v w'
      | 3 => SubVal (N - 1) v w'
      | 4 => SubVal (N - 1) v w'
      | 5 => AggVal (N - 1) v w'
      | _ => True)
    ?_ ⟨(Below.refl _ _).drew, (fun a => by cases a)⟩ ?_ ?_
  · intro i v w2 w3 hf hb
    split at hf
    · exact Fit.keep hf hb
    · exact SubVal.keep hf hb
    · exact SubVal.keep hf hb
    · exact AggVal.keep hf hb
    · trivial
  · simp only [DutiesS, Nat.reduceAdd]
    refine ⟨?_, ?_, ?_, ?_, ?_, ?_, ?_, ?_, ?_, ?_, trivial⟩
    case refine_2 =>
      intro D sp w' hD hW hdp hg
      have c0 := (HX1.out.below hg.1 HX1.out.lt).cells.1
      simp [asked, Region.wanted, Oper.gives, execOp, Act.eval, Act.put, go_sem, c0]
    case refine_3 =>
      intro D sp w' hD hW hdp hg
      (with_reducible refine asked_call (w1 := w') (f := 15) (args := #[.int .u64 1]) ?_ ?_ ?_)
      · simp only [Region.wanted]
      · simp [Act.eval, Act.put, go_sem]
      · refine (one_fit w').mono ?_
        rintro en w5 ⟨u, rfl, hu, hb⟩
        exact ⟨u, rfl, Keep.of hb hg.1.size, hu, bstep hg.1 hb, by simpa [upd] using fun a => (hg.2 a).later hb⟩
    case refine_4 =>
      intro D sp w' hD hW hdp hg
      have k2 : Fit 1 1 (sp 2) w' := (hdp 2 (List.mem_of_elem_eq_true (by kernel_rfl))).2
      (with_reducible refine asked_call (w1 := w') (f := 85) (args := #[.agg #[.slice p0 n0 c0], sp 2]) ?_ ?_ ?_)
      · simp only [Region.wanted]
      · simp [Act.eval, Act.put, go_sem]
      · refine (sub_exact ((HNF.out.below HB1.out).below hg.1) k2 (by omega) (by omega) (by omega)).mono ?_
        rintro en w5 ⟨u, rfl, hu, hb⟩
        exact ⟨u, rfl, Keep.of hb hg.1.size, hu, bstep hg.1 hb, by simpa [upd] using fun a => (hg.2 a).later hb⟩
    case refine_5 =>
      intro D sp w' hD hW hdp hg
      have k3 : SubVal (N - 1) (sp 3) w' := (hdp 3 (List.mem_of_elem_eq_true (by kernel_rfl))).2
      (with_reducible refine asked_value (w1 := w') (v := sp 3) ?_ ?_ ?_)
      · simp only [Region.wanted]
      · simp [execOp, Act.eval, Act.put, go_sem]
      · exact ⟨Keep.same _ _, k3, hg.1, by simpa [upd] using hg.2⟩
    case refine_6 =>
      intro D sp w' hD hW hdp hg
      have hx : ∃ p n c, sp 4 = .tuple #[.agg #[.slice p n c], .bool true] ∧ NatAt w' p n c (N - 1) := (hdp 4 (List.mem_of_elem_eq_true (by kernel_rfl))).2
      (with_reducible refine Exists.elim hx fun p hx1 => ?_)
      (with_reducible refine Exists.elim hx1 fun n hx2 => ?_)
      (with_reducible refine Exists.elim hx2 fun c hx3 => ?_)
      have h1 := hx3.1
      (with_reducible refine asked_value (w1 := w') (v := .agg #[.slice p n c]) ?_ ?_ ?_)
      · simp only [Region.wanted]
      · simp [execOp, Act.eval, Act.put, go_sem, h1]
      · exact ⟨Keep.same _ _, ⟨p, n, c, rfl, hx3.2⟩, hg.1, by simpa [upd] using hg.2⟩
    case refine_7 =>
      intro D sp w' hD hW hdp hg
      have hx : ∃ p n c, sp 4 = .tuple #[.agg #[.slice p n c], .bool true] ∧ NatAt w' p n c (N - 1) := (hdp 4 (List.mem_of_elem_eq_true (by kernel_rfl))).2
      (with_reducible refine Exists.elim hx fun p hx1 => ?_)
      (with_reducible refine Exists.elim hx1 fun n hx2 => ?_)
      (with_reducible refine Exists.elim hx2 fun c hx3 => ?_)
      have h1 := hx3.1
      simp [asked, Region.wanted, Oper.gives, execOp, Act.eval, Act.put, go_sem, h1]
    case refine_8 =>
      intro D sp w' hD hW hdp hg
      have h8 : D 8 = false := hW 8 (List.mem_of_elem_eq_true (by kernel_rfl))
      (with_reducible refine asked_value (w1 := w'.alloc (.cells #[.slice none 0 0] 36)) (v := .pointer (some ⟨w'.heap.size, 0, none⟩)) ?_ ?_ ?_)
      · simp only [Region.wanted]
      · simp [execOp, go_sem]
      · have hb : Below w'.heap.size w' (w'.alloc (.cells #[.slice none 0 0] 36)) := (Below.refl _ _).alloc (Nat.le_refl _) _
        refine ⟨Keep.of hb hg.1.size, trivial, bstep hg.1 hb, fun _ => ?_⟩
        have := BoxOf.made w' hg.1.size (N - 1)
        simpa [upd, h8] using this
    case refine_9 =>
      intro D sp w' hD hW hdp hg
      have hx : ∃ p n c, sp 5 = .agg #[.slice p n c] ∧ NatAt w' p n c (N - 1) := (hdp 5 (List.mem_of_elem_eq_true (by kernel_rfl))).2
      have hy : ∃ b, sp 7 = .pointer (some ⟨b, 0, none⟩) ∧ w1.heap.size ≤ b ∧ ∃ p n c, NatBox w' b (.slice p n c) ∧ (D 8 = true → NatAt w' p n c (N - 1)) := hg.2 (hdp 7 (List.mem_of_elem_eq_true (by kernel_rfl))).1
      (with_reducible refine Exists.elim hx fun p hx1 => ?_)
      (with_reducible refine Exists.elim hx1 fun n hx2 => ?_)
      (with_reducible refine Exists.elim hx2 fun c hx3 => ?_)
      (with_reducible refine Exists.elim hy fun bb hy1 => ?_)
      have hlo := hy1.2.1
      (with_reducible refine Exists.elim hy1.2.2 fun p2 hy2 => ?_)
      (with_reducible refine Exists.elim hy2 fun n2 hy3 => ?_)
      (with_reducible refine Exists.elim hy3 fun c2 hy4 => ?_)
      have g1 := hx3.1
      have g2 := hy1.1
      have hbx0 := hy4.1
      have g3 := hbx0.cell
      have g4 := hbx0.free
      (with_reducible refine asked_skip (w1 := w'.setCell ⟨bb, 0, none⟩ (.slice p n c)) ?_ ?_ ?_)
      · simp only [Region.wanted]
      · simp [execOp, Act.eval, Act.put, go_sem, g1, g2, g3, g4]
      · exact ⟨Keep.store hbx0 hlo _, trivial, hg.1.setCell hlo _, fun _ => ⟨bb, by simpa [upd] using g2, hlo, p, n, c, hbx0.set _, fun _ => hx3.2.store hbx0 _⟩⟩
    all_goals
      intro D sp w' hD hW hdp hg
      simp [asked, Region.wanted, Oper.gives, execOp, Act.eval, Act.put, go_sem]
  · intro sp w2 hsp hg
    obtain ⟨b7, e7, lo7, p7, n7, c7, x7, v7⟩ := hg.2 rfl
    replace v7 := v7 rfl
    have HB2 : Hold _ := ⟨bstep HB1.out hg.1⟩
    have HX2 : Hold _ := ⟨HX1.out.below hg.1 HX1.out.lt⟩
    have HR2 : Hold _ := ⟨HR.out.below hg.1⟩
    have HX7 : Hold _ := ⟨x7⟩
    have HL7 : Hold _ := ⟨Fit.of v7 (Nat.lt_of_le_of_lt (Nat.sub_le N 1) HNF.out.lim)⟩
    clear hsp hg x7 v7
    simp only [frameOf, Nat.reduceAdd]
    rw [e7]
    clear e7
    generalize sp 2 = y2 at *
    generalize sp 3 = y3 at *
    generalize sp 4 = y4 at *
    generalize sp 5 = y5 at *
    generalize sp 8 = y8 at *
    go_simp
    have d2 := HX2.out.cells.2.2
    obtain ⟨S1, hS1⟩ : ∃ X, decide (KnownAll bs ps) = X := ⟨_, rfl⟩
    have HS1 : Hold _ := ⟨hS1⟩
    clear hS1
    go_wp2_with fail
    refine (areknown_calls (HP.out.below HB2.out) (HBe.out.below HB2.out) (by omega)).mono ?_
    rintro en w3 ⟨rfl, hb3⟩
    rw [HS1.out]
    have HX3 : Hold _ := ⟨HX2.out.below hb3 HX2.out.lt⟩
    have HB3 : Hold _ := ⟨bstep HB2.out hb3⟩
    have HR3 : Hold _ := ⟨HR2.out.below hb3⟩
    have HX73 : Hold _ := ⟨HX7.out.below hb3 HX7.out.lt⟩
    have HL73 : Hold _ := ⟨HL7.out.below hb3⟩
    clear hb3 d2
    cases S1 with
    | false =>
      have HF : Hold (ANS = false) := ⟨by rw [← HANS.out]; exact decide_eq_false fun h => (of_decide_eq_false HS1.out) ((holds_iff hN2).1 h).1⟩
      have HE : Hold _ := ⟨bstep HX.out HB3.out⟩
      go_wp2
      go_ret
      exact ⟨by rw [HF.out]; rfl, HE.out⟩
    | true =>
      have HK : Hold (KnownAll bs ps) := ⟨of_decide_eq_true HS1.out⟩
      obtain ⟨S2, hS2⟩ : ∃ X, decide ((∀ p ∈ ps, (N - 1) % p = 0) ∧ N - 1 + 1 < pwl (N - 1) ps * pwl (N - 1) ps) = X := ⟨_, rfl⟩
      have HS2 : Hold _ := ⟨hS2⟩
      clear hS2
      have d2 := HX3.out.cells.2.2
      have d7 := HX73.out.cell
      go_wp2_with fail
      refine (enough_calls HL73.out (HP.out.below HB3.out) he (by omega) (known_two HK.out) hnp).mono ?_
      rintro en w4 ⟨rfl, hb4⟩
      rw [HS2.out]
      have HX4 : Hold _ := ⟨HX3.out.below hb4 HX3.out.lt⟩
      have HB4 : Hold _ := ⟨bstep HB3.out hb4⟩
      have HR4 : Hold _ := ⟨HR3.out.below hb4⟩
      have HX74 : Hold _ := ⟨HX73.out.below hb4 HX73.out.lt⟩
      have HL74 : Hold _ := ⟨HL73.out.below hb4⟩
      clear hb4 d2 d7
      cases S2 with
      | false =>
        have HF : Hold (ANS = false) := ⟨by rw [← HANS.out]; exact decide_eq_false fun h => (of_decide_eq_false HS2.out) ((holds_iff hN2).1 h).2.1⟩
        have HE : Hold _ := ⟨bstep HX.out HB4.out⟩
        go_wp2
        go_ret
        exact ⟨by rw [HF.out]; rfl, HE.out⟩
      | true =>
        obtain ⟨S3, hS3⟩ : ∃ X, decide (Bs ^ (N - 1) % N = 1 ∧ ∀ p ∈ ps, Nat.gcd ((Bs ^ ((N - 1) / p) % N + N - 1) % N) N = 1) = X := ⟨_, rfl⟩
        have HS3 : Hold _ := ⟨hS3⟩
        have HF : Hold (ANS = S3) := ⟨by
          rw [← HANS.out, ← hS3]
          exact decide_eq_decide.2 ⟨fun h => ((holds_iff hN2).1 h).2.2, fun h => (holds_iff hN2).2 ⟨HK.out, of_decide_eq_true HS2.out, h⟩⟩⟩
        clear hS3
        have d1 := HX4.out.cells.2.1
        have d2 := HX4.out.cells.2.2
        have d7 := HX74.out.cell
        go_wp2_with fail
        refine (prove_calls HR4.out (HBF.out.below HB4.out) HL74.out (HP.out.below HB4.out) he (known_two HK.out)).mono ?_
        rintro en w5 ⟨rfl, hb5⟩
        rw [HS3.out]
        have HE : Hold _ := ⟨bstep HX.out (bstep HB4.out hb5)⟩
        clear hb5 d1 d2 d7
        go_wp2
        go_ret
        exact ⟨by rw [HF.out]; rfl, HE.out⟩

end Go.Proofs.YtblaplcknhpjnaaGreatDoor

/-! Whether a step has too long a number, of the program; a function that is handed to the library, over steps. -/
namespace Go.Proofs.YtblaplcknhpjnaaGreatDoor
open Go Go.RowKit Go.Proofs.YtblaplcknhpjnaaGreatDoor.Flow
set_option maxRecDepth 100000

set_option maxHeartbeats 2000000 in
set_option maxRecDepth 100000 in
theorem long1_calls {w : World} {v : Value} {e N : Nat} (h : Fit e N v w) (he : e ≤ 900000) :
    Calls Tryz.prog 148 #[v] w fun en w' => en = .returned (.bool (decide (1024 < blen N))) ∧ Below w.heap.size w w' := by
  obtain ⟨p, n, c, rfl, h1, h2⟩ := h
  have hn : n < 1000000 := by have := h1.len_le h2; omega
  have hbx := Box1.mk1 w (.slice p n c) 36
  have H1 : Hold _ := ⟨h1.below hbx.bel⟩
  have HBX : Hold _ := ⟨hbx.bel⟩
  clear h1 h2 hbx
  go_enter Tryz.func148, Tryz.ntmps148
  go_wp2_with fail
  refine (bits_calls _ p n c N H1.out hn).mono ?_
  rintro en w1 ⟨rfl, hb1⟩
  have HB1 : Hold _ := ⟨bstep HBX.out hb1⟩
  clear hb1
  obtain ⟨L, hL⟩ : ∃ L, blen N = L := ⟨_, rfl⟩
  rw [hL]
  have HL : Hold _ := ⟨hL⟩
  clear hL
  by_cases hl : 1024 < L
  · have HD : Hold (decide (1024 < L) = true) := ⟨decide_eq_true hl⟩
    have hl' : (1024 : Int) < L := by omega
    clear hl
    go_wp2
    go_ret
    exact ⟨by rw [HL.out, HD.out]; rfl, HB1.out⟩
  · have HD : Hold (decide (1024 < L) = false) := ⟨decide_eq_false hl⟩
    have hl' : ¬ (1024 : Int) < L := by omega
    clear hl
    go_wp2
    go_ret
    exact ⟨by rw [HL.out, HD.out, ← (decide_eq_false (by have := of_decide_eq_false HD.out; omega) : decide ((1024 : Int) < (L : Nat)) = false)]; rfl, HB1.out⟩

theorem long_asks (w : World) (e : Nat) (Ns : List Nat) (he : e ≤ 900000) : Asks 148 #[] w e Ns (fun p => decide (1024 < blen p)) := by
  refine ⟨fun W M u _ _ hu => ?_⟩
  rw [Array.append_empty]
  exact long1_calls hu he

/-- A step, as a value. -/
structure StepVal (e : Nat) (s : StepN) (v : Value) (w : World) : Prop where
  ex : ∃ q0 m0 d0 q1 m1 d1 q2 m2 d2, v = .agg #[.slice q0 m0 d0, .slice q1 m1 d1, .slice q2 m2 d2] ∧ NatAt w q0 m0 d0 s.n ∧ s.n < B32 e ∧ NatAt w q1 m1 d1 s.base ∧ s.base < B32 e ∧ PList w e q2 m2 d2 s.ps
open Classical in
set_option maxHeartbeats 4000000 in
set_option maxRecDepth 100000 in
theorem long_calls {w : World} {v : Value} {e : Nat} {s : StepN} (h : StepVal e s v w) (he : e ≤ 900000) :
    Calls Tryz.prog 137 #[v] w fun en w' => en = .returned (.bool (decide (TooLong s))) ∧ Below w.heap.size w w' := by
  obtain ⟨q0, m0, d0, q1, m1, d1, q2, m2, d2, rfl, h0, l0, h1, l1, h2⟩ := h.ex
  have hbx : Below w.heap.size w (w.alloc (.cells #[.slice q0 m0 d0, .slice q1 m1 d1, .slice q2 m2 d2] 114)) := (Below.refl _ _).alloc (Nat.le_refl _) _
  have HBX3 : Hold _ := ⟨Box3.made 114 w (.slice q0 m0 d0) (.slice q1 m1 d1) (.slice q2 m2 d2)⟩
  obtain ⟨wa, hwa⟩ : ∃ wa, w.alloc (.cells #[.slice q0 m0 d0, .slice q1 m1 d1, .slice q2 m2 d2] 114) = wa := ⟨_, rfl⟩
  rw [hwa] at hbx HBX3
  have HNF : Hold _ := ⟨(Fit.of h0 l0).below hbx⟩
  have HBF : Hold _ := ⟨(Fit.of h1 l1).below hbx⟩
  have HP : Hold _ := ⟨h2.below hbx⟩
  have HX : Hold _ := ⟨hbx⟩
  obtain ⟨ANS, hANS⟩ : ∃ X, decide (TooLong s) = X := ⟨_, rfl⟩
  have HANS : Hold _ := ⟨hANS⟩
  rw [hANS]
  have hca := HBX3.out.cells.1
  clear hANS h h0 l0 h1 l1 h2 hbx
  obtain ⟨S0, hS0⟩ : ∃ X, decide (1024 < blen s.n) = X := ⟨_, rfl⟩
  have HS0 : Hold _ := ⟨hS0⟩
  clear hS0
  go_enter Tryz.func137, Tryz.ntmps137
  go_wp2_with fail
  refine (long1_calls HNF.out he).mono ?_
  rintro en w1 ⟨rfl, hb1⟩
  rw [HS0.out]
  have HX1 : Hold _ := ⟨HBX3.out.below hb1 HBX3.out.lt⟩
  have HB1 : Hold _ := ⟨hb1⟩
  clear hb1 hca
  cases S0 with
  | true =>
    have HF : Hold (ANS = true) := ⟨by rw [← HANS.out]; exact decide_eq_true (.inl (of_decide_eq_true HS0.out))⟩
    have HE : Hold _ := ⟨bstep HX.out HB1.out⟩
    go_wp2
    go_ret
    exact ⟨by rw [HF.out]; rfl, HE.out⟩
  | false =>
    obtain ⟨S1, hS1⟩ : ∃ X, decide (1024 < blen s.base) = X := ⟨_, rfl⟩
    have HS1 : Hold _ := ⟨hS1⟩
    have hca := HX1.out.cells.2.1
    clear hS1
    go_wp2_with fail
    refine (long1_calls (HBF.out.below HB1.out) he).mono ?_
    rintro en w2 ⟨rfl, hb2⟩
    rw [HS1.out]
    have HX2 : Hold _ := ⟨HX1.out.below hb2 HX1.out.lt⟩
    have HB2 : Hold _ := ⟨bstep HB1.out hb2⟩
    clear hb2 hca
    cases S1 with
    | true =>
      have HF : Hold (ANS = true) := ⟨by rw [← HANS.out]; exact decide_eq_true (.inr (.inl (of_decide_eq_true HS1.out)))⟩
      have HE : Hold _ := ⟨bstep HX.out HB2.out⟩
      go_wp2
      go_ret
      exact ⟨by rw [HF.out]; rfl, HE.out⟩
    | false =>
      obtain ⟨S2, hS2⟩ : ∃ X, s.ps.any (fun p => decide (1024 < blen p)) = X := ⟨_, rfl⟩
      have HS2 : Hold _ := ⟨hS2⟩
      have HF : Hold (ANS = S2) := ⟨by
        rw [← HANS.out, ← hS2]
        have n0 := of_decide_eq_false HS0.out
        have n1 := of_decide_eq_false HS1.out
        by_cases hx : ∃ p ∈ s.ps, 1024 < blen p
        · obtain ⟨p, hp, hl⟩ := hx
          rw [decide_eq_true (show TooLong s from .inr (.inr ⟨p, hp, hl⟩))]
          exact (List.any_eq_true.2 ⟨p, hp, decide_eq_true hl⟩).symm
        · have : ¬ TooLong s := fun ht => by
            rcases ht with ht | ht | ht
            · exact n0 ht
            · exact n1 ht
            · exact hx ht
          rw [decide_eq_false this]
          refine Eq.symm ?_
          rw [List.any_eq_false]
          exact fun p hp hc => hx ⟨p, hp, of_decide_eq_true hc⟩⟩
      have hca := HX2.out.cells.2.2
      clear hS2
      go_wp2_with fail
      refine (nany_calls _ e q2 m2 d2 s.ps _ _ (enters_of Tryz.func148 (by kernel_rfl) rfl) (fun p => decide (1024 < blen p)) (HP.out.below HB2.out) (long_asks _ e s.ps he)).mono ?_
      rintro en w3 ⟨rfl, hb3⟩
      rw [HS2.out]
      have HE : Hold _ := ⟨bstep HX.out (bstep HB2.out hb3)⟩
      clear hb3 hca
      go_wp2
      go_ret
      exact ⟨by rw [HF.out]; rfl, HE.out⟩

/-- What is asked of a function over the steps of a row. -/
structure AsksS (g : Nat) (lb : Array Value) (w : World) (e : Nat) (l : List StepN) (p : StepN → Bool) : Prop where
  out : ∀ (W : World) (s : StepN) (v : Value), Below w.heap.size w W → s ∈ l → StepVal e s v W → Calls Tryz.prog g (#[v] ++ lb) W fun en w' => en = .returned (.bool (p s)) ∧ Below W.heap.size W w'

theorem anyS_hit {l : List StepN} {p : StepN → Bool} {k : Nat} {X : StepN} (h : l[k]? = some X) (hp : p X = true) : l.any p = true :=
  List.any_eq_true.2 ⟨X, List.mem_of_getElem? h, hp⟩
theorem anyS_miss {l : List StepN} {p : StepN → Bool} (h : ∀ (i : Nat) (X : StepN), l[i]? = some X → p X = false) : l.any p = false := by
  rw [List.any_eq_false]
  intro x hx
  obtain ⟨i, hi⟩ := List.getElem?_of_mem hx
  rw [h i x hi]; exact Bool.false_ne_true

set_option maxHeartbeats 2000000 in
set_option maxRecDepth 100000 in
theorem sfind_calls (w : World) (e : Nat) (p0 : Option Addr) (n c : Nat) (l : List StepN) (g : Nat) (lb : Array Value) (eg : ∀ args w, (callFunc g args).run Tryz.prog w = .ok (.enter g args) w) (p : StepN → Bool)
    (h : PSteps w e p0 n c l) (hp : AsksS g lb w e l p) :
    Calls Tryz.prog 136 #[.slice p0 n c, .func (.func g) #[] lb] w fun en w' => ∃ K : Int, en = .returned (.int .i64 K) ∧ decide (0 ≤ K) = l.any p ∧ Below w.heap.size w w' := by
  have HH : Hold _ := ⟨h⟩
  have hn := h.len
  have hmax : n ≤ 9223372036854775807 := Nat.le_trans h.cap h.max
  have HLN : Hold _ := ⟨hn⟩
  clear h hn
  go_enter Tryz.func136, Tryz.ntmps136
  go_wp2
  go_loopw [5, 8] (fun _ iv wr => ∃ k : Nat, k ≤ n ∧ iv = .int .i64 k ∧ Hold (∀ i X, i < k → l[i]? = some X → p X = false) ∧ Hold (Below w.heap.size w wr)) (fun _ iv _ => n - (intOf iv).toNat)
  case atStart => exact ⟨0, by omega, rfl, ⟨fun i X h => by omega⟩, ⟨Below.refl _ _⟩⟩
  case round =>
    obtain ⟨k, hk, rfl, HJ, HB⟩ := hrel
    by_cases hkn : k < n
    · obtain ⟨X, hXk⟩ : ∃ X, l[k]? = some X := ⟨l[k]'(by rw [← HLN.out]; exact hkn), List.getElem?_eq_getElem _⟩
      obtain ⟨b, off, rfl, hb, hc⟩ := (HH.out.below HB.out).at_ (by omega)
      obtain ⟨q0, m0, d0, q1, m1, d1, q2, m2, d2, x0, x1, x2, x3⟩ := hc k X hXk
      have HC : Hold _ := ⟨hp.out wr X _ HB.out (List.mem_of_getElem? hXk) ⟨q0, m0, d0, q1, m1, d1, q2, m2, d2, rfl, x3⟩⟩
      have HX : Hold _ := ⟨hXk⟩
      have hkn' : (k : Int) < n := by omega
      clear hc x3 hXk hp
      obtain ⟨P, hP⟩ : ∃ P, p X = P := ⟨_, rfl⟩
      rw [hP] at HC
      have HP : Hold _ := ⟨hP⟩
      clear hP
      cases P with
      | true =>
        go_wp2_with (go_at_fn g; refine HC.out.mono ?_; rintro en w1 ⟨rfl, hb1⟩)
        go_ret
        exact ⟨_, rfl, by rw [anyS_hit HX.out HP.out]; exact decide_eq_true (by omega), bstep HB.out hb1⟩
      | false =>
        have HJ' : Hold (∀ i Y, i < k + 1 → l[i]? = some Y → p Y = false) := ⟨fun i Y hi hY => by
          rcases (by omega : i < k ∨ i = k) with h | rfl
          · exact HJ.out i Y h hY
          · have := HX.out
            rw [hY] at this
            cases this
            exact HP.out⟩
        go_wp2_with (go_at_fn g; refine HC.out.mono ?_; rintro en w1 ⟨rfl, hb1⟩)
        go_roundw
        case rel => exact ⟨k + 1, by omega, by go_num, HJ', ⟨bstep HB.out hb1⟩⟩
        case measure => simp [intOf]; omega
    · obtain rfl : k = n := by omega
      have hkn' : ¬ (k : Int) < k := by omega
      go_wp2
      go_ret
      refine ⟨_, rfl, ?_, HB.out⟩
      rw [anyS_miss fun i X hX => HJ.out i X (by rw [HLN.out]; exact (List.getElem?_eq_some_iff.1 hX).1) hX]
      rfl

set_option maxHeartbeats 2000000 in
set_option maxRecDepth 100000 in
theorem sany_calls (w : World) (e : Nat) (p0 : Option Addr) (n c : Nat) (l : List StepN) (g : Nat) (lb : Array Value) (eg : ∀ args w, (callFunc g args).run Tryz.prog w = .ok (.enter g args) w) (p : StepN → Bool)
    (h : PSteps w e p0 n c l) (hp : AsksS g lb w e l p) :
    Calls Tryz.prog 114 #[.slice p0 n c, .func (.func g) #[] lb] w fun en w' => en = .returned (.bool (l.any p)) ∧ Below w.heap.size w w' := by
  go_enter Tryz.func114, Tryz.ntmps114
  go_wp2_with fail
  refine (sfind_calls w e p0 n c l g lb eg p h hp).mono ?_
  rintro en w1 ⟨K, rfl, hK, hb⟩
  have HB : Hold _ := ⟨hb⟩
  have HK : Hold _ := ⟨hK⟩
  clear hK hb
  go_wp2
  go_ret
  exact ⟨by rw [← HK.out]; rfl, HB.out⟩

end Go.Proofs.YtblaplcknhpjnaaGreatDoor

namespace Go.Proofs.YtblaplcknhpjnaaGreatDoor
open Go Go.RowKit Go.Proofs.YtblaplcknhpjnaaGreatDoor.Flow
set_option maxRecDepth 100000

theorem PList.tight {w : World} {e f : Nat} {p : Option Addr} {n c : Nat} {Ns : List Nat} (h : PList w e p n c Ns) (hl : ∀ N ∈ Ns, N < B32 f) : PList w f p n c Ns := by
  refine ⟨h.len, h.cap, h.max, h.nil, fun h0 => ?_⟩
  obtain ⟨b, off, h1, h2, h3⟩ := h.at_ h0
  exact ⟨b, off, h1, h2, fun i N hN => let ⟨q, m, d, k1, k2, _⟩ := h3 i N hN; ⟨q, m, d, k1, k2, hl N (List.mem_of_getElem? hN)⟩⟩
theorem PList.wide {w : World} {e f : Nat} {p : Option Addr} {n c : Nat} {Ns : List Nat} (h : PList w e p n c Ns) (hf : e ≤ f) : PList w f p n c Ns := by
  refine ⟨h.len, h.cap, h.max, h.nil, fun h0 => ?_⟩
  obtain ⟨b, off, h1, h2, h3⟩ := h.at_ h0
  exact ⟨b, off, h1, h2, fun i N hN => let ⟨q, m, d, k1, k2, k3⟩ := h3 i N hN; ⟨q, m, d, k1, k2, Nat.lt_of_lt_of_le k3 (B32_mono hf)⟩⟩
theorem PSteps.wide {w : World} {e f : Nat} {p : Option Addr} {n c : Nat} {l : List StepN} (h : PSteps w e p n c l) (hf : e ≤ f) : PSteps w f p n c l := by
  refine ⟨h.len, h.cap, h.max, h.nil, fun h0 => ?_⟩
  obtain ⟨b, off, h1, h2, h3⟩ := h.at_ h0
  refine ⟨b, off, h1, h2, fun i s hs => ?_⟩
  obtain ⟨q0, m0, d0, q1, m1, d1, q2, m2, d2, k0, k1, k2, k3, k4, k5, k6, k7⟩ := h3 i s hs
  exact ⟨q0, m0, d0, q1, m1, d1, q2, m2, d2, k0, k1, k2, k3, Nat.lt_of_lt_of_le k4 (B32_mono hf), k5, Nat.lt_of_lt_of_le k6 (B32_mono hf), k7.wide hf⟩

theorem long_asksS (w : World) (e : Nat) (l : List StepN) (he : e ≤ 900000) : AsksS 137 #[] w e l (fun s => @decide (TooLong s) (Classical.propDecidable _)) := by
  refine ⟨fun W M u _ _ hu => ?_⟩
  rw [Array.append_empty]
  exact long_calls hu he

/-- make([]nat.Nat, 0, n) -/
theorem make_nats (n : Nat) (h : n ≤ 1000000) (w : World) : (Instr.makeSlice 32 (.int .i64 0) (.int .i64 (n : Nat))).run Tryz.prog w =
    .ok (.slice (some ⟨w.heap.size, 0, none⟩) 0 n) (w.alloc (.cells (madeCells #[.slice none 0 0] n) 36)) := by
  obtain ⟨i, hi, hz, hs, hb⟩ := info_parts Tryz.info_Nat
  have := run_make (P := Tryz.prog) w 32 36 i (.agg #[.slice none 0 0]) Tryz.underlying32 hi hz .i64 .i64 0 n (by omega) (by omega) (by rw [hb]; omega) (by omega)
  simp only [Int.toNat_natCast, hs, Nat.mul_one] at this
  rw [this]
  rfl
theorem OwnV.made (w : World) (B n : Nat) (hn : n ≤ 1000000) (hB : B ≤ w.heap.size) (bad : Nat → Prop) : OwnV NatAt 36 B bad (w.alloc (.cells (madeCells #[.slice Option.none 0 0] n) 36)) (.slice (some ⟨w.heap.size, 0, Option.none⟩) 0 n) [] :=
  ⟨[], World.ownsRow_made w _ n hB (by simp only [maxLen]; omega) (by rw [size_madeCells, Nat.mul_one]), rfl, fun i N h => by simp at h⟩

theorem chain_take {l : List StepN} {k : Nat} {s : StepN} (h : l[k]? = some s) : ChainP [] (l.take (k + 1)) ↔ ChainP [] (l.take k) ∧ HoldsP s.n s.base s.ps ((l.take k).map (·.n)) := by
  rw [snoc_take h, chain_snoc, List.nil_append]
theorem chain_pre {l : List StepN} (k : Nat) (h : ChainP [] l) : ChainP [] (l.take k) := by
  rw [← List.take_append_drop k l] at h
  exact ((chain_append _ _ _).1 h).1

open Classical in
set_option maxHeartbeats 4000000 in
set_option maxRecDepth 100000 in
theorem check_e (f : Nat) (hf : f ≤ 100) : ∀ (w : World) (p : Option Addr) (n c : Nat) (l : List StepN), PSteps w 200 p n c l → n ≤ 60 → (∀ s ∈ l, s.ps.length ≤ 1000) → (∀ s ∈ l, ¬ TooLong s → s.n < B32 f ∧ s.base < B32 f ∧ ∀ q ∈ s.ps, q < B32 f) →
    Calls Tryz.prog 115 #[.slice p n c] w fun en w' => en = .returned (.int .i64 (if ∃ s ∈ l, TooLong s then 4 else if ChainP [] l then 0 else 8)) ∧ Below w.heap.size w w' := by
  intro w p n c l h hn hps hlim
  have HH : Hold _ := ⟨h⟩
  have HLN : Hold _ := ⟨h.len⟩
  have HPS : Hold _ := ⟨hps⟩
  have HLIM : Hold _ := ⟨hlim⟩
  obtain ⟨ANS, hANS⟩ : ∃ X : Int, (if ∃ s ∈ l, TooLong s then 4 else if ChainP [] l then 0 else 8) = X := ⟨_, rfl⟩
  have HANS : Hold _ := ⟨hANS⟩
  rw [hANS]
  clear h hps hlim hANS
  have hn64 : ¬ (64 : Int) < n := by omega
  obtain ⟨S0, hS0⟩ : ∃ X, l.any (fun s => decide (TooLong s)) = X := ⟨_, rfl⟩
  have HS0 : Hold _ := ⟨hS0⟩
  clear hS0
  go_enter Tryz.func115, Tryz.ntmps115
  go_wp2_with fail
  refine (sany_calls w 200 p n c l _ _ (enters_of Tryz.func137 (by kernel_rfl) rfl) (fun s => decide (TooLong s)) HH.out (long_asksS _ 200 l (by decide))).mono ?_
  rintro en w1 ⟨rfl, hb1⟩
  rw [HS0.out]
  have HB1 : Hold _ := ⟨hb1⟩
  clear hb1
  cases S0 with
  | true =>
    have HF : Hold (ANS = 4) := ⟨by
      rw [← HANS.out]
      obtain ⟨s, hs, ht⟩ := List.any_eq_true.1 HS0.out
      exact if_pos ⟨s, hs, of_decide_eq_true ht⟩⟩
    go_wp2
    go_ret
    exact ⟨by rw [HF.out]; rfl, HB1.out⟩
  | false =>
    have hnl : ∀ s ∈ l, ¬ TooLong s := fun s hs ht => by
      have := List.any_eq_false.1 HS0.out s hs
      exact this (decide_eq_true ht)
    have HNL : Hold _ := ⟨hnl⟩
    have HANS2 : Hold ((if ChainP [] l then 0 else 8 : Int) = ANS) := ⟨by
      rw [← HANS.out]
      exact (if_neg (fun h => by obtain ⟨s, hs, ht⟩ := h; exact hnl s hs ht)).symm⟩
    have HLT : Hold (∀ s ∈ l, s.n < B32 f ∧ s.base < B32 f ∧ ∀ q ∈ s.ps, q < B32 f) := ⟨fun s hs => HLIM.out s hs (hnl s hs)⟩
    clear hnl
    have hmk := fun wx => make_nats n (by omega) wx
    have HOV : Hold _ := ⟨OwnV.made w1 w.heap.size n (by omega) HB1.out.size (fun g => w.heap.size ≤ g)⟩
    have hbm : Below w1.heap.size w1 (w1.alloc (.cells (madeCells #[.slice none 0 0] n) 36)) := (Below.refl _ _).alloc (Nat.le_refl _) _
    have HBM : Hold _ := ⟨bstep HB1.out hbm⟩
    clear hbm
    go_wp2
    go_loopw [3, 5, 18] (fun vv _ iv wr => ∃ k : Nat, k ≤ n ∧ iv = .int .i64 k ∧ Hold (Below w.heap.size w wr) ∧ Hold (OwnV NatAt 36 w.heap.size (fun g => w.heap.size ≤ g) wr vv ((l.take k).map (·.n))) ∧ Hold (ChainP [] (l.take k))) (fun _ _ iv _ => n - (intOf iv).toNat)
    case atStart => exact ⟨0, by omega, rfl, HBM, HOV, ⟨trivial⟩⟩
    case round =>
      obtain ⟨k, hk, rfl, HB, HO, HC⟩ := hrel
      by_cases hkn : k < n
      · obtain ⟨S, hSk⟩ : ∃ s, l[k]? = some s := ⟨l[k]'(by rw [← HLN.out]; exact hkn), List.getElem?_eq_getElem _⟩
        have HSk : Hold _ := ⟨hSk⟩
        have HM : Hold _ := ⟨List.mem_of_getElem? hSk⟩
        obtain ⟨b, off, rfl, hb, hc⟩ := HH.out.at_ (by omega)
        obtain ⟨q0, m0, d0, q1, m1, d1, q2, m2, d2, y0, y1, y2, y3, y4, y5, y6, y7⟩ := hc k S hSk
        have HNA : Hold _ := ⟨y3⟩
        have HNB : Hold _ := ⟨y5⟩
        have HNP : Hold _ := ⟨y7.tight (HLT.out S HM.out).2.2⟩
        have hcl : ∀ o, wr.cell? ⟨b, o, none⟩ = w.cell? ⟨b, o, none⟩ := fun o => HB.out.cell (p := ⟨b, o, none⟩) hb
        have x0 : wr.cell? ⟨b, off + k * 3, none⟩ = some (.slice q0 m0 d0) := by rw [hcl]; exact y0
        have x1 : wr.cell? ⟨b, off + k * 3 + 1, none⟩ = some (.slice q1 m1 d1) := by rw [hcl]; exact y1
        have x2 : wr.cell? ⟨b, off + k * 3 + 2, none⟩ = some (.slice q2 m2 d2) := by rw [hcl]; exact y2
        have hkn' : (k : Int) < n := by omega
        have hbx : Below wr.heap.size wr (wr.alloc (.cells #[.slice q0 m0 d0, .slice q1 m1 d1, .slice q2 m2 d2] 114)) := (Below.refl _ _).alloc (Nat.le_refl _) _
        have HBX3 : Hold _ := ⟨Box3.made 114 wr (.slice q0 m0 d0) (.slice q1 m1 d1) (.slice q2 m2 d2)⟩
        obtain ⟨wa, hwa⟩ : ∃ wa, wr.alloc (.cells #[.slice q0 m0 d0, .slice q1 m1 d1, .slice q2 m2 d2] 114) = wa := ⟨_, rfl⟩
        rw [hwa] at hbx HBX3
        have HBa : Hold _ := ⟨bstep HB.out hbx⟩
        have HOa : Hold _ := ⟨HO.out.below hbx⟩
        have hmem : ∀ N ∈ (l.take k).map (·.n), N < B32 f := fun N hN => by
          obtain ⟨s, hs, rfl⟩ := List.mem_map.1 hN
          exact (HLT.out s (List.mem_of_mem_take hs)).1
        have HL60 : Hold (((l.take k).map (·.n)).length ≤ 1000) := ⟨by rw [List.length_map, List.length_take]; omega⟩
        obtain ⟨Ks, hKs⟩ : ∃ Ks, (l.take k).map (·.n) = Ks := ⟨_, rfl⟩
        have HKs : Hold _ := ⟨hKs⟩
        rw [hKs] at hmem HL60 HOa HO
        clear hKs
        obtain ⟨nk, hnk⟩ : ∃ nk, Ks.length = nk := ⟨_, rfl⟩
        obtain ⟨p1, c1, rfl, hp1⟩ := HOa.out.plist hmem
        have HNk : Hold _ := ⟨hnk⟩
        rw [hnk] at hp1 HL60 HOa HO
        rw [hnk]
        clear hnk
        have HP1 : Hold _ := ⟨hp1⟩
        have z0 := HBX3.out.cells.1
        have z1 := HBX3.out.cells.2.1
        have z2 := HBX3.out.cells.2.2
        clear hc hcl y0 y1 y2 y3 y4 y5 y6 y7 hbx hmem hp1 hSk
        obtain ⟨D, hD⟩ : ∃ X, decide (HoldsP S.n S.base S.ps Ks) = X := ⟨_, rfl⟩
        have HD : Hold _ := ⟨hD⟩
        clear hD
        go_wp2_with fail
        refine (holds_e f hf wa S.n S.base q0 m0 d0 q1 m1 d1 q2 m2 d2 S.ps _ _ _ _ (HNA.out.below HBa.out) (HLT.out S HM.out).1 (HNB.out.below HBa.out) (HLT.out S HM.out).2.1 (HNP.out.below HBa.out) HP1.out (by rw [HNP.out.len]; exact HPS.out S HM.out) HL60.out).mono ?_
        rintro en w3 ⟨rfl, hb3⟩
        rw [HD.out]
        have HB3 : Hold _ := ⟨bstep HBa.out hb3⟩
        have HO3 : Hold _ := ⟨HOa.out.below hb3⟩
        have HX3 : Hold _ := ⟨HBX3.out.below hb3 HBX3.out.lt⟩
        clear hb3 x0 x1 x2 z0 z1 z2
        cases D with
        | false =>
          have HF : Hold (ANS = 8) := ⟨by
            rw [← HANS2.out, if_neg]
            intro hh
            exact of_decide_eq_false HD.out (by rw [← HKs.out]; exact ((chain_take HSk.out).1 (chain_pre (k + 1) hh)).2)⟩
          go_wp2
          go_ret
          exact ⟨by rw [HF.out]; rfl, HB3.out⟩
        | true =>
          have HC' : Hold (ChainP [] (l.take (k + 1))) := ⟨(chain_take HSk.out).2 ⟨HC.out, by rw [HKs.out]; exact of_decide_eq_true HD.out⟩⟩
          have HTk : Hold ((l.take (k + 1)).map (·.n) = Ks ++ [S.n]) := ⟨by rw [snoc_take HSk.out, List.map_append, HKs.out]; rfl⟩
          have hb4 : Below w3.heap.size w3 (w3.alloc (.cells #[.slice q0 m0 d0] 36)) := (Below.refl _ _).alloc (Nat.le_refl _) _
          have hx4 : (w3.alloc (.cells #[.slice q0 m0 d0] 36)).cell? ⟨w3.heap.size, 0, none⟩ = some (.slice q0 m0 d0) := (NatBox.made w3 (.slice q0 m0 d0)).cell
          obtain ⟨w4, hw4⟩ : ∃ w4, w3.alloc (.cells #[.slice q0 m0 d0] 36) = w4 := ⟨_, rfl⟩
          rw [hw4] at hb4 hx4
          have hB4 := bstep HB3.out hb4
          have hfirm : Firm (fun w => NatAt w q0 m0 d0 S.n) (fun g => w.heap.size ≤ g) w4 := natStands.firm (HNA.out.below hB4) fun q hq hle => by
            have := natStands.lt HNA.out q hq
            omega
          obtain ⟨i1, hi1, hz1, hs1, hbb1⟩ := info_parts Tryz.info_Nat
          obtain ⟨v9, w9, happ, ho9, hg9, _⟩ := (HO3.out.below hb4).app Tryz.underlying32 hi1 hz1 hs1 hbb1 rfl (by decide) hB4.size (a := ⟨w3.heap.size, 0, none⟩) (c := 1) (x := (q0, m0, d0)) hx4 hfirm (fun g hg => (HO3.out.block g hg).1) (by rw [HNk.out]; exact Nat.le_trans HL60.out (by decide)) 32
          have HO9 : Hold _ := ⟨ho9⟩
          have HB9 : Hold (Below w.heap.size w w9) := ⟨hB4.grown hg9 hB4.size fun g hg => (HO3.out.block g hg).1⟩
          have z0 := HX3.out.cells.1
          clear hb4 hx4 hB4 hfirm hi1 hz1 hs1 hbb1 ho9 hg9
          go_wp2_with (at_builtin; refine Lib.wpList_append_run _ rfl _ _ _ _ rfl _ _ rfl rfl _ _ happ ?_; refine Paused.out ?_)
          refine ⟨?_⟩
          clear happ z0
          go_wp2
          go_roundw
          case rel => exact ⟨k + 1, by omega, by go_num, HB9, ⟨by rw [HTk.out]; exact HO9.out⟩, HC'⟩
          case measure => simp [intOf]; omega
      · obtain rfl : k = n := by omega
        have hkn' : ¬ (k : Int) < k := by omega
        have htk : l.take k = l := List.take_of_length_le (by rw [← HLN.out]; exact Nat.le_refl _)
        rw [htk] at HC
        have HF : Hold (ANS = 0) := ⟨by rw [← HANS2.out, if_pos HC.out]⟩
        clear htk
        go_wp2
        go_ret
        exact ⟨by rw [HF.out]; rfl, HB.out⟩

end Go.Proofs.YtblaplcknhpjnaaGreatDoor
