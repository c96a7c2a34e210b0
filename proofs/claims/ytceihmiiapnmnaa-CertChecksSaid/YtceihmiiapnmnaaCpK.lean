/- What is told to be a prime, by the program. -/
import Derived.Test.YtceihmiiapnmnaaCpJ
namespace Go.Proofs.Ytceihmiiapnmnaa
open Go Go.RowKit Go.Proofs.Ytceihmiiapnmnaa.Flow
set_option maxRecDepth 100000

theorem PList.lim {w : World} {e : Nat} {p : Option Addr} {n c : Nat} {Ns : List Nat} (h : PList w e p n c Ns) : ∀ N ∈ Ns, N < B32 e := fun N hN => by
  obtain ⟨i, hi⟩ := List.getElem?_of_mem hN
  obtain ⟨b, off, _, _, h3⟩ := h.at_ (by rw [h.len]; have := (List.getElem?_eq_some_iff.1 hi).1; omega)
  obtain ⟨_, _, _, _, _, h4⟩ := h3 i N hi
  exact h4
theorem PSteps.lim {w : World} {e : Nat} {p : Option Addr} {n c : Nat} {l : List StepN} (h : PSteps w e p n c l) : ∀ s ∈ l, s.n < B32 e ∧ s.base < B32 e ∧ ∀ q ∈ s.ps, q < B32 e := fun s hs => by
  obtain ⟨i, hi⟩ := List.getElem?_of_mem hs
  obtain ⟨b, off, _, _, h3⟩ := h.at_ (by rw [h.len]; have := (List.getElem?_eq_some_iff.1 hi).1; omega)
  obtain ⟨_, _, _, _, _, _, _, _, _, _, _, _, _, k4, _, k6, k7⟩ := h3 i s hi
  exact ⟨k4, k6, k7.lim⟩
theorem blen_B2 {N : Nat} (h : N < B32 2) : ¬ 1024 < blen N := by
  have : blen N ≤ 64 := (blen_le N 64).2 h
  omega

set_option maxHeartbeats 2000000 in
set_option maxRecDepth 100000 in
/-- The function that asks whether a step is of just the number that stands in a box. -/
theorem of1_asks (w : World) (e f : Nat) (l : List StepN) (b : Nat) (v : Value) (N : Nat) (hb : b < w.heap.size) (hc : w.cell? ⟨b, 0, none⟩ = some v) (hv : Fit f N (.agg #[v]) w) (he : e ≤ 900000) (hf : f ≤ 900000) :
    AsksS 26 #[.pointer (some ⟨b, 0, none⟩)] w e l (fun s => decide (s.n = N)) := by
  refine ⟨fun W s u hbw _ hu => ?_⟩
  have hc' : W.cell? ⟨b, 0, none⟩ = some v := (hbw.cell (p := ⟨b, 0, none⟩) hb).trans hc
  have hv' := hv.below hbw
  obtain ⟨q0, m0, d0, q1, m1, d1, q2, m2, d2, rfl, h0, l0, h1, l1, h2⟩ := hu.ex
  have hbW : b < W.heap.size := Nat.lt_of_lt_of_le hb hbw.size
  have hbx : Below W.heap.size W (W.alloc (.cells #[.slice q0 m0 d0, .slice q1 m1 d1, .slice q2 m2 d2] 52)) := (Below.refl _ _).alloc (Nat.le_refl _) _
  have HBX3 : Hold _ := ⟨Box3.made 52 W (.slice q0 m0 d0) (.slice q1 m1 d1) (.slice q2 m2 d2)⟩
  obtain ⟨wa, hwa⟩ : ∃ wa, W.alloc (.cells #[.slice q0 m0 d0, .slice q1 m1 d1, .slice q2 m2 d2] 52) = wa := ⟨_, rfl⟩
  rw [hwa] at hbx HBX3
  have hc2 : wa.cell? ⟨b, 0, none⟩ = some v := (hbx.cell (p := ⟨b, 0, none⟩) hbW).trans hc'
  have HA : Hold _ := ⟨(Fit.of h0 l0).below hbx⟩
  have HV : Hold _ := ⟨hv'.below hbx⟩
  have HX : Hold _ := ⟨hbx⟩
  have hca := HBX3.out.cells.1
  obtain ⟨pv, nv, cv, hev, _, _⟩ := hv
  cases hev
  obtain ⟨SN, hSN⟩ : ∃ x, s.n = x := ⟨_, rfl⟩
  rw [hSN] at HA
  have HSN : Hold _ := ⟨hSN⟩
  clear hSN hu h0 l0 h1 l1 h2 hbx hv' hc' hc
  go_enter Try.func26, Try.ntmps26
  go_wp2_with fail
  refine (cmp_fit HA.out HV.out he hf).mono ?_
  rintro en w1 ⟨_, rfl, rfl, hb1⟩
  have HB1 : Hold _ := ⟨bstep HX.out hb1⟩
  have e0 : ((cmpI SN N : Int) == 0) = decide (SN = N) := by
    by_cases hnm : SN = N
    · simp [hnm, cmpI_zero.2]
    · have : cmpI SN N ≠ 0 := fun h0 => hnm (cmpI_zero.1 h0)
      simp [hnm, this]
  have HE : Hold _ := ⟨e0⟩
  clear e0 hb1 hc2 hca
  generalize cmpI SN N = K at *
  go_wp2
  go_ret
  exact ⟨by rw [HSN.out, ← HE.out]; rfl, HB1.out⟩

open Classical in
set_option maxHeartbeats 4000000 in
set_option maxRecDepth 100000 in
theorem prime_does : PrimeDoes := by
  intro w N v p n c l hv h hn hps
  obtain ⟨pu, nu, cu, rfl, hu1, hu2⟩ := hv
  have hbx := Box1.mk1 w (.slice pu nu cu) 43
  obtain ⟨wa, hwa⟩ : ∃ wa, w.alloc (.cells #[.slice pu nu cu] 43) = wa := ⟨_, rfl⟩
  have hbox := NatBox.made w (.slice pu nu cu)
  rw [hwa] at hbx hbox
  have HBOX : Hold _ := ⟨hbox⟩
  have HX : Hold _ := ⟨hbx.bel⟩
  have HF : Hold _ := ⟨(Fit.of hu1 hu2).below hbx.bel⟩
  have HP : Hold _ := ⟨h.below hbx.bel⟩
  have HPS : Hold _ := ⟨hps⟩
  have HLIM : Hold _ := ⟨h.lim⟩
  obtain ⟨ANS, hANS⟩ : ∃ X, decide (SmallP N ∨ (ChainP [] l ∧ ∃ s ∈ l, s.n = N)) = X := ⟨_, rfl⟩
  have HANS : Hold _ := ⟨hANS⟩
  rw [hANS]
  have hca := hbox.cell
  clear hANS hps h hu1 hu2 hbx hbox
  obtain ⟨S, hS⟩ : ∃ X, decide (SmallP N) = X := ⟨_, rfl⟩
  have HS : Hold _ := ⟨hS⟩
  clear hS
  go_enter Try.func14, Try.ntmps14
  go_wp2_with fail
  refine (small_does wa N 2 _ HF.out (by decide)).mono ?_
  rintro en w1 ⟨rfl, hb1⟩
  rw [HS.out]
  have HB1 : Hold _ := ⟨hb1⟩
  have HBOX1 : Hold _ := ⟨HBOX.out.below hb1 HBOX.out.lt⟩
  clear hb1 hca
  cases S with
  | true =>
    have HA : Hold (ANS = true) := ⟨by rw [← HANS.out]; exact decide_eq_true (.inl (of_decide_eq_true HS.out))⟩
    have HE : Hold _ := ⟨bstep HX.out HB1.out⟩
    go_wp2
    go_ret
    exact ⟨by rw [HA.out]; rfl, HE.out⟩
  | false =>
    obtain ⟨C, hC⟩ : ∃ X, l.any (fun s => decide (s.n = N)) = X := ⟨_, rfl⟩
    have HC : Hold _ := ⟨hC⟩
    clear hC
    have HAS : Hold _ := ⟨of1_asks w1 2 2 l w.heap.size (.slice pu nu cu) N HBOX1.out.lt HBOX1.out.cell (HF.out.below HB1.out) (by decide) (by decide)⟩
    go_wp2_with fail
    refine (sany_calls w1 2 p n c l _ _ (enters_of Try.func26 (by kernel_rfl) rfl) _ (HP.out.below HB1.out) HAS.out).mono ?_
    rintro en w2 ⟨rfl, hb2⟩
    rw [HC.out]
    have HB2 : Hold _ := ⟨bstep HB1.out hb2⟩
    clear hb2
    cases C with
    | false =>
      have HA : Hold (ANS = false) := ⟨by
        rw [← HANS.out]
        refine decide_eq_false fun hh => ?_
        rcases hh with hh | ⟨_, s, hs, hsn⟩
        · exact of_decide_eq_false HS.out hh
        · exact List.any_eq_false.1 HC.out s hs (decide_eq_true hsn)⟩
      have HE : Hold _ := ⟨bstep HX.out HB2.out⟩
      go_wp2
      go_ret
      exact ⟨by rw [HA.out]; rfl, HE.out⟩
    | true =>
      have hnl : ∀ s ∈ l, ¬ TooLong s := fun s hs ht => by
        have := HLIM.out s hs
        rcases ht with ht | ht | ⟨q, hq, ht⟩
        · exact blen_B2 this.1 ht
        · exact blen_B2 this.2.1 ht
        · exact blen_B2 (this.2.2 q hq) ht
      have hne : ¬ ∃ s ∈ l, TooLong s := fun hh => by obtain ⟨s, hs, ht⟩ := hh; exact hnl s hs ht
      have hex : ∃ s ∈ l, s.n = N := by
        obtain ⟨s, hs, ht⟩ := List.any_eq_true.1 HC.out
        exact ⟨s, hs, of_decide_eq_true ht⟩
      have HNE : Hold _ := ⟨hne⟩
      have HEX : Hold _ := ⟨hex⟩
      clear hnl hne hex
      go_wp2_with fail
      refine (check_does w2 p n c l ((HP.out.below HB2.out).wide (by decide)) hn HPS.out (fun s hs _ => HLIM.out s hs)).mono ?_
      rintro en w3 ⟨rfl, hb3⟩
      rw [if_neg HNE.out]
      have HE : Hold _ := ⟨bstep HX.out (bstep HB2.out hb3)⟩
      clear hb3
      by_cases hch : ChainP [] l
      · rw [if_pos hch]
        have HA : Hold (ANS = true) := ⟨by rw [← HANS.out]; exact decide_eq_true (.inr ⟨hch, HEX.out⟩)⟩
        clear hch
        go_wp2
        go_ret
        exact ⟨by rw [HA.out]; rfl, HE.out⟩
      · rw [if_neg hch]
        have HA : Hold (ANS = false) := ⟨by
          rw [← HANS.out]
          refine decide_eq_false fun hh => ?_
          rcases hh with hh | hh
          · exact of_decide_eq_false HS.out hh
          · exact hch hh.1⟩
        clear hch
        go_wp2
        go_ret
        exact ⟨by rw [HA.out]; rfl, HE.out⟩

end Go.Proofs.Ytceihmiiapnmnaa
