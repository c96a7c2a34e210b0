/- slices.Backward of numbers; a value, from the last coefficient down (curve.valueAt). -/
import Derived.Test.YtdebccghjbfgdaaGreatDoorCpH
import Derived.Test.YtdebccghjbfgdaaGreatDoorCpI
import Derived.Test.YtdebccghjbfgdaaGreatDoorCurP
import Derived.Test.YtdebccghjbfgdaaGreatDoorFit
import Derived.Test.YtdebccghjbfgdaaGreatDoorRing
import Derived.Test.YtdebccghjbfgdaaGreatDoorCpB
import Derived.Deep.LoopGhost
import Derived.Test.YtdebccghjbfgdaaGreatDoorGrpM
import Derived.Test.YtdebccghjbfgdaaGreatDoorMacE
import Derived.Test.YtdebccghjbfgdaaGreatDoorGcdA
/-! Chains, of the program. -/
namespace Go.Proofs.YtdebccghjbfgdaaGreatDoor
open Go Go.RowKit Go.Proofs.YtdebccghjbfgdaaGreatDoor.Flow
set_option maxRecDepth 100000

theorem PList.tight {w : World} {e f : Nat} {p : Option Addr} {n c : Nat} {Ns : List Nat} (h : PList w e p n c Ns) (hl : ∀ N ∈ Ns, N < B32 f) : PList w f p n c Ns := by
  refine ⟨h.len, h.cap, h.max, h.nil, fun h0 => ?_⟩
  obtain ⟨b, off, h1, h2, h3⟩ := h.at_ h0
  exact ⟨b, off, h1, h2, fun i N hN => let ⟨q, m, d, k1, k2, _⟩ := h3 i N hN; ⟨q, m, d, k1, k2, hl N (List.mem_of_getElem? hN)⟩⟩
theorem PList.wide {w : World} {e f : Nat} {p : Option Addr} {n c : Nat} {Ns : List Nat} (h : PList w e p n c Ns) (hf : e ≤ f) : PList w f p n c Ns := by
  refine ⟨h.len, h.cap, h.max, h.nil, fun h0 => ?_⟩
  obtain ⟨b, off, h1, h2, h3⟩ := h.at_ h0
  exact ⟨b, off, h1, h2, fun i N hN => let ⟨q, m, d, k1, k2, k3⟩ := h3 i N hN; ⟨q, m, d, k1, k2, Nat.lt_of_lt_of_le k3 (B32_mono hf)⟩⟩
theorem PSteps.wide {w : World} {e f : Nat} {p : Option Addr} {n c : Nat} {l : List StepN} (h : PSteps w e p n c l) (hf : e ≤ f) : PSteps w f p n c l := by
  refine ⟨h.len, h.cap, h.max, h.nil, fun h0 => ?_⟩
  obtain ⟨b, off, h1, h2, h3⟩ := h.at_ h0
  refine ⟨b, off, h1, h2, fun i s hs => ?_⟩
  obtain ⟨q0, m0, d0, q1, m1, d1, q2, m2, d2, k0, k1, k2, k3, k4, k5, k6, k7⟩ := h3 i s hs
  exact ⟨q0, m0, d0, q1, m1, d1, q2, m2, d2, k0, k1, k2, k3, Nat.lt_of_lt_of_le k4 (B32_mono hf), k5, Nat.lt_of_lt_of_le k6 (B32_mono hf), k7.wide hf⟩

theorem long_asksS (w : World) (e : Nat) (l : List StepN) (he : e ≤ 900000) : AsksS 187 #[] w e l (fun s => @decide (TooLong s) (Classical.propDecidable _)) := by
  refine ⟨fun W M u _ _ hu => ?_⟩
  rw [Array.append_empty]
  exact long_calls hu he

/-- make([]nat.Nat, 0, n) -/
theorem make_nats (n : Nat) (h : n ≤ 1000000) (w : World) : (Instr.makeSlice 32 (.int .i64 0) (.int .i64 (n : Nat))).run Tryz.prog w =
    .ok (.slice (some ⟨w.heap.size, 0, none⟩) 0 n) (w.alloc (.cells (madeCells #[.slice none 0 0] n) 36)) := by
  obtain ⟨i, hi, hz, hs, hb⟩ := info_parts Tryz.info_Nat
  have := run_make (P := Tryz.prog) w 32 36 i (.agg #[.slice none 0 0]) Tryz.underlying32 hi hz .i64 .i64 0 n (by omega) (by omega) (by rw [hb]; omega) (by omega)
  simp only [Int.toNat_natCast, hs, Nat.mul_one] at this
  rw [this]
  rfl
theorem OwnV.made (w : World) (B n : Nat) (hn : n ≤ 1000000) (hB : B ≤ w.heap.size) (bad : Nat → Prop) : OwnV NatAt 36 B bad (w.alloc (.cells (madeCells #[.slice Option.none 0 0] n) 36)) (.slice (some ⟨w.heap.size, 0, Option.none⟩) 0 n) [] :=
  ⟨[], World.ownsRow_made w _ n hB (by simp only [maxLen]; omega) (by rw [size_madeCells, Nat.mul_one]), rfl, fun i N h => by simp at h⟩

theorem chain_take {l : List StepN} {k : Nat} {s : StepN} (h : l[k]? = some s) : ChainP [] (l.take (k + 1)) ↔ ChainP [] (l.take k) ∧ HoldsP s.n s.base s.ps ((l.take k).map (·.n)) := by
  rw [snoc_take h, chain_snoc, List.nil_append]
theorem chain_pre {l : List StepN} (k : Nat) (h : ChainP [] l) : ChainP [] (l.take k) := by
  rw [← List.take_append_drop k l] at h
  exact ((chain_append _ _ _).1 h).1

open Classical in
set_option maxHeartbeats 4000000 in
set_option maxRecDepth 100000 in
theorem check_e (f : Nat) (hf : f ≤ 100) : ∀ (w : World) (p : Option Addr) (n c : Nat) (l : List StepN), PSteps w 200 p n c l → n ≤ 60 → (∀ s ∈ l, s.ps.length ≤ 1000) → (∀ s ∈ l, ¬ TooLong s → s.n < B32 f ∧ s.base < B32 f ∧ ∀ q ∈ s.ps, q < B32 f) →
    Calls Tryz.prog 159 #[.slice p n c] w fun en w' => en = .returned (.int .i64 (if ∃ s ∈ l, TooLong s then 4 else if ChainP [] l then 0 else 8)) ∧ Below w.heap.size w w' := by
  intro w p n c l h hn hps hlim
  have HH : Hold _ := ⟨h⟩
  have HLN : Hold _ := ⟨h.len⟩
  have HPS : Hold _ := ⟨hps⟩
  have HLIM : Hold _ := ⟨hlim⟩
  obtain ⟨ANS, hANS⟩ : ∃ X : Int, (if ∃ s ∈ l, TooLong s then 4 else if ChainP [] l then 0 else 8) = X := ⟨_, rfl⟩
  have HANS : Hold _ := ⟨hANS⟩
  rw [hANS]
  clear h hps hlim hANS
  have hn64 : ¬ (64 : Int) < n := by omega
  obtain ⟨S0, hS0⟩ : ∃ X, l.any (fun s => decide (TooLong s)) = X := ⟨_, rfl⟩
  have HS0 : Hold _ := ⟨hS0⟩
  clear hS0
  go_enter Tryz.func159, Tryz.ntmps159
  go_wp2_with fail
  refine (sany_calls w 200 p n c l _ _ (enters_of Tryz.func187 (by kernel_rfl) rfl) (fun s => decide (TooLong s)) HH.out (long_asksS _ 200 l (by decide))).mono ?_
  rintro en w1 ⟨rfl, hb1⟩
  rw [HS0.out]
  have HB1 : Hold _ := ⟨hb1⟩
  clear hb1
  cases S0 with
  | true =>
    have HF : Hold (ANS = 4) := ⟨by
      rw [← HANS.out]
      obtain ⟨s, hs, ht⟩ := List.any_eq_true.1 HS0.out
      exact if_pos ⟨s, hs, of_decide_eq_true ht⟩⟩
    go_wp2
    go_ret
    exact ⟨by rw [HF.out]; rfl, HB1.out⟩
  | false =>
    have hnl : ∀ s ∈ l, ¬ TooLong s := fun s hs ht => by
      have := List.any_eq_false.1 HS0.out s hs
      exact this (decide_eq_true ht)
    have HNL : Hold _ := ⟨hnl⟩
    have HANS2 : Hold ((if ChainP [] l then 0 else 8 : Int) = ANS) := ⟨by
      rw [← HANS.out]
      exact (if_neg (fun h => by obtain ⟨s, hs, ht⟩ := h; exact hnl s hs ht)).symm⟩
    have HLT : Hold (∀ s ∈ l, s.n < B32 f ∧ s.base < B32 f ∧ ∀ q ∈ s.ps, q < B32 f) := ⟨fun s hs => HLIM.out s hs (hnl s hs)⟩
    clear hnl
    have hmk := fun wx => make_nats n (by omega) wx
    have HOV : Hold _ := ⟨OwnV.made w1 w.heap.size n (by omega) HB1.out.size (fun g => w.heap.size ≤ g)⟩
    have hbm : Below w1.heap.size w1 (w1.alloc (.cells (madeCells #[.slice none 0 0] n) 36)) := (Below.refl _ _).alloc (Nat.le_refl _) _
    have HBM : Hold _ := ⟨bstep HB1.out hbm⟩
    clear hbm
    go_wp2
    go_loopw [3, 5, 18] (fun vv _ iv wr => ∃ k : Nat, k ≤ n ∧ iv = .int .i64 k ∧ Hold (Below w.heap.size w wr) ∧ Hold (OwnV NatAt 36 w.heap.size (fun g => w.heap.size ≤ g) wr vv ((l.take k).map (·.n))) ∧ Hold (ChainP [] (l.take k))) (fun _ _ iv _ => n - (intOf iv).toNat)
    case atStart => exact ⟨0, by omega, rfl, HBM, HOV, ⟨trivial⟩⟩
    case round =>
      obtain ⟨k, hk, rfl, HB, HO, HC⟩ := hrel
      by_cases hkn : k < n
      · obtain ⟨S, hSk⟩ : ∃ s, l[k]? = some s := ⟨l[k]'(by rw [← HLN.out]; exact hkn), List.getElem?_eq_getElem _⟩
        have HSk : Hold _ := ⟨hSk⟩
        have HM : Hold _ := ⟨List.mem_of_getElem? hSk⟩
        obtain ⟨b, off, rfl, hb, hc⟩ := HH.out.at_ (by omega)
        obtain ⟨q0, m0, d0, q1, m1, d1, q2, m2, d2, y0, y1, y2, y3, y4, y5, y6, y7⟩ := hc k S hSk
        have HNA : Hold _ := ⟨y3⟩
        have HNB : Hold _ := ⟨y5⟩
        have HNP : Hold _ := ⟨y7.tight (HLT.out S HM.out).2.2⟩
        have hcl : ∀ o, wr.cell? ⟨b, o, none⟩ = w.cell? ⟨b, o, none⟩ := fun o => HB.out.cell (p := ⟨b, o, none⟩) hb
        have x0 : wr.cell? ⟨b, off + k * 3, none⟩ = some (.slice q0 m0 d0) := by rw [hcl]; exact y0
        have x1 : wr.cell? ⟨b, off + k * 3 + 1, none⟩ = some (.slice q1 m1 d1) := by rw [hcl]; exact y1
        have x2 : wr.cell? ⟨b, off + k * 3 + 2, none⟩ = some (.slice q2 m2 d2) := by rw [hcl]; exact y2
        have hkn' : (k : Int) < n := by omega
        have hbx : Below wr.heap.size wr (wr.alloc (.cells #[.slice q0 m0 d0, .slice q1 m1 d1, .slice q2 m2 d2] 145)) := (Below.refl _ _).alloc (Nat.le_refl _) _
        have HBX3 : Hold _ := ⟨Box3.made 145 wr (.slice q0 m0 d0) (.slice q1 m1 d1) (.slice q2 m2 d2)⟩
        obtain ⟨wa, hwa⟩ : ∃ wa, wr.alloc (.cells #[.slice q0 m0 d0, .slice q1 m1 d1, .slice q2 m2 d2] 145) = wa := ⟨_, rfl⟩
        rw [hwa] at hbx HBX3
        have HBa : Hold _ := ⟨bstep HB.out hbx⟩
        have HOa : Hold _ := ⟨HO.out.below hbx⟩
        have hmem : ∀ N ∈ (l.take k).map (·.n), N < B32 f := fun N hN => by
          obtain ⟨s, hs, rfl⟩ := List.mem_map.1 hN
          exact (HLT.out s (List.mem_of_mem_take hs)).1
        have HL60 : Hold (((l.take k).map (·.n)).length ≤ 1000) := ⟨by rw [List.length_map, List.length_take]; omega⟩
        obtain ⟨Ks, hKs⟩ : ∃ Ks, (l.take k).map (·.n) = Ks := ⟨_, rfl⟩
        have HKs : Hold _ := ⟨hKs⟩
        rw [hKs] at hmem HL60 HOa HO
        clear hKs
        obtain ⟨nk, hnk⟩ : ∃ nk, Ks.length = nk := ⟨_, rfl⟩
        obtain ⟨p1, c1, rfl, hp1⟩ := HOa.out.plist hmem
        have HNk : Hold _ := ⟨hnk⟩
        rw [hnk] at hp1 HL60 HOa HO
        rw [hnk]
        clear hnk
        have HP1 : Hold _ := ⟨hp1⟩
        have z0 := HBX3.out.cells.1
        have z1 := HBX3.out.cells.2.1
        have z2 := HBX3.out.cells.2.2
        clear hc hcl y0 y1 y2 y3 y4 y5 y6 y7 hbx hmem hp1 hSk
        obtain ⟨D, hD⟩ : ∃ X, decide (HoldsP S.n S.base S.ps Ks) = X := ⟨_, rfl⟩
        have HD : Hold _ := ⟨hD⟩
        clear hD
        go_wp2_with fail
        refine (holds_e f hf wa S.n S.base q0 m0 d0 q1 m1 d1 q2 m2 d2 S.ps _ _ _ _ (HNA.out.below HBa.out) (HLT.out S HM.out).1 (HNB.out.below HBa.out) (HLT.out S HM.out).2.1 (HNP.out.below HBa.out) HP1.out (by rw [HNP.out.len]; exact HPS.out S HM.out) HL60.out).mono ?_
        rintro en w3 ⟨rfl, hb3⟩
        rw [HD.out]
        have HB3 : Hold _ := ⟨bstep HBa.out hb3⟩
        have HO3 : Hold _ := ⟨HOa.out.below hb3⟩
        have HX3 : Hold _ := ⟨HBX3.out.below hb3 HBX3.out.lt⟩
        clear hb3 x0 x1 x2 z0 z1 z2
        cases D with
        | false =>
          have HF : Hold (ANS = 8) := ⟨by
            rw [← HANS2.out, if_neg]
            intro hh
            exact of_decide_eq_false HD.out (by rw [← HKs.out]; exact ((chain_take HSk.out).1 (chain_pre (k + 1) hh)).2)⟩
          go_wp2
          go_ret
          exact ⟨by rw [HF.out]; rfl, HB3.out⟩
        | true =>
          have HC' : Hold (ChainP [] (l.take (k + 1))) := ⟨(chain_take HSk.out).2 ⟨HC.out, by rw [HKs.out]; exact of_decide_eq_true HD.out⟩⟩
          have HTk : Hold ((l.take (k + 1)).map (·.n) = Ks ++ [S.n]) := ⟨by rw [snoc_take HSk.out, List.map_append, HKs.out]; rfl⟩
          have hb4 : Below w3.heap.size w3 (w3.alloc (.cells #[.slice q0 m0 d0] 36)) := (Below.refl _ _).alloc (Nat.le_refl _) _
          have hx4 : (w3.alloc (.cells #[.slice q0 m0 d0] 36)).cell? ⟨w3.heap.size, 0, none⟩ = some (.slice q0 m0 d0) := (NatBox.made w3 (.slice q0 m0 d0)).cell
          obtain ⟨w4, hw4⟩ : ∃ w4, w3.alloc (.cells #[.slice q0 m0 d0] 36) = w4 := ⟨_, rfl⟩
          rw [hw4] at hb4 hx4
          have hB4 := bstep HB3.out hb4
          have hfirm : Firm (fun w => NatAt w q0 m0 d0 S.n) (fun g => w.heap.size ≤ g) w4 := natStands.firm (HNA.out.below hB4) fun q hq hle => by
            have := natStands.lt HNA.out q hq
            omega
          obtain ⟨i1, hi1, hz1, hs1, hbb1⟩ := info_parts Tryz.info_Nat
          obtain ⟨v9, w9, happ, ho9, hg9, _⟩ := (HO3.out.below hb4).app Tryz.underlying32 hi1 hz1 hs1 hbb1 rfl (by decide) hB4.size (a := ⟨w3.heap.size, 0, none⟩) (c := 1) (x := (q0, m0, d0)) hx4 hfirm (fun g hg => (HO3.out.block g hg).1) (by rw [HNk.out]; exact Nat.le_trans HL60.out (by decide)) 32
          have HO9 : Hold _ := ⟨ho9⟩
          have HB9 : Hold (Below w.heap.size w w9) := ⟨hB4.grown hg9 hB4.size fun g hg => (HO3.out.block g hg).1⟩
          have z0 := HX3.out.cells.1
          clear hb4 hx4 hB4 hfirm hi1 hz1 hs1 hbb1 ho9 hg9
          go_wp2_with (at_builtin; refine Lib.wpList_append_run _ rfl _ _ _ _ rfl _ _ rfl rfl _ _ happ ?_; refine Paused.out ?_)
          refine ⟨?_⟩
          clear happ z0
          go_wp2
          go_roundw
          case rel => exact ⟨k + 1, by omega, by go_num, HB9, ⟨by rw [HTk.out]; exact HO9.out⟩, HC'⟩
          case measure => simp [intOf]; omega
      · obtain rfl : k = n := by omega
        have hkn' : ¬ (k : Int) < k := by omega
        have htk : l.take k = l := List.take_of_length_le (by rw [← HLN.out]; exact Nat.le_refl _)
        rw [htk] at HC
        have HF : Hold (ANS = 0) := ⟨by rw [← HANS2.out, if_pos HC.out]⟩
        clear htk
        go_wp2
        go_ret
        exact ⟨by rw [HF.out]; rfl, HB.out⟩

end Go.Proofs.YtdebccghjbfgdaaGreatDoor

/-! What is told to be a prime, by the program. -/
namespace Go.Proofs.YtdebccghjbfgdaaGreatDoor
open Go Go.RowKit Go.Proofs.YtdebccghjbfgdaaGreatDoor.Flow
set_option maxRecDepth 100000

theorem PList.lim {w : World} {e : Nat} {p : Option Addr} {n c : Nat} {Ns : List Nat} (h : PList w e p n c Ns) : ∀ N ∈ Ns, N < B32 e := fun N hN => by
  obtain ⟨i, hi⟩ := List.getElem?_of_mem hN
  obtain ⟨b, off, _, _, h3⟩ := h.at_ (by rw [h.len]; have := (List.getElem?_eq_some_iff.1 hi).1; omega)
  obtain ⟨_, _, _, _, _, h4⟩ := h3 i N hi
  exact h4
theorem PSteps.lim {w : World} {e : Nat} {p : Option Addr} {n c : Nat} {l : List StepN} (h : PSteps w e p n c l) : ∀ s ∈ l, s.n < B32 e ∧ s.base < B32 e ∧ ∀ q ∈ s.ps, q < B32 e := fun s hs => by
  obtain ⟨i, hi⟩ := List.getElem?_of_mem hs
  obtain ⟨b, off, _, _, h3⟩ := h.at_ (by rw [h.len]; have := (List.getElem?_eq_some_iff.1 hi).1; omega)
  obtain ⟨_, _, _, _, _, _, _, _, _, _, _, _, _, k4, _, k6, k7⟩ := h3 i s hi
  exact ⟨k4, k6, k7.lim⟩
theorem blen_B2 {e N : Nat} (he : e ≤ 32) (h : N < B32 e) : ¬ 1024 < blen N := by
  have : blen N ≤ 32 * e := (blen_le N _).2 (by
    have : B32 e = 2 ^ (32 * e) := by unfold B32; rw [Nat.pow_mul]
    rw [← this]; exact h)
  omega

set_option maxHeartbeats 2000000 in
set_option maxRecDepth 100000 in
/-- The function that asks whether a step is of just the number that stands in a box. -/
theorem of1_asks (w : World) (e f : Nat) (l : List StepN) (b : Nat) (v : Value) (N : Nat) (hb : b < w.heap.size) (hc : w.cell? ⟨b, 0, none⟩ = some v) (hv : Fit f N (.agg #[v]) w) (he : e ≤ 900000) (hf : f ≤ 900000) :
    AsksS 157 #[.pointer (some ⟨b, 0, none⟩)] w e l (fun s => decide (s.n = N)) := by
  refine ⟨fun W s u hbw _ hu => ?_⟩
  have hc' : W.cell? ⟨b, 0, none⟩ = some v := (hbw.cell (p := ⟨b, 0, none⟩) hb).trans hc
  have hv' := hv.below hbw
  obtain ⟨q0, m0, d0, q1, m1, d1, q2, m2, d2, rfl, h0, l0, h1, l1, h2⟩ := hu.ex
  have hbW : b < W.heap.size := Nat.lt_of_lt_of_le hb hbw.size
  have hbx : Below W.heap.size W (W.alloc (.cells #[.slice q0 m0 d0, .slice q1 m1 d1, .slice q2 m2 d2] 145)) := (Below.refl _ _).alloc (Nat.le_refl _) _
  have HBX3 : Hold _ := ⟨Box3.made 145 W (.slice q0 m0 d0) (.slice q1 m1 d1) (.slice q2 m2 d2)⟩
  obtain ⟨wa, hwa⟩ : ∃ wa, W.alloc (.cells #[.slice q0 m0 d0, .slice q1 m1 d1, .slice q2 m2 d2] 145) = wa := ⟨_, rfl⟩
  rw [hwa] at hbx HBX3
  have hc2 : wa.cell? ⟨b, 0, none⟩ = some v := (hbx.cell (p := ⟨b, 0, none⟩) hbW).trans hc'
  have HA : Hold _ := ⟨(Fit.of h0 l0).below hbx⟩
  have HV : Hold _ := ⟨hv'.below hbx⟩
  have HX : Hold _ := ⟨hbx⟩
  have hca := HBX3.out.cells.1
  obtain ⟨pv, nv, cv, hev, _, _⟩ := hv
  cases hev
  obtain ⟨SN, hSN⟩ : ∃ x, s.n = x := ⟨_, rfl⟩
  rw [hSN] at HA
  have HSN : Hold _ := ⟨hSN⟩
  clear hSN hu h0 l0 h1 l1 h2 hbx hv' hc' hc
  go_enter Tryz.func157, Tryz.ntmps157
  go_wp2_with fail
  refine (cmp_fit HA.out HV.out he hf).mono ?_
  rintro en w1 ⟨_, rfl, rfl, hb1⟩
  have HB1 : Hold _ := ⟨bstep HX.out hb1⟩
  have e0 : ((cmpI SN N : Int) == 0) = decide (SN = N) := by
    by_cases hnm : SN = N
    · simp [hnm, cmpI_zero.2]
    · have : cmpI SN N ≠ 0 := fun h0 => hnm (cmpI_zero.1 h0)
      simp [hnm, this]
  have HE : Hold _ := ⟨e0⟩
  clear e0 hb1 hc2 hca
  generalize cmpI SN N = K at *
  go_wp2
  go_ret
  exact ⟨by rw [HSN.out, ← HE.out]; rfl, HB1.out⟩

open Classical in
set_option maxHeartbeats 4000000 in
set_option maxRecDepth 100000 in
theorem prime_e (e : Nat) (he : e ≤ 32) : ∀ (w : World) (N : Nat) (v : Value) (p : Option Addr) (n c : Nat) (l : List StepN), Fit e N v w → PSteps w e p n c l → n ≤ 60 → (∀ s ∈ l, s.ps.length ≤ 1000) →
    Calls Tryz.prog 109 #[v, .slice p n c] w fun en w' => en = .returned (.bool (decide (SmallP N ∨ (ChainP [] l ∧ ∃ s ∈ l, s.n = N)))) ∧ Below w.heap.size w w' := by
  intro w N v p n c l hv h hn hps
  obtain ⟨pu, nu, cu, rfl, hu1, hu2⟩ := hv
  have hbx := Box1.mk1 w (.slice pu nu cu) 36
  obtain ⟨wa, hwa⟩ : ∃ wa, w.alloc (.cells #[.slice pu nu cu] 36) = wa := ⟨_, rfl⟩
  have hbox := NatBox.made w (.slice pu nu cu)
  rw [hwa] at hbx hbox
  have HBOX : Hold _ := ⟨hbox⟩
  have HX : Hold _ := ⟨hbx.bel⟩
  have HF : Hold _ := ⟨(Fit.of hu1 hu2).below hbx.bel⟩
  have HP : Hold _ := ⟨h.below hbx.bel⟩
  have HPS : Hold _ := ⟨hps⟩
  have HLIM : Hold _ := ⟨h.lim⟩
  obtain ⟨ANS, hANS⟩ : ∃ X, decide (SmallP N ∨ (ChainP [] l ∧ ∃ s ∈ l, s.n = N)) = X := ⟨_, rfl⟩
  have HANS : Hold _ := ⟨hANS⟩
  rw [hANS]
  have hca := hbox.cell
  clear hANS hps h hu1 hu2 hbx hbox
  obtain ⟨S, hS⟩ : ∃ X, decide (SmallP N) = X := ⟨_, rfl⟩
  have HS : Hold _ := ⟨hS⟩
  clear hS
  go_enter Tryz.func109, Tryz.ntmps109
  go_wp2_with fail
  refine (small_does wa N e _ HF.out (by omega)).mono ?_
  rintro en w1 ⟨rfl, hb1⟩
  rw [HS.out]
  have HB1 : Hold _ := ⟨hb1⟩
  have HBOX1 : Hold _ := ⟨HBOX.out.below hb1 HBOX.out.lt⟩
  clear hb1 hca
  cases S with
  | true =>
    have HA : Hold (ANS = true) := ⟨by rw [← HANS.out]; exact decide_eq_true (.inl (of_decide_eq_true HS.out))⟩
    have HE : Hold _ := ⟨bstep HX.out HB1.out⟩
    go_wp2
    go_ret
    exact ⟨by rw [HA.out]; rfl, HE.out⟩
  | false =>
    obtain ⟨C, hC⟩ : ∃ X, l.any (fun s => decide (s.n = N)) = X := ⟨_, rfl⟩
    have HC : Hold _ := ⟨hC⟩
    clear hC
    have HAS : Hold _ := ⟨of1_asks w1 e e l w.heap.size (.slice pu nu cu) N HBOX1.out.lt HBOX1.out.cell (HF.out.below HB1.out) (by omega) (by omega)⟩
    go_wp2_with fail
    refine (sany_calls w1 e p n c l _ _ (enters_of Tryz.func157 (by kernel_rfl) rfl) _ (HP.out.below HB1.out) HAS.out).mono ?_
    rintro en w2 ⟨rfl, hb2⟩
    rw [HC.out]
    have HB2 : Hold _ := ⟨bstep HB1.out hb2⟩
    clear hb2
    cases C with
    | false =>
      have HA : Hold (ANS = false) := ⟨by
        rw [← HANS.out]
        refine decide_eq_false fun hh => ?_
        rcases hh with hh | ⟨_, s, hs, hsn⟩
        · exact of_decide_eq_false HS.out hh
        · exact List.any_eq_false.1 HC.out s hs (decide_eq_true hsn)⟩
      have HE : Hold _ := ⟨bstep HX.out HB2.out⟩
      go_wp2
      go_ret
      exact ⟨by rw [HA.out]; rfl, HE.out⟩
    | true =>
      have hnl : ∀ s ∈ l, ¬ TooLong s := fun s hs ht => by
        have := HLIM.out s hs
        rcases ht with ht | ht | ⟨q, hq, ht⟩
        · exact blen_B2 he this.1 ht
        · exact blen_B2 he this.2.1 ht
        · exact blen_B2 he (this.2.2 q hq) ht
      have hne : ¬ ∃ s ∈ l, TooLong s := fun hh => by obtain ⟨s, hs, ht⟩ := hh; exact hnl s hs ht
      have hex : ∃ s ∈ l, s.n = N := by
        obtain ⟨s, hs, ht⟩ := List.any_eq_true.1 HC.out
        exact ⟨s, hs, of_decide_eq_true ht⟩
      have HNE : Hold _ := ⟨hne⟩
      have HEX : Hold _ := ⟨hex⟩
      clear hnl hne hex
      go_wp2_with fail
      refine (check_e e (by omega) w2 p n c l ((HP.out.below HB2.out).wide (by omega)) hn HPS.out (fun s hs _ => HLIM.out s hs)).mono ?_
      rintro en w3 ⟨rfl, hb3⟩
      rw [if_neg HNE.out]
      have HE : Hold _ := ⟨bstep HX.out (bstep HB2.out hb3)⟩
      clear hb3
      by_cases hch : ChainP [] l
      · rw [if_pos hch]
        have HA : Hold (ANS = true) := ⟨by rw [← HANS.out]; exact decide_eq_true (.inr ⟨hch, HEX.out⟩)⟩
        clear hch
        go_wp2
        go_ret
        exact ⟨by rw [HA.out]; rfl, HE.out⟩
      · rw [if_neg hch]
        have HA : Hold (ANS = false) := ⟨by
          rw [← HANS.out]
          refine decide_eq_false fun hh => ?_
          rcases hh with hh | hh
          · exact of_decide_eq_false HS.out hh
          · exact hch hh.1⟩
        clear hch
        go_wp2
        go_ret
        exact ⟨by rw [HA.out]; rfl, HE.out⟩

end Go.Proofs.YtdebccghjbfgdaaGreatDoor

/-! Numbers taken into a ring, one by one (curve.each); why there is no polynomial (curve.fault); quotients. -/
namespace Go.Proofs.YtdebccghjbfgdaaGreatDoor
open Go Go.RowKit Go.Proofs.YtdebccghjbfgdaaGreatDoor.Flow
set_option maxRecDepth 100000

set_option maxHeartbeats 4000000 in
set_option maxRecDepth 1000000 in
theorem ceach_fit {w : World} {e r q n c : Nat} {p : Option Addr} {Bs : List Nat} (hR : Ring w r q 33) (h : PList w e p n c Bs) (he : e ≤ 200) (hn : n ≤ 1000) :
    Calls Tryz.prog 69 #[.slice p n c, .func (.func 36) #[.pointer (some ⟨r, 0, none⟩)] #[]] w fun en w' => en = .returned (.slice (some ⟨w.heap.size, 0, none⟩) n n) ∧ PList w' 33 (some ⟨w.heap.size, 0, none⟩) n n (Bs.map fun x => x % q) ∧ Below w.heap.size w w' := by
  have HLN : Hold _ := ⟨h.len⟩
  have HP : Hold _ := ⟨h⟩
  have HR : Hold _ := ⟨hR⟩
  have hmk := fun w => make_row n (by omega) w
  obtain ⟨w0, hw0⟩ : ∃ w0, w.alloc (.cells (madeCells #[.slice none 0 0] n) 36) = w0 := ⟨_, rfl⟩
  have hb0 : Below w.heap.size w w0 := by rw [← hw0]; exact (Below.refl _ _).alloc (Nat.le_refl _) _
  have HS0 : Hold (SRow w0 w.heap.size (List.replicate n (none, 0, 0))) := ⟨by rw [← hw0]; exact SRow.made w n⟩
  have HB0 : Hold _ := ⟨hb0⟩
  clear hR h hb0
  go_enter Tryz.func69, Tryz.ntmps69
  go_wp2
  go_loopw [6, 7, 13] (fun _ _ iv wr => ∃ (k : Nat) (us : List (Option Addr × Nat × Nat)), k ≤ n ∧ iv = .int .i64 k ∧ us.length = n ∧ Hold (SRow wr w.heap.size us) ∧ Hold (Vals wr 33 us (Bs.map fun x => x % q) k) ∧ Hold (Below w.heap.size w wr)) (fun _ _ iv _ => n - (intOf iv).toNat)
  case atStart => exact ⟨0, List.replicate n (none, 0, 0), by omega, rfl, by simp, HS0, ⟨fun j N hj => by omega⟩, HB0⟩
  case round =>
    obtain ⟨k, us, hk, rfl, hus, HSr, HVr, HBr⟩ := hrel
    by_cases hkn : k < n
    · obtain ⟨X, hXk⟩ : ∃ X, Bs[k]? = some X := ⟨Bs[k]'(by rw [← HLN.out]; exact hkn), List.getElem?_eq_getElem _⟩
      obtain ⟨b2, off, rfl, hb, hc⟩ := (HP.out.below HBr.out).at_ (by omega)
      obtain ⟨q1, m, d, hx, hnx, hlim⟩ := hc k X hXk
      have hUK : us[k]? = some (us[k]'(by omega)) := List.getElem?_eq_getElem _
      have hbw : Below wr.heap.size wr (wr.alloc (.cells #[.slice q1 m d] 36)) := (Below.refl _ _).alloc (Nat.le_refl _) _
      have hbx := NatBox.made wr (.slice q1 m d)
      obtain ⟨wb, hwb⟩ : ∃ wb, wr.alloc (.cells #[.slice q1 m d] 36) = wb := ⟨_, rfl⟩
      rw [hwb] at hbw hbx
      have cb := hbx.cell
      have HXb : Hold _ := ⟨(Fit.of hnx hlim).below hbw⟩
      have HBb : Hold _ := ⟨bstep HBr.out hbw⟩
      have HRb : Hold _ := ⟨HR.out.below HBb.out⟩
      have HSb : Hold _ := ⟨HSr.out.below hbw HSr.out.lt⟩
      have HVb : Hold _ := ⟨HVr.out.keep (B := w.heap.size) (Keep.of hbw HBr.out.size)⟩
      have HNk : Hold ((Bs.map fun x => x % q)[k]? = some (X % q)) := ⟨by rw [List.getElem?_map, hXk]; rfl⟩
      have HPl : Hold (X % q < B32 33) := ⟨Nat.lt_trans (Nat.mod_lt _ (by have := HR.out.two; omega)) HR.out.lim⟩
      have HUK : Hold _ := ⟨hUK⟩
      have hkn' : (k : Int) < n := by omega
      have hnk : ¬ n ≤ k := by omega
      clear hc hnx hlim hXk hbw hbx hb hmk hUK
      go_wp2_with fail
      refine (rof_fit HRb.out HXb.out (by omega)).mono ?_
      rintro en w1 ⟨_, rfl, ⟨pz, nz, cz, rfl, hn1, _⟩, hb1⟩
      have hs1 := HSb.out.below hb1 HSb.out.lt
      have c1 := hs1.cell HUK.out
      have f1 := hs1.free k
      have HS8 : Hold _ := ⟨hs1.set k pz nz cz⟩
      have HV8 : Hold _ := ⟨((HVb.out.keep (Keep.of (B := w.heap.size) hb1 HBb.out.size)).keep (Keep.store_row hs1 (Nat.le_refl _) k (.slice pz nz cz))).step (by omega) HNk.out (hs1.nat hn1 k _) HPl.out⟩
      have HB8 : Hold (Below w.heap.size w (w1.setCell ⟨w.heap.size, k, none⟩ (.slice pz nz cz))) := ⟨(bstep HBb.out hb1).setCell (Nat.le_refl _) _⟩
      have HLEN : Hold ((us.set k (pz, nz, cz)).length = n) := ⟨by rw [List.length_set]; exact hus⟩
      clear hn1 hb1 hs1 cb
      go_wp2
      go_roundw
      case rel => exact ⟨k + 1, us.set k (pz, nz, cz), by omega, by go_num, HLEN.out, HS8, HV8, HB8⟩
      case measure => simp [intOf]; omega
    · obtain rfl : k = n := by omega
      have hkn' : ¬ (k : Int) < k := by omega
      have HPL : Hold _ := ⟨HVr.out.plist HSr.out (by rw [List.length_map]; exact HLN.out.symm) (by omega)⟩
      clear hmk
      go_wp2
      go_ret
      exact ⟨rfl, HPL.out, HBr.out⟩

end Go.Proofs.YtdebccghjbfgdaaGreatDoor

/-! Values of sums and products, and in the exponent: over numbers. Of no program (stage 10). -/
/-! Exponents count in the field alone, over numbers. Of no program (stage 10 ahead). -/
namespace Go.Proofs.YtdebccghjbfgdaaGreatDoor
set_option maxRecDepth 100000

theorem pow_order {P Q g : Nat} (h : g ^ Q % P = 1 % P) (a : Nat) : g ^ a % P = g ^ (a % Q) % P := by
  have h1 : a = Q * (a / Q) + a % Q := (Nat.div_add_mod a Q).symm
  have h2 : g ^ (Q * (a / Q)) % P = 1 % P := by
    rw [Nat.pow_mul, Nat.pow_mod, h, ← Nat.pow_mod, Nat.one_pow]
  rw [show g ^ a = g ^ (Q * (a / Q)) * g ^ (a % Q) by rw [← Nat.pow_add, ← h1], Nat.mul_mod, h2, ← Nat.mul_mod, Nat.one_mul]
theorem pow_alike {P Q g a b : Nat} (h : g ^ Q % P = 1 % P) (hab : a % Q = b % Q) : g ^ a % P = g ^ b % P := by
  rw [pow_order h a, pow_order h b, hab]
/-- Horner in the exponent: from the last coefficient on. -/
def horE (P x : Nat) : List Nat → Nat
  | [] => 1
  | c :: l => horE P x l ^ x % P * c % P
def horN (x : Nat) : List Nat → Nat
  | [] => 0
  | c :: l => c + x * horN x l
theorem horE_pow {P g x : Nat} : ∀ l : List Nat, horE P x (l.map fun a => g ^ a % P) % P = g ^ horN x l % P
  | [] => by simp [horE, horN]
  | c :: l => by
    show horE P x (l.map fun a => g ^ a % P) ^ x % P * (g ^ c % P) % P % P = g ^ (c + x * horN x l) % P
    rw [Nat.mod_mod, Nat.mod_mul_mod, Nat.mul_mod_mod, Nat.mul_mod, Nat.pow_mod, horE_pow l, ← Nat.pow_mod, ← Nat.mul_mod, ← Nat.pow_mul, ← Nat.pow_add, Nat.mul_comm (horN x l) x, Nat.add_comm (x * horN x l) c]

end Go.Proofs.YtdebccghjbfgdaaGreatDoor

/-! All places' weights, as a list; sums of what is weighed: over numbers. Of no program (stage 10). -/
namespace Go.Proofs.YtdebccghjbfgdaaGreatDoor
set_option maxRecDepth 100000

/-- A value, from the last coefficient down. -/
def valN (hp ht : Nat → Nat → Nat) (x nothing : Nat) : List Nat → Nat
  | [] => nothing
  | c :: l => hp (ht (valN hp ht x nothing l) x) c
theorem valN_hor (q x : Nat) : ∀ l, valN (fun a b => (a + b) % q) (fun a b => a * b % q) x 0 l = horQ q x l
  | [] => rfl
  | c :: l => by
    show (valN (fun a b => (a + b) % q) (fun a b => a * b % q) x 0 l * x % q + c) % q = (c + horQ q x l * x % q) % q
    rw [valN_hor q x l, Nat.add_comm]
theorem valN_horE (P x : Nat) : ∀ l, valN (fun a b => a * b % P) (fun a b => a ^ b % P) x 1 l = horE P x l
  | [] => rfl
  | c :: l => by
    show valN (fun a b => a * b % P) (fun a b => a ^ b % P) x 1 l ^ x % P * c % P = horE P x l ^ x % P * c % P
    rw [valN_horE P x l]
theorem horQ_mod (q x : Nat) : ∀ l, horQ q (x % q) l = horQ q x l
  | [] => rfl
  | c :: l => by
    show (c + horQ q (x % q) l * (x % q) % q) % q = (c + horQ q x l * x % q) % q
    rw [horQ_mod q x l, Nat.mul_mod_mod]

end Go.Proofs.YtdebccghjbfgdaaGreatDoor

namespace Go.Proofs.YtdebccghjbfgdaaGreatDoor
set_option maxRecDepth 100000

theorem horN_mod (q x : Nat) : ∀ l, horN x l % q = horQ q x l % q
  | [] => rfl
  | c :: l => by
    show (c + x * horN x l) % q = (c + horQ q x l * x % q) % q % q
    rw [Nat.mod_mod, Nat.add_mod_mod, Nat.mul_comm x, ← Nat.add_mod_mod, Nat.mul_mod, horN_mod q x l, ← Nat.mul_mod, Nat.add_mod_mod]
theorem horE_lt {P x : Nat} (hP : 2 ≤ P) : ∀ l, horE P x l < P
  | [] => by show 1 < P; omega
  | c :: l => Nat.mod_lt _ (by omega)
/-- A polynomial in the exponent has the base with its value. -/
theorem exps_val {P Q g X : Nat} (hg : g ^ Q % P = 1 % P) (hP : 2 ≤ P) (ls : List Nat) : horE P (X % Q) (ls.map fun a => g ^ a % P) = g ^ horQ Q X ls % P := by
  have h1 := horE_pow (P := P) (g := g) (x := X % Q) ls
  rw [Nat.mod_eq_of_lt (horE_lt hP _)] at h1
  rw [h1]
  refine pow_alike hg ?_
  rw [horN_mod, horQ_mod]
theorem hor_add {q X : Nat} (hq : 2 ≤ q) (p r : List Nat) : horQ q X (addQ q p r) = (horQ q X p + horQ q X r) % q := by
  have h1 := horQ_is (x := X) hq (addQ q p r)
  have h2 := (horQ_is (x := X) hq p).add (horQ_is (x := X) hq r)
  exact h1.uniq h2 (addQ_ev (by omega) X p r)
theorem hor_mul {q X : Nat} (hq : 2 ≤ q) {p r s : List Nat} (h : PrOf q p r s) : horQ q X s = horQ q X p * horQ q X r % q := by
  have h1 := horQ_is (x := X) hq s
  have h2 := (horQ_is (x := X) hq p).mul (horQ_is (x := X) hq r)
  exact h1.uniq h2 (h.val X)

end Go.Proofs.YtdebccghjbfgdaaGreatDoor

/-! What is weighed, summed (curve.weighed), in any place that has sums and products. -/
/-! The product of powers of a group, bit by bit of all exponents at once. -/
namespace Go.Proofs.YtdebccghjbfgdaaGreatDoor
open Go Go.RowKit Go.Proofs.YtdebccghjbfgdaaGreatDoor.Flow
set_option maxRecDepth 100000

/-- A box whose value is known until it is stored into. -/
structure StV (d : Bool) (b : Nat) (p0 : Option Addr) (n0 c0 N : Nat) (w : World) : Prop where
  z : d = false → NatBox w b (.slice p0 n0 c0)
  o : d = true → ∃ p n c, NatBox w b (.slice p n c) ∧ NatAt w p n c N
theorem StV.later {d : Bool} {b n0 c0 N : Nat} {p0 : Option Addr} {w w' : World} (h : StV d b p0 n0 c0 N w) (hb : Below w.heap.size w w') : StV d b p0 n0 c0 N w' :=
  ⟨fun e => (h.z e).below hb (h.z e).lt, fun e => let ⟨p, n, c, h1, h2⟩ := h.o e; ⟨p, n, c, h1.below hb h1.lt, h2.below hb⟩⟩
theorem StV.put {b n0 c0 N : Nat} {p0 : Option Addr} {w : World} (h : StV false b p0 n0 c0 N w) {p : Option Addr} {n c : Nat} (hx : NatAt w p n c N) : ∃ q m k, NatBox w b (.slice q m k) ∧ StV true b p0 n0 c0 N (w.setCell ⟨b, 0, none⟩ (.slice p n c)) :=
  ⟨p0, n0, c0, h.z rfl, (fun e => by cases e), fun _ => ⟨p, n, c, (h.z rfl).set _, hx.store (h.z rfl) _⟩⟩

/-- How the product stands in its box. -/
def ProdBox (w : World) (b N : Nat) : Prop := ∃ p n c, NatBox w b (.slice p n c) ∧ NatAt w p n c N

end Go.Proofs.YtdebccghjbfgdaaGreatDoor

/-! One place's weight (curve.weightOf): all differences multiplied, and divided at once. -/
namespace Go.Proofs.YtdebccghjbfgdaaGreatDoor
open Go Go.RowKit Go.Proofs.YtdebccghjbfgdaaGreatDoor.Flow
set_option maxRecDepth 100000

theorem ProdBox.below {w w' : World} {b N : Nat} (h : ProdBox w b N) (hb : Below w.heap.size w w') : ProdBox w' b N :=
  let ⟨p, n, c, h1, h2⟩ := h
  ⟨p, n, c, h1.below hb h1.lt, h2.below hb⟩
end Go.Proofs.YtdebccghjbfgdaaGreatDoor

namespace Go.Proofs.YtdebccghjbfgdaaGreatDoor
open Go Go.RowKit Go.Proofs.YtdebccghjbfgdaaGreatDoor.Flow
set_option maxRecDepth 100000

/-- What a method value with two numbers does. -/
structure Op2 (g : Nat) (pr : Value) (w : World) (h : Nat → Nat → Nat) : Prop where
  out : ∀ (W : World) (e1 e2 A B : Nat) (u v : Value), Below w.heap.size w W → e1 ≤ 200 → e2 ≤ 200 → Fit e1 A u W → Fit e2 B v W → Calls Tryz.prog g #[pr, u, v] W fun en w' => ∃ x, en = .returned x ∧ Fit 33 (h A B) x w' ∧ Below W.heap.size W w'
theorem op_add {w : World} {r q : Nat} (hR : Ring w r q 33) : Op2 43 (.pointer (some ⟨r, 0, none⟩)) w (fun a b => (a + b) % q) :=
  ⟨fun W e1 e2 A B u v hW h1 h2 hu hv => rngadd_fit (hR.below hW) hu hv (by omega) (by omega)⟩
theorem op_mul {w : World} {r q : Nat} (hR : Ring w r q 33) : Op2 45 (.pointer (some ⟨r, 0, none⟩)) w (fun a b => a * b % q) :=
  ⟨fun W e1 e2 A B u v hW h1 h2 hu hv => rngmul_fit (hR.below hW) hu hv (by omega) (by omega)⟩
theorem op_gmul {w : World} {b P Q G H : Nat} (hG : GroupAt w b P Q G H) : Op2 57 (.pointer (some ⟨b, 0, none⟩)) w (fun a b => a * b % P) :=
  ⟨fun W e1 e2 A B u v hW h1 h2 hu hv => gmul_fit (hG.below hW) hu hv (by omega) (by omega)⟩
theorem op_gexp {w : World} {b P Q G H : Nat} (hG : GroupAt w b P Q G H) : Op2 39 (.pointer (some ⟨b, 0, none⟩)) w (fun a b => a ^ b % P) :=
  ⟨fun W e1 e2 A B u v hW h1 h2 hu hv => gexp_fit (hG.below hW) hu hv (by omega) (by omega)⟩

end Go.Proofs.YtdebccghjbfgdaaGreatDoor

namespace Go.Proofs.YtdebccghjbfgdaaGreatDoor
open Go Go.RowKit Go.Proofs.YtdebccghjbfgdaaGreatDoor.Flow
set_option maxRecDepth 100000
attribute [local go_sem] Oper.semAt_some

theorem backward_calls (w : World) (p : Option Addr) (n c : Nat) :
    Calls Tryz.prog 132 #[.slice p n c] w fun e w' => e = .returned (.func (.func 174) #[] #[.pointer (some ⟨w.heap.size, 0, none⟩)]) ∧
      w' = w.alloc (.cells #[.slice p n c] 32) := by
  go_enter Tryz.func132, Tryz.ntmps132
  go_wp2
  go_ret
  exact ⟨rfl, rfl⟩

set_option maxRecDepth 100000 in
set_option maxHeartbeats 4000000 in
theorem backward1_tells (n B l b1 b off len cap : Nat) (p : Option Addr) (us : List (Option Addr × Nat × Nat)) (w0 W : World) (hr : RowAt w0 p len cap b off us) (hlen : len ≤ 1000000) (Kp : World → World → Prop) (hW : Below w0.heap.size w0 W)
    (hc1 : W.cell? ⟨b1, 0, none⟩ = some (.slice p len cap)) (hkp : ∀ A C, Kp A C → w0.heap.size ≤ A.heap.size → Below w0.heap.size A C ∧ ∀ u, A.cell? ⟨b1, 0, none⟩ = some u → C.cell? ⟨b1, 0, none⟩ = some u) :
    TellsA Fence.wide n Tryz.prog 174 #[.pointer (some ⟨b1, 0, none⟩)] B l len Kp (fun k vs _ => ∃ x, us[len - 1 - k]? = some x ∧ vs = #[.int .i64 ((len - 1 - k : Nat) : Int), .agg #[sv x]]) W := by
  intro J hJ hY h0
  have HJ : Hold (OwnFrom B J) := ⟨hJ⟩
  have HY : Hold _ := ⟨hY⟩
  have HK : Hold _ := ⟨hkp⟩
  have HR : Hold _ := ⟨hr⟩
  have HJ0 : Hold _ := ⟨h0⟩
  have HW : Hold _ := ⟨hW⟩
  have HC1 : Hold _ := ⟨hc1⟩
  clear hJ hY hkp hr h0 hW
  refine callsIn_of_wp Tryz.func174 rfl trivial ?_ rfl
  simp only [Tryz.ntmps174, List.size_toArray, List.length_cons, List.length_nil, Nat.reduceAdd, Nat.reduceSub, Array.replicate_succ, Array.replicate_zero, List.push_toArray, List.append_toArray, List.nil_append, List.cons_append]
  gi_wp2
  clear hc1
  gi_loopw [3] (fun i wr => ∃ (k : Nat) (z : Int), k ≤ len ∧ i = .int .i64 z ∧ z = (len : Int) - 1 - k ∧ Hold (J k wr) ∧ Hold (Below w0.heap.size w0 wr) ∧ Hold (wr.cell? ⟨b1, 0, none⟩ = some (.slice p len cap))) (fun i _ => (intOf i + 1).toNat)
  case atStart => exact ⟨0, (len : Int) - 1, by omega, by go_num, by omega, HJ0, HW, HC1⟩
  case round =>
    obtain ⟨k, z, hk, rfl, hz, HJk, HB, HC⟩ := hrel
    by_cases hkn : k < len
    · obtain ⟨m, hm⟩ : ∃ m, len - 1 - k = m := ⟨_, rfl⟩
      obtain rfl : z = (m : Nat) := by omega
      obtain ⟨x, hx⟩ : ∃ x, us[m]? = some x := ⟨us[m]'(by rw [HR.out.len]; omega), List.getElem?_eq_getElem _⟩
      obtain ⟨rfl, hblt⟩ := HR.out.ptr (by omega)
      obtain ⟨q, mm, d⟩ := x
      have hc : wr.cell? ⟨b, off + m, none⟩ = some (.slice q mm d) := (HB.out.cell (p := ⟨b, off + m, none⟩) hblt).trans (HR.out.cell m _ hx)
      have hge : (0 : Int) ≤ (m : Nat) := by omega
      have hml : (m : Int) < len := by omega
      have c1 := HC.out
      have HM : Hold _ := ⟨hm⟩
      obtain ⟨fn, tmps, assign, body, hy, hR⟩ := HY.out k #[.int .i64 (m : Nat), .agg #[.slice q mm d]] wr hkn HJk.out ⟨_, by rw [hm]; exact hx, by rw [hm]; rfl⟩
      have HRn : Hold _ := ⟨hR⟩
      clear hx hblt hR hz hm
      gi_wp2_with fail
      refine ⟨fun h => by simp [Fence.wide] at h, HRn.out.mono ?_⟩
      rintro e W3 ⟨rfl, hJ3, hk3⟩
      have HJ3 : Hold _ := ⟨hJ3⟩
      have h3 := HK.out _ _ hk3 HB.out.size
      have HB3 : Hold _ := ⟨HB.out.trans h3.1⟩
      have HC3 : Hold _ := ⟨h3.2 _ HC.out⟩
      clear hJ3 hk3 hy hc h3 c1
      gi_wp2
      go_roundw
      case rel => exact ⟨k + 1, (m : Int) - 1, by omega, by go_num, by have := HM.out; omega, HJ3, HB3, HC3⟩
      case measure => simp [intOf]
    · have hkN : k = len := by omega
      subst hkN
      obtain rfl : z = -1 := by omega
      gi_wp2
      go_end0
      exact ⟨⟨_, rfl⟩, HJk.out⟩

/-- As RG, and nothing else than the box b has changed. -/
structure RB (b B : Nat) (wx : World) (l : List (Nat × Obj)) (w : World) : Prop where
  keep : Keep B wx w
  base : B ≤ w.heap.size
  blk : ∀ x ∈ l, w.heap[x.1]? = some x.2
  but : But b wx w
theorem RB.start {b B : Nat} {wx : World} {l : List (Nat × Obj)} (hB : B ≤ wx.heap.size) (hl : ∀ x ∈ l, wx.heap[x.1]? = some x.2) : RB b B wx l wx.drew := ⟨Keep.drew _ _, hB, hl, (But.refl _ _).drew⟩
theorem RB.later {b B : Nat} {wx : World} {l : List (Nat × Obj)} {w w' : World} (h : RB b B wx l w) (hb : Below w.heap.size w w') : RB b B wx l w' :=
  ⟨h.keep.trans (Keep.of hb h.base), Nat.le_trans h.base hb.size, fun x hx => by rw [hb.block x.1 (Array.getElem?_eq_some_iff.1 (h.blk x hx)).1]; exact h.blk x hx, h.but.trans (But.of hb)⟩
theorem RB.store {B : Nat} {wx : World} {l : List (Nat × Obj)} {w : World} {b m d : Nat} {q : Option Addr} (h : RB b B wx l w) (hb : NatBox w b (.slice q m d)) (hB : B ≤ b) (hn : ∀ x ∈ l, x.1 ≠ b) (v : Value) : RB b B wx l (w.setCell ⟨b, 0, none⟩ v) :=
  ⟨h.keep.trans (Keep.store hb hB v), by simpa using h.base, fun x hx => by
    have := hn x hx
    simp [World.setCell, Array.getElem?_modify, this.symm]
    exact h.blk x hx, h.but.trans (But.setCell _ _ _)⟩
theorem RB.of {b B : Nat} {wx : World} {l : List (Nat × Obj)} {w : World} (h : RB b B wx l w) {c : Nat} {o : Obj} (hm : (c, o) ∈ l) : w.heap[c]? = some o := h.blk _ hm
theorem But.mid {b : Nat} {w w' : World} (h : But b w w') {p : Nat → Prop} (hp : ¬ p b) : Mid p w w' := ⟨h.os, h.tape, h.output, h.size, fun k hk hpk => h.block k hk (fun e => hp (e ▸ hpk))⟩
theorem But.keepsFrom {b D : Nat} {w w' : World} (h : But b w w') {cs : Array Value} {t : TypeId} {m : Nat × Nat} (hb : w.heap[b]? = some (.cells cs t m)) : KeepsFrom D w w' :=
  ⟨h.size, fun k o _ hk ho => by rw [h.block k (Array.getElem?_eq_some_iff.1 hk).1 (fun e => by subst e; rw [hb] at hk; cases hk; cases ho)]; exact hk⟩

/-- How a value stands under way. -/
structure VaSt (w : World) (b2 b3 b4 b5 b6 gp gt : Nat) (pp pt ux sl : Value) (N : Nat) (W : World) : Prop where
  c0 : NatBox W w.heap.size ux
  c2 : W.heap[b2]? = some (.cells #[.func (.func gp) #[pp] #[]] 148 (0, 0))
  c3 : W.heap[b3]? = some (.cells #[.func (.func gt) #[pt] #[]] 148 (0, 0))
  c4 : NatBox W b4 (.slice none 0 0)
  c5 : ProdBox W b5 N
  c6 : W.heap[b6]? = some (.cells #[sl] 32 (0, 0))
  bel : Below w.heap.size w W
theorem VaSt.stable {w : World} {b2 b3 b4 b5 b6 gp gt N : Nat} {pp pt ux sl : Value} {W W' : World} (h : VaSt w b2 b3 b4 b5 b6 gp gt pp pt ux sl N W) (hb : Below W.heap.size W W') : VaSt w b2 b3 b4 b5 b6 gp gt pp pt ux sl N W' :=
  ⟨h.c0.below hb h.c0.lt, by rw [hb.block b2 (Array.getElem?_eq_some_iff.1 h.c2).1]; exact h.c2, by rw [hb.block b3 (Array.getElem?_eq_some_iff.1 h.c3).1]; exact h.c3, h.c4.below hb h.c4.lt, h.c5.below hb, by rw [hb.block b6 (Array.getElem?_eq_some_iff.1 h.c6).1]; exact h.c6, bstep h.bel hb⟩
theorem VaSt.own {w : World} {b2 b3 b4 b5 b6 gp gt : Nat} {N : Nat → Nat} {pp pt ux sl : Value} {D : Nat} (hD : w.heap.size ≤ D) : OwnFrom D (fun k => VaSt w b2 b3 b4 b5 b6 gp gt pp pt ux sl (N k)) := fun k W W' row h hg hr => by
  have hc : Calm W row := fun j e => (hr j e).2
  obtain ⟨p, n, c, h1, h2⟩ := h.c5
  exact ⟨block_kept hg hc h.c0, block_kept hg hc h.c2, block_kept hg hc h.c3, block_kept hg hc h.c4, ⟨p, n, c, block_kept hg hc h1, h2.kept hg hc⟩, block_kept hg hc h.c6, h.bel.grown hg h.bel.size (fun j e => Nat.le_trans hD (hr j e).1)⟩

end Go.Proofs.YtdebccghjbfgdaaGreatDoor
