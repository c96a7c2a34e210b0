/- Chains, of the program. -/
import Derived.Test.YtceihmiiapnmnaaCpH
import Derived.Test.YtceihmiiapnmnaaCpI
import Derived.Test.YtceihmiiapnmnaaCertM
namespace Go.Proofs.Ytceihmiiapnmnaa
open Go Go.RowKit Go.Proofs.Ytceihmiiapnmnaa.Flow
set_option maxRecDepth 100000

theorem PList.tight {w : World} {e f : Nat} {p : Option Addr} {n c : Nat} {Ns : List Nat} (h : PList w e p n c Ns) (hl : ∀ N ∈ Ns, N < B32 f) : PList w f p n c Ns := by
  refine ⟨h.len, h.cap, h.max, h.nil, fun h0 => ?_⟩
  obtain ⟨b, off, h1, h2, h3⟩ := h.at_ h0
  exact ⟨b, off, h1, h2, fun i N hN => let ⟨q, m, d, k1, k2, _⟩ := h3 i N hN; ⟨q, m, d, k1, k2, hl N (List.mem_of_getElem? hN)⟩⟩
theorem PList.wide {w : World} {e f : Nat} {p : Option Addr} {n c : Nat} {Ns : List Nat} (h : PList w e p n c Ns) (hf : e ≤ f) : PList w f p n c Ns := by
  refine ⟨h.len, h.cap, h.max, h.nil, fun h0 => ?_⟩
  obtain ⟨b, off, h1, h2, h3⟩ := h.at_ h0
  exact ⟨b, off, h1, h2, fun i N hN => let ⟨q, m, d, k1, k2, k3⟩ := h3 i N hN; ⟨q, m, d, k1, k2, Nat.lt_of_lt_of_le k3 (B32_mono hf)⟩⟩
theorem PSteps.wide {w : World} {e f : Nat} {p : Option Addr} {n c : Nat} {l : List StepN} (h : PSteps w e p n c l) (hf : e ≤ f) : PSteps w f p n c l := by
  refine ⟨h.len, h.cap, h.max, h.nil, fun h0 => ?_⟩
  obtain ⟨b, off, h1, h2, h3⟩ := h.at_ h0
  refine ⟨b, off, h1, h2, fun i s hs => ?_⟩
  obtain ⟨q0, m0, d0, q1, m1, d1, q2, m2, d2, k0, k1, k2, k3, k4, k5, k6, k7⟩ := h3 i s hs
  exact ⟨q0, m0, d0, q1, m1, d1, q2, m2, d2, k0, k1, k2, k3, Nat.lt_of_lt_of_le k4 (B32_mono hf), k5, Nat.lt_of_lt_of_le k6 (B32_mono hf), k7.wide hf⟩

theorem long_asksS (w : World) (e : Nat) (l : List StepN) (he : e ≤ 900000) : AsksS 23 #[] w e l (fun s => @decide (TooLong s) (Classical.propDecidable _)) := by
  refine ⟨fun W M u _ _ hu => ?_⟩
  rw [Array.append_empty]
  exact long_calls hu he

/-- make([]nat.Nat, 0, n) -/
theorem make_nats (n : Nat) (h : n ≤ 1000000) (w : World) : (Instr.makeSlice 50 (.int .i64 0) (.int .i64 (n : Nat))).run Try.prog w =
    .ok (.slice (some ⟨w.heap.size, 0, none⟩) 0 n) (w.alloc (.cells (madeCells #[.slice none 0 0] n) 43)) := by
  obtain ⟨i, hi, hz, hs, hb⟩ := info_parts Try.info_Nat
  have := run_make (P := Try.prog) w 50 43 i (.agg #[.slice none 0 0]) Try.underlying50 hi hz .i64 .i64 0 n (by omega) (by omega) (by rw [hb]; omega) (by omega)
  simp only [Int.toNat_natCast, hs, Nat.mul_one] at this
  rw [this]
  rfl
theorem OwnV.made (w : World) (B n : Nat) (hn : n ≤ 1000000) (hB : B ≤ w.heap.size) (bad : Nat → Prop) : OwnV NatAt 43 B bad (w.alloc (.cells (madeCells #[.slice Option.none 0 0] n) 43)) (.slice (some ⟨w.heap.size, 0, Option.none⟩) 0 n) [] :=
  ⟨[], World.ownsRow_made w _ n hB (by simp only [maxLen]; omega) (by rw [size_madeCells, Nat.mul_one]), rfl, fun i N h => by simp at h⟩

theorem chain_take {l : List StepN} {k : Nat} {s : StepN} (h : l[k]? = some s) : ChainP [] (l.take (k + 1)) ↔ ChainP [] (l.take k) ∧ HoldsP s.n s.base s.ps ((l.take k).map (·.n)) := by
  rw [snoc_take h, chain_snoc, List.nil_append]
theorem chain_pre {l : List StepN} (k : Nat) (h : ChainP [] l) : ChainP [] (l.take k) := by
  rw [← List.take_append_drop k l] at h
  exact ((chain_append _ _ _).1 h).1

open Classical in
set_option maxHeartbeats 4000000 in
set_option maxRecDepth 100000 in
theorem check_does : CheckDoes := by
  intro w p n c l h hn hps hlim
  have HH : Hold _ := ⟨h⟩
  have HLN : Hold _ := ⟨h.len⟩
  have HPS : Hold _ := ⟨hps⟩
  have HLIM : Hold _ := ⟨hlim⟩
  obtain ⟨ANS, hANS⟩ : ∃ X : Int, (if ∃ s ∈ l, TooLong s then 4 else if ChainP [] l then 0 else 8) = X := ⟨_, rfl⟩
  have HANS : Hold _ := ⟨hANS⟩
  rw [hANS]
  clear h hps hlim hANS
  have hn64 : ¬ (64 : Int) < n := by omega
  obtain ⟨S0, hS0⟩ : ∃ X, l.any (fun s => decide (TooLong s)) = X := ⟨_, rfl⟩
  have HS0 : Hold _ := ⟨hS0⟩
  clear hS0
  go_enter Try.func10, Try.ntmps10
  go_wp2_with fail
  refine (sany_calls w 200 p n c l _ _ (enters_of Try.func23 (by kernel_rfl) rfl) (fun s => decide (TooLong s)) HH.out (long_asksS _ 200 l (by decide))).mono ?_
  rintro en w1 ⟨rfl, hb1⟩
  rw [HS0.out]
  have HB1 : Hold _ := ⟨hb1⟩
  clear hb1
  cases S0 with
  | true =>
    have HF : Hold (ANS = 4) := ⟨by
      rw [← HANS.out]
      obtain ⟨s, hs, ht⟩ := List.any_eq_true.1 HS0.out
      exact if_pos ⟨s, hs, of_decide_eq_true ht⟩⟩
    go_wp2
    go_ret
    exact ⟨by rw [HF.out]; rfl, HB1.out⟩
  | false =>
    have hnl : ∀ s ∈ l, ¬ TooLong s := fun s hs ht => by
      have := List.any_eq_false.1 HS0.out s hs
      exact this (decide_eq_true ht)
    have HNL : Hold _ := ⟨hnl⟩
    have HANS2 : Hold ((if ChainP [] l then 0 else 8 : Int) = ANS) := ⟨by
      rw [← HANS.out]
      exact (if_neg (fun h => by obtain ⟨s, hs, ht⟩ := h; exact hnl s hs ht)).symm⟩
    have HLT : Hold (∀ s ∈ l, s.n < B32 2 ∧ s.base < B32 2 ∧ ∀ q ∈ s.ps, q < B32 2) := ⟨fun s hs => HLIM.out s hs (hnl s hs)⟩
    clear hnl
    have hmk := fun wx => make_nats n (by omega) wx
    have HOV : Hold _ := ⟨OwnV.made w1 w.heap.size n (by omega) HB1.out.size (fun g => w.heap.size ≤ g)⟩
    have hbm : Below w1.heap.size w1 (w1.alloc (.cells (madeCells #[.slice none 0 0] n) 43)) := (Below.refl _ _).alloc (Nat.le_refl _) _
    have HBM : Hold _ := ⟨bstep HB1.out hbm⟩
    clear hbm
    go_wp2
    go_loopw [3, 5, 18] (fun vv _ iv wr => ∃ k : Nat, k ≤ n ∧ iv = .int .i64 k ∧ Hold (Below w.heap.size w wr) ∧ Hold (OwnV NatAt 43 w.heap.size (fun g => w.heap.size ≤ g) wr vv ((l.take k).map (·.n))) ∧ Hold (ChainP [] (l.take k))) (fun _ _ iv _ => n - (intOf iv).toNat)
    case atStart => exact ⟨0, by omega, rfl, HBM, HOV, ⟨trivial⟩⟩
    case round =>
      obtain ⟨k, hk, rfl, HB, HO, HC⟩ := hrel
      by_cases hkn : k < n
      · obtain ⟨S, hSk⟩ : ∃ s, l[k]? = some s := ⟨l[k]'(by rw [← HLN.out]; exact hkn), List.getElem?_eq_getElem _⟩
        have HSk : Hold _ := ⟨hSk⟩
        have HM : Hold _ := ⟨List.mem_of_getElem? hSk⟩
        obtain ⟨b, off, rfl, hb, hc⟩ := HH.out.at_ (by omega)
        obtain ⟨q0, m0, d0, q1, m1, d1, q2, m2, d2, y0, y1, y2, y3, y4, y5, y6, y7⟩ := hc k S hSk
        have HNA : Hold _ := ⟨y3⟩
        have HNB : Hold _ := ⟨y5⟩
        have HNP : Hold _ := ⟨y7.tight (HLT.out S HM.out).2.2⟩
        have hcl : ∀ o, wr.cell? ⟨b, o, none⟩ = w.cell? ⟨b, o, none⟩ := fun o => HB.out.cell (p := ⟨b, o, none⟩) hb
        have x0 : wr.cell? ⟨b, off + k * 3, none⟩ = some (.slice q0 m0 d0) := by rw [hcl]; exact y0
        have x1 : wr.cell? ⟨b, off + k * 3 + 1, none⟩ = some (.slice q1 m1 d1) := by rw [hcl]; exact y1
        have x2 : wr.cell? ⟨b, off + k * 3 + 2, none⟩ = some (.slice q2 m2 d2) := by rw [hcl]; exact y2
        have hkn' : (k : Int) < n := by omega
        have hbx : Below wr.heap.size wr (wr.alloc (.cells #[.slice q0 m0 d0, .slice q1 m1 d1, .slice q2 m2 d2] 52)) := (Below.refl _ _).alloc (Nat.le_refl _) _
        have HBX3 : Hold _ := ⟨Box3.made 52 wr (.slice q0 m0 d0) (.slice q1 m1 d1) (.slice q2 m2 d2)⟩
        obtain ⟨wa, hwa⟩ : ∃ wa, wr.alloc (.cells #[.slice q0 m0 d0, .slice q1 m1 d1, .slice q2 m2 d2] 52) = wa := ⟨_, rfl⟩
        rw [hwa] at hbx HBX3
        have HBa : Hold _ := ⟨bstep HB.out hbx⟩
        have HOa : Hold _ := ⟨HO.out.below hbx⟩
        have hmem : ∀ N ∈ (l.take k).map (·.n), N < B32 2 := fun N hN => by
          obtain ⟨s, hs, rfl⟩ := List.mem_map.1 hN
          exact (HLT.out s (List.mem_of_mem_take hs)).1
        have HL60 : Hold (((l.take k).map (·.n)).length ≤ 1000) := ⟨by rw [List.length_map, List.length_take]; omega⟩
        obtain ⟨Ks, hKs⟩ : ∃ Ks, (l.take k).map (·.n) = Ks := ⟨_, rfl⟩
        have HKs : Hold _ := ⟨hKs⟩
        rw [hKs] at hmem HL60 HOa HO
        clear hKs
        obtain ⟨nk, hnk⟩ : ∃ nk, Ks.length = nk := ⟨_, rfl⟩
        obtain ⟨p1, c1, rfl, hp1⟩ := HOa.out.plist hmem
        have HNk : Hold _ := ⟨hnk⟩
        rw [hnk] at hp1 HL60 HOa HO
        rw [hnk]
        clear hnk
        have HP1 : Hold _ := ⟨hp1⟩
        have z0 := HBX3.out.cells.1
        have z1 := HBX3.out.cells.2.1
        have z2 := HBX3.out.cells.2.2
        clear hc hcl y0 y1 y2 y3 y4 y5 y6 y7 hbx hmem hp1 hSk
        obtain ⟨D, hD⟩ : ∃ X, decide (HoldsP S.n S.base S.ps Ks) = X := ⟨_, rfl⟩
        have HD : Hold _ := ⟨hD⟩
        clear hD
        go_wp2_with fail
        refine (holds_does wa S.n S.base q0 m0 d0 q1 m1 d1 q2 m2 d2 S.ps _ _ _ _ (HNA.out.below HBa.out) (HLT.out S HM.out).1 (HNB.out.below HBa.out) (HLT.out S HM.out).2.1 (HNP.out.below HBa.out) HP1.out (by rw [HNP.out.len]; exact HPS.out S HM.out) HL60.out).mono ?_
        rintro en w3 ⟨rfl, hb3⟩
        rw [HD.out]
        have HB3 : Hold _ := ⟨bstep HBa.out hb3⟩
        have HO3 : Hold _ := ⟨HOa.out.below hb3⟩
        have HX3 : Hold _ := ⟨HBX3.out.below hb3 HBX3.out.lt⟩
        clear hb3 x0 x1 x2 z0 z1 z2
        cases D with
        | false =>
          have HF : Hold (ANS = 8) := ⟨by
            rw [← HANS2.out, if_neg]
            intro hh
            exact of_decide_eq_false HD.out (by rw [← HKs.out]; exact ((chain_take HSk.out).1 (chain_pre (k + 1) hh)).2)⟩
          go_wp2
          go_ret
          exact ⟨by rw [HF.out]; rfl, HB3.out⟩
        | true =>
          have HC' : Hold (ChainP [] (l.take (k + 1))) := ⟨(chain_take HSk.out).2 ⟨HC.out, by rw [HKs.out]; exact of_decide_eq_true HD.out⟩⟩
          have HTk : Hold ((l.take (k + 1)).map (·.n) = Ks ++ [S.n]) := ⟨by rw [snoc_take HSk.out, List.map_append, HKs.out]; rfl⟩
          have hb4 : Below w3.heap.size w3 (w3.alloc (.cells #[.slice q0 m0 d0] 43)) := (Below.refl _ _).alloc (Nat.le_refl _) _
          have hx4 : (w3.alloc (.cells #[.slice q0 m0 d0] 43)).cell? ⟨w3.heap.size, 0, none⟩ = some (.slice q0 m0 d0) := (NatBox.made w3 (.slice q0 m0 d0)).cell
          obtain ⟨w4, hw4⟩ : ∃ w4, w3.alloc (.cells #[.slice q0 m0 d0] 43) = w4 := ⟨_, rfl⟩
          rw [hw4] at hb4 hx4
          have hB4 := bstep HB3.out hb4
          have hfirm : Firm (fun w => NatAt w q0 m0 d0 S.n) (fun g => w.heap.size ≤ g) w4 := natStands.firm (HNA.out.below hB4) fun q hq hle => by
            have := natStands.lt HNA.out q hq
            omega
          obtain ⟨i1, hi1, hz1, hs1, hbb1⟩ := info_parts Try.info_Nat
          obtain ⟨v9, w9, happ, ho9, hg9, _⟩ := (HO3.out.below hb4).app Try.underlying50 hi1 hz1 hs1 hbb1 rfl (by decide) hB4.size (a := ⟨w3.heap.size, 0, none⟩) (c := 1) (x := (q0, m0, d0)) hx4 hfirm (fun g hg => (HO3.out.block g hg).1) (by rw [HNk.out]; exact Nat.le_trans HL60.out (by decide)) 50
          have HO9 : Hold _ := ⟨ho9⟩
          have HB9 : Hold (Below w.heap.size w w9) := ⟨hB4.grown hg9 hB4.size fun g hg => (HO3.out.block g hg).1⟩
          have z0 := HX3.out.cells.1
          clear hb4 hx4 hB4 hfirm hi1 hz1 hs1 hbb1 ho9 hg9
          go_wp2_with (at_builtin; refine Lib.wpList_append_run _ rfl _ _ _ _ rfl _ _ rfl rfl _ _ happ ?_; refine Paused.out ?_)
          refine ⟨?_⟩
          clear happ z0
          go_wp2
          go_roundw
          case rel => exact ⟨k + 1, by omega, by go_num, HB9, ⟨by rw [HTk.out]; exact HO9.out⟩, HC'⟩
          case measure => simp [intOf]; omega
      · obtain rfl : k = n := by omega
        have hkn' : ¬ (k : Int) < k := by omega
        have htk : l.take k = l := List.take_of_length_le (by rw [← HLN.out]; exact Nat.le_refl _)
        rw [htk] at HC
        have HF : Hold (ANS = 0) := ⟨by rw [← HANS2.out, if_pos HC.out]⟩
        clear htk
        go_wp2
        go_ret
        exact ⟨by rw [HF.out]; rfl, HB.out⟩

end Go.Proofs.Ytceihmiiapnmnaa
