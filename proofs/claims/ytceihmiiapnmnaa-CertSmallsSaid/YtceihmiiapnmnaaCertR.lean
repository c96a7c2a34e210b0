/- CertFronts, walked. -/
import Derived.Test.YtceihmiiapnmnaaCertQ
namespace Go.Proofs.Ytceihmiiapnmnaa
open Go Go.RowKit Go.Proofs.Ytceihmiiapnmnaa.Flow
set_option maxRecDepth 100000

set_option maxHeartbeats 4000000 in
set_option maxRecDepth 100000 in
open Classical in
theorem cfronts_calls (hh : HoldsDoes) (hk : CheckDoes) (w : World) (p : Option Addr) (m c : Nat) (l : List StepN) (h : ClaimsIn w p m c l) (A : Int) (hA : -9223372036854775808 ≤ A ∧ A ≤ 9223372036854775807)
    (s : StepN) (q : Option Addr) (z d : Nat) (hr : RowIn w .u64 q z d s.ps) (hu : U64 s.n ∧ U64 s.base ∧ ∀ x ∈ s.ps, U64 x) :
    Calls Try.prog 6 #[.slice p m c, .int .i64 A, .agg #[.int .u64 (s.n : Nat), .int .u64 (s.base : Nat), .slice q z d]] w fun e w' => e = .returned (.bool true) ∧ Below w.heap.size w w' := by
  have HH : Hold _ := ⟨hh⟩
  have HK : Hold _ := ⟨hk⟩
  have HC : Hold _ := ⟨h⟩
  have HLn : Hold _ := ⟨h.len⟩
  have HAr : Hold _ := ⟨hA⟩
  have HR : Hold _ := ⟨hr⟩
  have HU : Hold _ := ⟨hu⟩
  have HZ : Hold _ := ⟨hr.len⟩
  have hzm : z ≤ 9223372036854775807 := Nat.le_trans hr.cap hr.max
  have b0 : Below w.heap.size w (w.alloc (.cells #[.int .u64 (s.n : Nat), .int .u64 (s.base : Nat), .slice q z d] 35)) := (Below.refl _ _).alloc (Nat.le_refl _) _
  have k0 := Box3.made 35 w (.int .u64 (s.n : Nat)) (.int .u64 (s.base : Nat)) (.slice q z d)
  have HK0 : Hold _ := ⟨k0⟩
  have HB0 : Hold _ := ⟨b0⟩
  obtain ⟨K, hK1, hK2⟩ : ∃ K : Nat, wrap64 ((IntKind.u64.wrap A).tmod ((m : Int) + 1)) = K ∧ K ≤ m := by
    have hm8 : m ≤ 9223372036854775807 := Nat.le_trans h.cap h.max
    have hU : 0 ≤ IntKind.u64.wrap A := Int.emod_nonneg _ (by decide)
    rw [Int.tmod_eq_emod_of_nonneg hU]
    have h1 := Int.emod_nonneg (IntKind.u64.wrap A) (show ((m : Int) + 1) ≠ 0 by omega)
    have h2 := Int.emod_lt_of_pos (IntKind.u64.wrap A) (show (0 : Int) < (m : Int) + 1 by omega)
    obtain ⟨K, hK⟩ := Int.eq_ofNat_of_zero_le h1
    refine ⟨K, ?_, by omega⟩
    rw [hK]
    unfold wrap64
    omega
  have HK1 : Hold _ := ⟨hK1⟩
  clear hK1
  clear hh hk h hA hr hu b0 k0
  by_cases hf : FewP l
  · have HF : Hold _ := ⟨hf⟩
    have hl8 := hf.1
    have hmm : m ≤ 8 := by have := HLn.out; omega
    clear hf
    by_cases h40 : 40 < z
    · have h40' : (40 : Int) < z := by omega
      go_enter Try.func6, Try.ntmps6
      go_wp2_with fail
      refine (lives8_calls HH.out _).mono ?_
      rintro en w1 ⟨rfl, b1⟩
      have B1 : Hold _ := ⟨bstep HB0.out b1⟩
      have K1 : Hold _ := ⟨HK0.out.below b1 HK0.out.lt⟩
      clear b1 HK0 HB0
      go_wp2_with fail
      refine (few8_calls w1 p m c l (HC.out.below B1.out)).mono ?_
      rintro en w2 ⟨rfl, b2⟩
      rw [@decide_eq_true _ (Classical.propDecidable _) HF.out]
      have B2 : Hold _ := ⟨bstep B1.out b2⟩
      have K2 : Hold _ := ⟨K1.out.below b2 K1.out.lt⟩
      have c2 := K2.out.cells.2.2
      clear b2 K1 B1
      go_wp2_with fail
      clear c2
      refine (lives8_calls HH.out w2).mono ?_
      rintro en w3 ⟨rfl, b3⟩
      have B3 : Hold _ := ⟨bstep B2.out b3⟩
      clear b3
      go_wp2
      go_ret
      exact ⟨rfl, B3.out⟩
    · have h40' : ¬ (40 : Int) < z := by omega
      go_enter Try.func6, Try.ntmps6
      go_wp2_with fail
      refine (lives8_calls HH.out _).mono ?_
      rintro en w1 ⟨rfl, b1⟩
      have B1 : Hold _ := ⟨bstep HB0.out b1⟩
      have K1 : Hold _ := ⟨HK0.out.below b1 HK0.out.lt⟩
      clear b1 HK0 HB0
      go_wp2_with fail
      refine (few8_calls w1 p m c l (HC.out.below B1.out)).mono ?_
      rintro en w2 ⟨rfl, b2⟩
      rw [@decide_eq_true _ (Classical.propDecidable _) HF.out]
      have B2 : Hold _ := ⟨bstep B1.out b2⟩
      have K2 : Hold _ := ⟨K1.out.below b2 K1.out.lt⟩
      have c2 := K2.out.cells.2.2
      clear b2 K1 B1
      go_wp2_with fail
      clear c2
      refine (chain_calls w2 p m c l (HC.out.below B2.out) HF.out).mono ?_
      rintro en w3 ⟨p1, c1, p2, c2, rfl, h1, _, b3⟩
      rw [← HLn.out] at h1 ⊢
      have B3 : Hold _ := ⟨bstep B2.out b3⟩
      have K3 : Hold _ := ⟨K2.out.below b3 K2.out.lt⟩
      have HS3 : Hold _ := ⟨h1⟩
      clear b3 h1 K2 B2
      go_wp2_with fail
      rw [HK1.out]
      refine (HK.out w3 p1 m c1 l HS3.out.up (by omega) (fun s hs => by have := HF.out.2 s hs; omega) (fun s hs _ => by have := HC.out.u64 s hs; exact this)).mono ?_
      rintro en w4 ⟨rfl, b4⟩
      rw [if_neg (not_long HC.out.u64)]
      have B4 : Hold _ := ⟨bstep B3.out b4⟩
      have K4 : Hold _ := ⟨K3.out.below b4 K3.out.lt⟩
      have HS4 : Hold _ := ⟨HS3.out.below b4⟩
      have hc1 : m ≤ c1 := HS3.out.cap
      have hc2 : c1 ≤ 9223372036854775807 := HS3.out.max
      clear b4 K3 B3
      by_cases hch : ChainP [] l
      · rw [if_pos hch]
        have HCF : Hold _ := ⟨chain_front hch K⟩
        clear hch
        go_wp2_with fail
        refine (HK.out w4 p1 K c1 (l.take K) (HS4.out.take K hK2).up (by omega) (fun s hs => by have := HF.out.2 s (List.mem_of_mem_take hs); omega) (fun s hs _ => by have := HC.out.u64 s (List.mem_of_mem_take hs); exact this)).mono ?_
        rintro en w5 ⟨rfl, b5⟩
        rw [if_neg (not_long fun s hs => HC.out.u64 s (List.mem_of_mem_take hs)), if_pos HCF.out]
        have B5 : Hold _ := ⟨bstep B4.out b5⟩
        have K5 : Hold _ := ⟨K4.out.below b5 K4.out.lt⟩
        have HS5 : Hold _ := ⟨HS4.out.below b5⟩
        clear b5 K4 B4 HS4 HCF
        have ck0 := K5.out.cells.1
        have ck1 := K5.out.cells.2.1
        have ck2 := K5.out.cells.2.2
        go_wp2_with fail
        clear ck0 ck1 ck2
        refine (step_calls w5 s q z d (HR.out.below B5.out) HU.out (by omega)).mono ?_
        rintro en w6 ⟨x, y, v, x', y', v', rfl, b6, F1, _⟩
        dsimp only [trip]
        have b7 : Below w6.heap.size w6 ((w6.alloc (.cells #[.slice x.1 x.2.1 x.2.2, .slice y.1 y.2.1 y.2.2, .slice v.1 v.2.1 v.2.2] 52)).alloc (.cells #[.slice x'.1 x'.2.1 x'.2.2, .slice y'.1 y'.2.1 y'.2.2, .slice v'.1 v'.2.1 v'.2.2] 55)) :=
          bstep ((Below.refl _ _).alloc (Nat.le_refl _) _) ((Below.refl _ _).alloc (Nat.le_refl _) _)
        have k7 := (Box3.made 52 w6 (.slice x.1 x.2.1 x.2.2) (.slice y.1 y.2.1 y.2.2) (.slice v.1 v.2.1 v.2.2)).below (w' := (w6.alloc (.cells #[.slice x.1 x.2.1 x.2.2, .slice y.1 y.2.1 y.2.2, .slice v.1 v.2.1 v.2.2] 52)).alloc (.cells #[.slice x'.1 x'.2.1 x'.2.2, .slice y'.1 y'.2.1 y'.2.2, .slice v'.1 v'.2.1 v'.2.2] 55)) ((Below.refl _ _).alloc (Nat.le_refl _) _) (by simp)
        obtain ⟨w7, hw7⟩ : ∃ W, (w6.alloc (.cells #[.slice x.1 x.2.1 x.2.2, .slice y.1 y.2.1 y.2.2, .slice v.1 v.2.1 v.2.2] 52)).alloc (.cells #[.slice x'.1 x'.2.1 x'.2.2, .slice y'.1 y'.2.1 y'.2.2, .slice v'.1 v'.2.1 v'.2.2] 55) = W := ⟨_, rfl⟩
        rw [hw7] at b7 k7
        have HW7 : Hold _ := ⟨hw7⟩
        have B7 : Hold _ := ⟨bstep (bstep B5.out b6) b7⟩
        have HS7 : Hold _ := ⟨HS5.out.below (bstep b6 b7)⟩
        have HF7 : Hold (PStep 2 s x y v w7) := ⟨F1 w7 ⟨b7.size, fun b hb _ => b7.block b hb⟩⟩
        have K7 : Hold _ := ⟨k7⟩
        clear hw7 b6 b7 k7 F1 HS5 B5 K5
        go_wp2
        rw [HW7.out]
        clear HW7
        go_loopw [11, 62] (fun av iv wr => ∃ k : Nat, k ≤ K ∧ iv = .int .i64 k ∧ Hold (OwnV NatAt 43 w7.heap.size (fun g => w7.heap.size ≤ g) wr av ((l.take k).map (·.n))) ∧ Hold (Below w7.heap.size w7 wr)) (fun _ iv _ => K - (intOf iv).toNat)
        case atStart => exact ⟨0, by omega, rfl, ⟨OwnV.nil⟩, ⟨Below.refl _ _⟩⟩
        case round =>
          obtain ⟨k, hk, rfl, HO, HBr⟩ := hrel
          by_cases hkK : k < K
          · obtain ⟨S, hSk⟩ : ∃ s, l[k]? = some s := ⟨l[k]'(by rw [← HLn.out]; omega), List.getElem?_eq_getElem _⟩
            obtain ⟨b, off, rfl, hb, hc⟩ := HS7.out.at_ (by omega)
            obtain ⟨q0, m0, d0, q1, m1, d1, q2, m2, d2, k0, k1, k2, k3, _⟩ := hc k S hSk
            have hcc : ∀ o, wr.cell? ⟨b, o, none⟩ = w7.cell? ⟨b, o, none⟩ := fun o => HBr.out.cell (p := ⟨b, o, none⟩) hb
            rw [← hcc] at k0 k1 k2
            have fm : Firm (fun w => NatAt w q0 m0 d0 S.n) (fun g => w7.heap.size ≤ g) wr := (natStands.firm k3 fun q hq hx => by have := natStands.lt k3 q hq; omega).step (.of HBr.out)
            have HTm : Hold ((l.take (k + 1)).map (·.n) = (l.take k).map (·.n) ++ [S.n]) := ⟨by rw [snoc_take hSk]; simp⟩
            have HTl : Hold (((l.take k).map (·.n)).length ≤ 1000000) := ⟨by rw [List.length_map, List.length_take]; omega⟩
            have b8 : Below wr.heap.size wr ((wr.alloc (.cells #[.slice q0 m0 d0, .slice q1 m1 d1, .slice q2 m2 d2] 52)).alloc (.cells #[.slice q0 m0 d0] 43)) :=
              bstep ((Below.refl _ _).alloc (Nat.le_refl _) _) ((Below.refl _ _).alloc (Nat.le_refl _) _)
            have c8 : ((wr.alloc (.cells #[.slice q0 m0 d0, .slice q1 m1 d1, .slice q2 m2 d2] 52)).alloc (.cells #[.slice q0 m0 d0] 43)).cell? ⟨wr.heap.size + 1, 0, none⟩ = some (.slice q0 m0 d0) := by
              have := made_cell (wr.alloc (.cells #[.slice q0 m0 d0, .slice q1 m1 d1, .slice q2 m2 d2] 52)) (.slice q0 m0 d0) 43
              rwa [show (wr.alloc (.cells #[.slice q0 m0 d0, .slice q1 m1 d1, .slice q2 m2 d2] 52)).heap.size = wr.heap.size + 1 by simp] at this
            obtain ⟨w8, hw8⟩ : ∃ W, (wr.alloc (.cells #[.slice q0 m0 d0, .slice q1 m1 d1, .slice q2 m2 d2] 52)).alloc (.cells #[.slice q0 m0 d0] 43) = W := ⟨_, rfl⟩
            rw [hw8] at b8 c8
            have HW8 : Hold _ := ⟨hw8⟩
            obtain ⟨i1, hi1, hz1, hs1, hb1⟩ := info_parts Try.info_Nat
            have hB8 := bstepS HBr.out b8
            obtain ⟨v9, w9, happ, ho9, hg9, _⟩ := (HO.out.below b8).app Try.underlying50 hi1 hz1 hs1 hb1 rfl (by decide) hB8.size (a := ⟨wr.heap.size + 1, 0, none⟩) (c := 1) (x := (q0, m0, d0)) (N := S.n) c8 (fm.step (.of b8)) (fun g hg => (HO.out.block g hg).1) HTl.out 50
            have HO9 : Hold _ := ⟨ho9⟩
            have HB9 : Hold (Below w7.heap.size w7 w9) := ⟨hB8.grown hg9 hB8.size fun g hg => (HO.out.block g hg).1⟩
            clear hc hSk k3 fm hcc b8 c8 hw8 hi1 hz1 hs1 hb1 hB8 ho9 hg9 HO HBr
            go_wp2_with (at_builtin; rw [HW8.out]; refine Lib.wpList_append_run _ rfl _ _ _ _ rfl _ _ rfl rfl _ _ happ ?_; refine Paused.out ?_)
            refine ⟨?_⟩
            clear happ HW8
            go_wp2
            go_roundw
            case rel => exact ⟨k + 1, by omega, by go_num, ⟨by rw [HTm.out]; exact HO9.out⟩, HB9⟩
            case measure => simp [intOf]; omega
          · obtain rfl : k = K := by omega
            have hbl : ((l.take k).map (·.n)).length = k := by rw [List.length_map, List.length_take]; have := HLn.out; omega
            obtain ⟨pb, cb, rfl, hpl⟩ := HO.out.plist (e := 2) (fun N hN => by
              obtain ⟨s', hs', rfl⟩ := List.mem_map.1 hN
              exact (HC.out.u64 s' (List.mem_of_mem_take hs')).1)
            rw [hbl] at hpl
            rw [hbl]
            have HPL : Hold _ := ⟨hpl⟩
            have K8 : Hold _ := ⟨K7.out.below HBr.out K7.out.lt⟩
            have B8 : Hold _ := ⟨bstep B7.out HBr.out⟩
            have HF8 : Hold (PStep 2 s x y v wr) := ⟨⟨HF7.out.n.below HBr.out, HF7.out.base.below HBr.out, HF7.out.ps.below HBr.out⟩⟩
            have HS8 : Hold _ := ⟨HS7.out.below HBr.out⟩
            have e0 := K8.out.cells.1
            have e1 := K8.out.cells.2.1
            have e2 := K8.out.cells.2.2
            have HVL : Hold (v.2.1 ≤ 1000) := ⟨by rw [HF8.out.ps.len, ← HZ.out]; omega⟩
            clear hpl hbl HO HBr HF7 HS7 K7 B7
            go_wp2_with fail
            clear e0 e1 e2
            refine (HH.out wr s.n s.base _ _ _ _ _ _ _ _ _ s.ps _ _ _ _ HF8.out.n HU.out.1 HF8.out.base HU.out.2.1 HF8.out.ps HPL.out HVL.out (by omega)).mono ?_
            rintro en w9 ⟨rfl, b9⟩
            have B9 : Hold _ := ⟨bstep B8.out b9⟩
            have K9 : Hold _ := ⟨K8.out.below b9 K8.out.lt⟩
            have HS9 : Hold _ := ⟨HS8.out.below b9⟩
            have HF9 : Hold (PStep 2 s x y v w9) := ⟨⟨HF8.out.n.below b9, HF8.out.base.below b9, HF8.out.ps.below b9⟩⟩
            clear b9 HF8 HS8 K8 B8 HPL
            by_cases hho : HoldsP s.n s.base s.ps ((l.take k).map (·.n))
            · rw [@decide_eq_true _ (Classical.propDecidable _) hho]
              clear hho
              go_wp2
              go_ret
              exact ⟨rfl, B9.out⟩
            · rw [@decide_eq_false _ (Classical.propDecidable _) hho]
              have HNC : Hold _ := ⟨chain_bad hho⟩
              clear hho
              go_wp2
              obtain ⟨i1, hi1, hz1, hs1, hb1⟩ := info_parts Try.info_CStep
              have II : Hold (_ ∧ _ ∧ _ ∧ _) := ⟨⟨hi1, hz1, hs1, hb1⟩⟩
              have SRC1 : Hold _ := ⟨(HS9.out.take k hK2).src⟩
              have SRC2 : Hold _ := ⟨HS9.out.srcBack k hK2⟩
              have FS : Hold _ := ⟨HF9.out.firm⟩
              have SLF : Hold _ := ⟨slice_frontS HS9.out hK2⟩
              have SLB : Hold _ := ⟨slice_backS p1 (c := c1) hK2⟩
              have HLs : Hold ((l.take k).length ≤ 8 ∧ (l.drop k).length ≤ 8) := ⟨by rw [List.length_take, List.length_drop]; omega⟩
              clear hi1 hz1 hs1 hb1 HS9 HF9
              refine wp_region_dutiesS (by kernel_rfl) (by kernel_rfl)
                [none, some (.slice p1 m c1), some (.int .i64 (k : Nat)), some (.slice p1 k c1), none, some (trip x y v), none, none, some (.slice p1 m c1), some (.int .i64 (k : Nat)), some (backV p1 m c1 k), none, none]
                [true, false, false, false, true, false, true, true, false, false, false, true, true] rfl
                (fun _ _ => True) (fun D sp w' => LayG 52 w9 (l.take k) (l.drop k) s x y v (D 0) (D 4) (D 6) (D 7) (D 11) (D 12) (sp 0) (sp 4) (sp 6) (sp 7) (sp 11) (sp 12) w') (fun _ _ _ => True) (fun _ _ _ _ h _ => h)
                LayG.start ?_ ?_
              · simp only [DutiesS, Nat.reduceAdd]
                refine ⟨?_, ?_, ?_, ?_, ?_, ?_, ?_, ?_, ?_, ?_, ?_, ?_, ?_, trivial⟩
                case refine_1 =>
                  intro D sp w' hD hW hdp hG
                  rw [hD] at hG
                  have d4 := hG.f4
                  rw [d4] at hG
                  have d7 := hG.f7
                  rw [d7] at hG
                  have d11 := hG.f11
                  rw [d11] at hG
                  (with_reducible refine asked_value (w1 := w'.alloc (.cells #[] 52)) (v := .slice (some ⟨w'.heap.size, 0, none⟩) 0 0) ?_ ?_ ?_)
                  · simp only [Region.wanted]
                  · simp [execOp, Act.eval, Act.put, go_sem]
                  · exact ⟨trivial, trivial, by simpa [upd, d4, d7, d11] using hG.put0⟩
                case refine_4 =>
                  intro D sp w' hD hW hdp hG
                  have sl := SLF.out w'
                  simp [asked, Region.wanted, Oper.gives, execOp, Act.eval, Act.put, sl, Result.andThen]
                case refine_11 =>
                  intro D sp w' hD hW hdp hG
                  have sl := SLB.out w'
                  simp [asked, Region.wanted, Oper.gives, execOp, Act.eval, Act.put, sl, Result.andThen]
                case refine_6 =>
                  intro D sp w' hD hW hdp hG
                  have kk := K9.out.below hG.bel K9.out.lt
                  have e0 := kk.cells.1
                  have e1 := kk.cells.2.1
                  have e2 := kk.cells.2.2
                  simp [asked, Region.wanted, Oper.gives, execOp, Act.eval, Act.put, go_sem, e0, e1, e2]
                case refine_5 =>
                  intro D sp w' hD hW hdp hG
                  have d0 : D 0 = true := (hdp 0 (List.mem_of_elem_eq_true (by kernel_rfl))).1
                  rw [hD, d0] at hG
                  have d7 := hG.f7
                  rw [d7] at hG
                  have d11 := hG.f11
                  rw [d11] at hG
                  (with_reducible refine OwnT.apps (u := .slice p1 k c1) (r := l.take k) Try.underlying26 II.out.1 II.out.2.1 II.out.2.2.1 II.out.2.2.2 rfl (by decide) (hG.zero rfl rfl) hG.bel.size (SRC1.out.below hG.bel) (fun g hg => ((hG.zero rfl rfl).block g hg).1) (by have := HLs.out; simp only [List.length_nil]; omega) 26 (fun v' w5 hr ho hgr => ?_))
                  have hN := hG.put4 (by rw [List.nil_append] at ho; exact ho) hgr
                  (with_reducible refine asked_value (w1 := w5) (v := v') ?_ ?_ ?_)
                  · simp only [Region.wanted]
                  · simp [execOp, resolve, invoke, builtin, Act.eval, Act.put, hr, Result.andThen]
                  · exact ⟨trivial, trivial, by simpa [upd, d0, d7, d11] using hN⟩
                case refine_7 =>
                  intro D sp w' hD hW hdp hG
                  rw [hD] at hG
                  have d7 := hG.f7'
                  rw [d7] at hG
                  have d11 := hG.f11
                  rw [d11] at hG
                  (with_reducible refine asked_value (w1 := w'.alloc (.cells #[.slice x.1 x.2.1 x.2.2, .slice y.1 y.2.1 y.2.2, .slice v.1 v.2.1 v.2.2] 52)) (v := .slice (some ⟨w'.heap.size, 0, none⟩) 1 1) ?_ ?_ ?_)
                  · simp only [Region.wanted]
                  · simp [execOp, Act.eval, Act.put, go_sem]
                  · exact ⟨trivial, trivial, by simpa [upd, d7, d11] using hG.put6⟩
                case refine_8 =>
                  intro D sp w' hD hW hdp hG
                  have d4 : D 4 = true := (hdp 4 (List.mem_of_elem_eq_true (by kernel_rfl))).1
                  have d6 : D 6 = true := (hdp 6 (List.mem_of_elem_eq_true (by kernel_rfl))).1
                  rw [hD, d4, d6] at hG
                  have d0 := hG.o4 rfl
                  have d11 := hG.f11
                  rw [d0, d11] at hG
                  (with_reducible refine Exists.elim (hG.six rfl rfl) fun g hg => ?_)
                  have hs6 : Src (fun g => w9.heap.size ≤ g) w' (sp 6) [s] := by rw [hg.1]; exact hg.2.src (FS.out.step (.of hG.bel))
                  (with_reducible refine OwnT.apps (u := sp 6) (r := [s]) Try.underlying26 II.out.1 II.out.2.1 II.out.2.2.1 II.out.2.2.2 rfl (by decide) (hG.four rfl rfl) hG.bel.size hs6 (fun g hg => ((hG.four rfl rfl).block g hg).1) (by have := HLs.out; simp only [List.length_cons, List.length_nil]; omega) 26 (fun v' w5 hr ho hgr => ?_))
                  have hN := hG.put7 ho hgr
                  (with_reducible refine asked_value (w1 := w5) (v := v') ?_ ?_ ?_)
                  · simp only [Region.wanted]
                  · simp [execOp, resolve, invoke, builtin, Act.eval, Act.put, hr, Result.andThen]
                  · exact ⟨trivial, trivial, by simpa [upd, d0, d4, d6, d11] using hN⟩
                case refine_12 =>
                  intro D sp w' hD hW hdp hG
                  have d7 : D 7 = true := (hdp 7 (List.mem_of_elem_eq_true (by kernel_rfl))).1
                  have d12 : D 12 = false := hW 12 (List.mem_of_elem_eq_true (by kernel_rfl))
                  rw [hD, d7, d12] at hG
                  have d46 := hG.o7 rfl
                  have d4 := d46.1
                  have d6 := d46.2
                  rw [d4, d6] at hG
                  have d0 := hG.o4 rfl
                  rw [d0] at hG
                  (with_reducible refine OwnT.apps (u := backV p1 m c1 k) (r := l.drop k) Try.underlying26 II.out.1 II.out.2.1 II.out.2.2.1 II.out.2.2.2 rfl (by decide) (hG.seven rfl rfl) hG.bel.size (SRC2.out.below hG.bel) (fun g hg => ((hG.seven rfl rfl).block g hg).1) (by have := HLs.out; simp only [List.length_append, List.length_cons, List.length_nil]; omega) 26 (fun v' w5 hr ho hgr => ?_))
                  have hN := hG.put11 ho hgr
                  (with_reducible refine asked_value (w1 := w5) (v := v') ?_ ?_ ?_)
                  · simp only [Region.wanted]
                  · simp [execOp, resolve, invoke, builtin, Act.eval, Act.put, hr, Result.andThen]
                  · exact ⟨trivial, trivial, by simpa [upd, d0, d4, d6, d7, d12] using hN⟩
                case refine_13 =>
                  intro D sp w' hD hW hdp hG
                  have d11 : D 11 = true := (hdp 11 (List.mem_of_elem_eq_true (by kernel_rfl))).1
                  rw [hD, d11] at hG
                  have hN := hG.put12
                  (with_reducible refine asked_value (w1 := w') (v := sp 11) ?_ ?_ ?_)
                  · simp only [Region.wanted]
                  · simp [execOp, Act.eval, Act.put, go_sem]
                  · exact ⟨trivial, trivial, by simpa [upd, d11] using hN⟩
                all_goals
                  intro D sp w' hD hW hdp hG
                  simp [asked, Region.wanted, Oper.gives, execOp, Act.eval, Act.put, go_sem]
              · intro sp wA hsp hG
                simp only [frameOf, Nat.reduceAdd]
                have hbel := hG.bel
                have hps := (hG.elev rfl).psteps (fun s' hs' => by
                  rcases List.mem_append.1 hs' with h1 | h1
                  · rcases List.mem_append.1 h1 with h2 | h2
                    · have := HC.out.u64 s' (List.mem_of_mem_take h2); exact ⟨this.1, this.2.1⟩
                    · rw [List.mem_singleton.1 h2]; exact ⟨HU.out.1, HU.out.2.1⟩
                  · have := HC.out.u64 s' (List.mem_of_mem_drop h1); exact ⟨this.1, this.2.1⟩)
                have htw := hG.twel rfl
                have hLL : Hold (∀ s' ∈ l.take k ++ [s] ++ l.drop k, (U64 s'.n ∧ U64 s'.base ∧ ∀ x ∈ s'.ps, U64 x) ∧ s'.ps.length ≤ 40) := ⟨fun s' hs' => by
                  rcases List.mem_append.1 hs' with h1 | h1
                  · rcases List.mem_append.1 h1 with h2 | h2
                    · exact ⟨HC.out.u64 s' (List.mem_of_mem_take h2), HF.out.2 s' (List.mem_of_mem_take h2)⟩
                    · rw [List.mem_singleton.1 h2]; exact ⟨HU.out, by rw [← HZ.out]; omega⟩
                  · exact ⟨HC.out.u64 s' (List.mem_of_mem_drop h1), HF.out.2 s' (List.mem_of_mem_drop h1)⟩⟩
                have hLn : (l.take k ++ [s] ++ l.drop k).length ≤ 20 := by have := HLs.out; simp only [List.length_append, List.length_cons, List.length_nil]; omega
                obtain ⟨LL, eLL⟩ : ∃ LL, l.take k ++ [s] ++ l.drop k = LL := ⟨_, rfl⟩
                rw [eLL] at hps hLL hLn HNC
                clear eLL
                obtain ⟨nf, enf⟩ : ∃ n, LL.length = n := ⟨_, rfl⟩
                rw [enf] at hps hLn
                clear enf
                (with_reducible refine Exists.elim hps fun pf hps1 => ?_)
                (with_reducible refine Exists.elim hps1 fun cf hps2 => ?_)
                rw [hps2.1] at htw
                rw [htw]
                have HPF : Hold _ := ⟨hps2.2⟩
                have BA : Hold _ := ⟨bstep B9.out hbel⟩
                clear hbel hps hps1 hps2 htw hsp hG K9 SRC1 SRC2 FS SLF SLB II
                generalize sp 0 = y0
                generalize sp 4 = y4
                generalize sp 6 = y6
                generalize sp 7 = y7
                generalize sp 11 = y11
                go_simp
                have bL := Box3.made 52 wA (.slice none 0 0) (.slice none 0 0) (.slice none 0 0)
                have bb1 : Below wA.heap.size wA (wA.alloc (.cells #[.slice none 0 0, .slice none 0 0, .slice none 0 0] 52)) := (Below.refl _ _).alloc (Nat.le_refl _) _
                have bb2 : Below (wA.alloc (.cells #[.slice none 0 0, .slice none 0 0, .slice none 0 0] 52)).heap.size (wA.alloc (.cells #[.slice none 0 0, .slice none 0 0, .slice none 0 0] 52)) ((wA.alloc (.cells #[.slice none 0 0, .slice none 0 0, .slice none 0 0] 52)).alloc (.cells #[.int .u8 1] 5)) := (Below.refl _ _).alloc (Nat.le_refl _) _
                have hsz1 : (wA.alloc (.cells #[.slice none 0 0, .slice none 0 0, .slice none 0 0] 52)).heap.size = wA.heap.size + 1 := by simp
                have cc := made_cell (wA.alloc (.cells #[.slice none 0 0, .slice none 0 0, .slice none 0 0] 52)) (.int .u8 1) 5
                rw [hsz1] at cc
                obtain ⟨wB, ewB⟩ : ∃ W, (wA.alloc (.cells #[.slice none 0 0, .slice none 0 0, .slice none 0 0] 52)).alloc (.cells #[.int .u8 1] 5) = W := ⟨_, rfl⟩
                have hlB : wA.heap.size + 1 < wB.heap.size := by rw [← ewB]; simp
                rw [ewB] at bb2 cc
                have BL2 := bL.below bb2 bL.lt
                have bAB : Below wA.heap.size wA wB := bstep bb1 bb2
                have HEB : Hold _ := ⟨ewB⟩
                have hrow : RowIn wB .u8 (some ⟨wA.heap.size + 1, 0, none⟩) 1 1 [1] := ⟨rfl, Nat.le_refl _, by omega, fun _ => ⟨rfl, Nat.le_refl _, by omega, .inr ⟨_, 0, rfl, hlB, fun i x hx => by
                  cases i with
                  | zero => simp at hx; subst hx; exact cc
                  | succ i => simp at hx⟩⟩⟩
                have HRow : Hold _ := ⟨hrow⟩
                have HBL2 : Hold _ := ⟨BL2⟩
                have HAB : Hold _ := ⟨bAB⟩
                clear hsz1 cc hlB ewB bb1 bb2 bL BL2 bAB hrow
                go_wp2_with fail
                rw [HEB.out]
                clear HEB
                refine (fromBytes_calls wB _ 1 1 [1] HRow.out (fun x hx => by simp at hx; omega) (by decide)).mono ?_
                rintro en wC ⟨qx, mx, dx, rfl, hx, bC, _⟩
                have bxC := HBL2.out.below bC HBL2.out.lt
                have cC0 := bxC.cells.1
                have fC0 := bxC.free 0
                have bxD := bxC.set0 (.slice qx mx dx)
                have hkD := KeptS.set bxC.cells.1 (.slice qx mx dx)
                have hxD : NatAt (wC.setCell ⟨wA.heap.size, 0, none⟩ (.slice qx mx dx)) qx mx dx 1 := natLike.kept hx hkD
                have bD : Below wA.heap.size wA (wC.setCell ⟨wA.heap.size, 0, none⟩ (.slice qx mx dx)) := (bstepS HAB.out bC).setCell (Nat.le_refl _) _
                obtain ⟨wD, ewD⟩ : ∃ W, wC.setCell ⟨wA.heap.size, 0, none⟩ (.slice qx mx dx) = W := ⟨_, rfl⟩
                rw [ewD] at bxD hxD bD
                have HED : Hold _ := ⟨ewD⟩
                have HBD : Hold _ := ⟨bxD⟩
                have HXD : Hold _ := ⟨hxD⟩
                have HbD : Hold _ := ⟨bD⟩
                clear hx bC bxC bxD hkD hxD bD ewD HBL2 HAB HRow
                go_wp2_with fail
                rw [HED.out]
                clear HED cC0 fC0
                refine (nat_fit 9223372036854775808 wD (by decide)).mono ?_
                rintro en wE ⟨qy, my, dy, rfl, hy, bE⟩
                have bxE := HBD.out.below bE HBD.out.lt
                have cE1 := bxE.cells.2.1
                have fE1 := bxE.free 1
                have bxF := bxE.set1 (.slice qy my dy)
                have hkF := KeptS.set bxE.cells.2.1 (.slice qy my dy)
                have HLG : Hold (LongG 52 wA 0 (qx, mx, dx) (qy, my, dy) (wE.setCell ⟨wA.heap.size, 1, none⟩ (.slice qy my dy))) :=
                  ⟨(bstepS HbD.out bE).setCell (Nat.le_refl _) _, bxF, natLike.kept (HXD.out.below bE) hkF, natLike.kept hy hkF⟩
                clear hy bE bxE bxF hkF HBD HXD HbD
                go_wp2
                clear cE1 fE1
                go_loopw [95] (fun iv wr => ∃ i : Nat, i ≤ 5 ∧ iv = .int .i64 i ∧ ∃ ys : Option Addr × Nat × Nat, Hold (LongG 52 wA i (qx, mx, dx) ys wr)) (fun iv _ => 5 - (intOf iv).toNat)
                case atStart => exact ⟨0, by omega, rfl, _, HLG⟩
                case round =>
                  clear HLG
                  obtain ⟨i, hi, rfl, ys, HG⟩ := hrel
                  have g1 := HG.out.box.cells.2.1
                  by_cases hi5 : i < 5
                  · have hi5' : (i : Int) < 5 := by omega
                    have h2i : 2 ^ i ≤ 32 := by
                      have : 2 ^ i ≤ 2 ^ 5 := Nat.pow_le_pow_right (by omega) (by omega)
                      omega
                    have HM : Hold (2 * 2 ^ i ≤ 900000) := ⟨by omega⟩
                    clear h2i
                    go_wp2_with fail
                    clear g1
                    refine (mul_fit (Fit.of HG.out.sq (sq63_high i)) (Fit.of HG.out.sq (sq63_high i)) HM.out HM.out).mono ?_
                    rintro en wG ⟨xv, rfl, hxv, bG⟩
                    obtain ⟨qz, mz, dz, rfl, hz, _⟩ := hxv
                    have bxG := HG.out.box.below bG HG.out.box.lt
                    have cG1 := bxG.cells.2.1
                    have fG1 := bxG.free 1
                    have HG2 : Hold _ := ⟨HG.out.step (z := (qz, mz, dz)) bG hz⟩
                    clear hz bG bxG HG HM
                    go_wp2
                    go_roundw
                    case rel => exact ⟨i + 1, by omega, by go_num, _, HG2⟩
                    case measure => simp [intOf]; omega
                  · obtain rfl : i = 5 := by omega
                    clear g1
                    have HPE : Hold _ := ⟨HPF.out.below HG.out.bel⟩
                    go_wp2_with fail
                    refine (HK.out wr pf nf cf LL HPE.out.up (by omega) (fun s' hs' => by have := (hLL.out s' hs').2; omega) (fun s' hs' _ => (hLL.out s' hs').1)).mono ?_
                    rintro en wH ⟨rfl, bH⟩
                    rw [if_neg (not_long fun s' hs' => (hLL.out s' hs').1), if_neg HNC.out]
                    have bxH := HG.out.box.below bH HG.out.box.lt
                    have cH0 := bxH.cells.1
                    have cH1 := bxH.cells.2.1
                    have cH2 := bxH.cells.2.2
                    have BH : Hold _ := ⟨bstep (bstep BA.out HG.out.bel) bH⟩
                    have HGH : Hold (LongG 52 wA 5 (qx, mx, dx) ys wH) := ⟨⟨bstepS HG.out.bel bH, bxH, HG.out.one.below bH, HG.out.sq.below bH⟩⟩
                    have bI : Below wH.heap.size wH (wH.alloc (.cells #[.slice qx mx dx, .slice ys.1 ys.2.1 ys.2.2, .slice none 0 0] 52)) := (Below.refl _ _).alloc (Nat.le_refl _) _
                    have hgI := heap_alloc_new wH (.cells #[.slice qx mx dx, .slice ys.1 ys.2.1 ys.2.2, .slice none 0 0] 52)
                    have HPI : Hold (PSteps (wH.alloc (.cells #[.slice qx mx dx, .slice ys.1 ys.2.1 ys.2.2, .slice none 0 0] 52)) 200 (some ⟨wH.heap.size, 0, none⟩) 1 1 [longS]) :=
                      ⟨LongG.psteps (wA := wA) (t := 52) ⟨bstepS HGH.out.bel bI, HGH.out.box.below bI HGH.out.box.lt, HGH.out.one.below bI, HGH.out.sq.below bI⟩ hgI⟩
                    have BI : Hold _ := ⟨bstep BH.out bI⟩
                    clear bxH bH bI hgI HG HPE
                    go_wp2_with fail
                    clear cH0 cH1 cH2
                    refine (HK.out _ _ 1 1 [longS] HPI.out (by decide) (fun s' hs' => by rw [List.mem_singleton.1 hs']; exact Nat.zero_le _) (fun s' hs' hn => absurd longS_long (by rw [List.mem_singleton.1 hs'] at hn; exact hn))).mono ?_
                    rintro en wJ ⟨rfl, bJ⟩
                    rw [if_pos ⟨longS, List.mem_singleton.2 rfl, longS_long⟩]
                    have BJ : Hold _ := ⟨bstep BI.out bJ⟩
                    clear bJ
                    go_wp2
                    go_ret
                    exact ⟨rfl, BJ.out⟩
      · rw [if_neg hch]
        clear hch
        obtain ⟨w5, rfl⟩ : ∃ W, W = w4 := ⟨_, rfl⟩
        have B5 := B4
        have K5 := K4
        have HS5 := HS4
        clear K4 B4 HS4
        have ck0 := K5.out.cells.1
        have ck1 := K5.out.cells.2.1
        have ck2 := K5.out.cells.2.2
        go_wp2_with fail
        clear ck0 ck1 ck2
        refine (step_calls w5 s q z d (HR.out.below B5.out) HU.out (by omega)).mono ?_
        rintro en w6 ⟨x, y, v, x', y', v', rfl, b6, F1, _⟩
        dsimp only [trip]
        have b7 : Below w6.heap.size w6 ((w6.alloc (.cells #[.slice x.1 x.2.1 x.2.2, .slice y.1 y.2.1 y.2.2, .slice v.1 v.2.1 v.2.2] 52)).alloc (.cells #[.slice x'.1 x'.2.1 x'.2.2, .slice y'.1 y'.2.1 y'.2.2, .slice v'.1 v'.2.1 v'.2.2] 55)) :=
          bstep ((Below.refl _ _).alloc (Nat.le_refl _) _) ((Below.refl _ _).alloc (Nat.le_refl _) _)
        have k7 := (Box3.made 52 w6 (.slice x.1 x.2.1 x.2.2) (.slice y.1 y.2.1 y.2.2) (.slice v.1 v.2.1 v.2.2)).below (w' := (w6.alloc (.cells #[.slice x.1 x.2.1 x.2.2, .slice y.1 y.2.1 y.2.2, .slice v.1 v.2.1 v.2.2] 52)).alloc (.cells #[.slice x'.1 x'.2.1 x'.2.2, .slice y'.1 y'.2.1 y'.2.2, .slice v'.1 v'.2.1 v'.2.2] 55)) ((Below.refl _ _).alloc (Nat.le_refl _) _) (by simp)
        obtain ⟨w7, hw7⟩ : ∃ W, (w6.alloc (.cells #[.slice x.1 x.2.1 x.2.2, .slice y.1 y.2.1 y.2.2, .slice v.1 v.2.1 v.2.2] 52)).alloc (.cells #[.slice x'.1 x'.2.1 x'.2.2, .slice y'.1 y'.2.1 y'.2.2, .slice v'.1 v'.2.1 v'.2.2] 55) = W := ⟨_, rfl⟩
        rw [hw7] at b7 k7
        have HW7 : Hold _ := ⟨hw7⟩
        have B7 : Hold _ := ⟨bstep (bstep B5.out b6) b7⟩
        have HS7 : Hold _ := ⟨HS5.out.below (bstep b6 b7)⟩
        have HF7 : Hold (PStep 2 s x y v w7) := ⟨F1 w7 ⟨b7.size, fun b hb _ => b7.block b hb⟩⟩
        have K7 : Hold _ := ⟨k7⟩
        clear hw7 b6 b7 k7 F1 HS5 B5 K5
        go_wp2
        rw [HW7.out]
        clear HW7
        go_loopw [11, 62] (fun av iv wr => ∃ k : Nat, k ≤ K ∧ iv = .int .i64 k ∧ Hold (OwnV NatAt 43 w7.heap.size (fun g => w7.heap.size ≤ g) wr av ((l.take k).map (·.n))) ∧ Hold (Below w7.heap.size w7 wr)) (fun _ iv _ => K - (intOf iv).toNat)
        case atStart => exact ⟨0, by omega, rfl, ⟨OwnV.nil⟩, ⟨Below.refl _ _⟩⟩
        case round =>
          obtain ⟨k, hk, rfl, HO, HBr⟩ := hrel
          by_cases hkK : k < K
          · obtain ⟨S, hSk⟩ : ∃ s, l[k]? = some s := ⟨l[k]'(by rw [← HLn.out]; omega), List.getElem?_eq_getElem _⟩
            obtain ⟨b, off, rfl, hb, hc⟩ := HS7.out.at_ (by omega)
            obtain ⟨q0, m0, d0, q1, m1, d1, q2, m2, d2, k0, k1, k2, k3, _⟩ := hc k S hSk
            have hcc : ∀ o, wr.cell? ⟨b, o, none⟩ = w7.cell? ⟨b, o, none⟩ := fun o => HBr.out.cell (p := ⟨b, o, none⟩) hb
            rw [← hcc] at k0 k1 k2
            have fm : Firm (fun w => NatAt w q0 m0 d0 S.n) (fun g => w7.heap.size ≤ g) wr := (natStands.firm k3 fun q hq hx => by have := natStands.lt k3 q hq; omega).step (.of HBr.out)
            have HTm : Hold ((l.take (k + 1)).map (·.n) = (l.take k).map (·.n) ++ [S.n]) := ⟨by rw [snoc_take hSk]; simp⟩
            have HTl : Hold (((l.take k).map (·.n)).length ≤ 1000000) := ⟨by rw [List.length_map, List.length_take]; omega⟩
            have b8 : Below wr.heap.size wr ((wr.alloc (.cells #[.slice q0 m0 d0, .slice q1 m1 d1, .slice q2 m2 d2] 52)).alloc (.cells #[.slice q0 m0 d0] 43)) :=
              bstep ((Below.refl _ _).alloc (Nat.le_refl _) _) ((Below.refl _ _).alloc (Nat.le_refl _) _)
            have c8 : ((wr.alloc (.cells #[.slice q0 m0 d0, .slice q1 m1 d1, .slice q2 m2 d2] 52)).alloc (.cells #[.slice q0 m0 d0] 43)).cell? ⟨wr.heap.size + 1, 0, none⟩ = some (.slice q0 m0 d0) := by
              have := made_cell (wr.alloc (.cells #[.slice q0 m0 d0, .slice q1 m1 d1, .slice q2 m2 d2] 52)) (.slice q0 m0 d0) 43
              rwa [show (wr.alloc (.cells #[.slice q0 m0 d0, .slice q1 m1 d1, .slice q2 m2 d2] 52)).heap.size = wr.heap.size + 1 by simp] at this
            obtain ⟨w8, hw8⟩ : ∃ W, (wr.alloc (.cells #[.slice q0 m0 d0, .slice q1 m1 d1, .slice q2 m2 d2] 52)).alloc (.cells #[.slice q0 m0 d0] 43) = W := ⟨_, rfl⟩
            rw [hw8] at b8 c8
            have HW8 : Hold _ := ⟨hw8⟩
            obtain ⟨i1, hi1, hz1, hs1, hb1⟩ := info_parts Try.info_Nat
            have hB8 := bstepS HBr.out b8
            obtain ⟨v9, w9, happ, ho9, hg9, _⟩ := (HO.out.below b8).app Try.underlying50 hi1 hz1 hs1 hb1 rfl (by decide) hB8.size (a := ⟨wr.heap.size + 1, 0, none⟩) (c := 1) (x := (q0, m0, d0)) (N := S.n) c8 (fm.step (.of b8)) (fun g hg => (HO.out.block g hg).1) HTl.out 50
            have HO9 : Hold _ := ⟨ho9⟩
            have HB9 : Hold (Below w7.heap.size w7 w9) := ⟨hB8.grown hg9 hB8.size fun g hg => (HO.out.block g hg).1⟩
            clear hc hSk k3 fm hcc b8 c8 hw8 hi1 hz1 hs1 hb1 hB8 ho9 hg9 HO HBr
            go_wp2_with (at_builtin; rw [HW8.out]; refine Lib.wpList_append_run _ rfl _ _ _ _ rfl _ _ rfl rfl _ _ happ ?_; refine Paused.out ?_)
            refine ⟨?_⟩
            clear happ HW8
            go_wp2
            go_roundw
            case rel => exact ⟨k + 1, by omega, by go_num, ⟨by rw [HTm.out]; exact HO9.out⟩, HB9⟩
            case measure => simp [intOf]; omega
          · obtain rfl : k = K := by omega
            have hbl : ((l.take k).map (·.n)).length = k := by rw [List.length_map, List.length_take]; have := HLn.out; omega
            obtain ⟨pb, cb, rfl, hpl⟩ := HO.out.plist (e := 2) (fun N hN => by
              obtain ⟨s', hs', rfl⟩ := List.mem_map.1 hN
              exact (HC.out.u64 s' (List.mem_of_mem_take hs')).1)
            rw [hbl] at hpl
            rw [hbl]
            have HPL : Hold _ := ⟨hpl⟩
            have K8 : Hold _ := ⟨K7.out.below HBr.out K7.out.lt⟩
            have B8 : Hold _ := ⟨bstep B7.out HBr.out⟩
            have HF8 : Hold (PStep 2 s x y v wr) := ⟨⟨HF7.out.n.below HBr.out, HF7.out.base.below HBr.out, HF7.out.ps.below HBr.out⟩⟩
            have HS8 : Hold _ := ⟨HS7.out.below HBr.out⟩
            have e0 := K8.out.cells.1
            have e1 := K8.out.cells.2.1
            have e2 := K8.out.cells.2.2
            have HVL : Hold (v.2.1 ≤ 1000) := ⟨by rw [HF8.out.ps.len, ← HZ.out]; omega⟩
            clear hpl hbl HO HBr HF7 HS7 K7 B7
            go_wp2_with fail
            clear e0 e1 e2
            refine (HH.out wr s.n s.base _ _ _ _ _ _ _ _ _ s.ps _ _ _ _ HF8.out.n HU.out.1 HF8.out.base HU.out.2.1 HF8.out.ps HPL.out HVL.out (by omega)).mono ?_
            rintro en w9 ⟨rfl, b9⟩
            have B9 : Hold _ := ⟨bstep B8.out b9⟩
            have K9 : Hold _ := ⟨K8.out.below b9 K8.out.lt⟩
            have HS9 : Hold _ := ⟨HS8.out.below b9⟩
            have HF9 : Hold (PStep 2 s x y v w9) := ⟨⟨HF8.out.n.below b9, HF8.out.base.below b9, HF8.out.ps.below b9⟩⟩
            clear b9 HF8 HS8 K8 B8 HPL
            by_cases hho : HoldsP s.n s.base s.ps ((l.take k).map (·.n))
            · rw [@decide_eq_true _ (Classical.propDecidable _) hho]
              clear hho
              go_wp2
              go_ret
              exact ⟨rfl, B9.out⟩
            · rw [@decide_eq_false _ (Classical.propDecidable _) hho]
              have HNC : Hold _ := ⟨chain_bad hho⟩
              clear hho
              go_wp2
              obtain ⟨i1, hi1, hz1, hs1, hb1⟩ := info_parts Try.info_CStep
              have II : Hold (_ ∧ _ ∧ _ ∧ _) := ⟨⟨hi1, hz1, hs1, hb1⟩⟩
              have SRC1 : Hold _ := ⟨(HS9.out.take k hK2).src⟩
              have SRC2 : Hold _ := ⟨HS9.out.srcBack k hK2⟩
              have FS : Hold _ := ⟨HF9.out.firm⟩
              have SLF : Hold _ := ⟨slice_frontS HS9.out hK2⟩
              have SLB : Hold _ := ⟨slice_backS p1 (c := c1) hK2⟩
              have HLs : Hold ((l.take k).length ≤ 8 ∧ (l.drop k).length ≤ 8) := ⟨by rw [List.length_take, List.length_drop]; omega⟩
              clear hi1 hz1 hs1 hb1 HS9 HF9
              refine wp_region_dutiesS (by kernel_rfl) (by kernel_rfl)
                [none, some (.slice p1 m c1), some (.int .i64 (k : Nat)), some (.slice p1 k c1), none, some (trip x y v), none, none, some (.slice p1 m c1), some (.int .i64 (k : Nat)), some (backV p1 m c1 k), none, none]
                [true, false, false, false, true, false, true, true, false, false, false, true, true] rfl
                (fun _ _ => True) (fun D sp w' => LayG 52 w9 (l.take k) (l.drop k) s x y v (D 0) (D 4) (D 6) (D 7) (D 11) (D 12) (sp 0) (sp 4) (sp 6) (sp 7) (sp 11) (sp 12) w') (fun _ _ _ => True) (fun _ _ _ _ h _ => h)
                LayG.start ?_ ?_
              · simp only [DutiesS, Nat.reduceAdd]
                refine ⟨?_, ?_, ?_, ?_, ?_, ?_, ?_, ?_, ?_, ?_, ?_, ?_, ?_, trivial⟩
                case refine_1 =>
                  intro D sp w' hD hW hdp hG
                  rw [hD] at hG
                  have d4 := hG.f4
                  rw [d4] at hG
                  have d7 := hG.f7
                  rw [d7] at hG
                  have d11 := hG.f11
                  rw [d11] at hG
                  (with_reducible refine asked_value (w1 := w'.alloc (.cells #[] 52)) (v := .slice (some ⟨w'.heap.size, 0, none⟩) 0 0) ?_ ?_ ?_)
                  · simp only [Region.wanted]
                  · simp [execOp, Act.eval, Act.put, go_sem]
                  · exact ⟨trivial, trivial, by simpa [upd, d4, d7, d11] using hG.put0⟩
                case refine_4 =>
                  intro D sp w' hD hW hdp hG
                  have sl := SLF.out w'
                  simp [asked, Region.wanted, Oper.gives, execOp, Act.eval, Act.put, sl, Result.andThen]
                case refine_11 =>
                  intro D sp w' hD hW hdp hG
                  have sl := SLB.out w'
                  simp [asked, Region.wanted, Oper.gives, execOp, Act.eval, Act.put, sl, Result.andThen]
                case refine_6 =>
                  intro D sp w' hD hW hdp hG
                  have kk := K9.out.below hG.bel K9.out.lt
                  have e0 := kk.cells.1
                  have e1 := kk.cells.2.1
                  have e2 := kk.cells.2.2
                  simp [asked, Region.wanted, Oper.gives, execOp, Act.eval, Act.put, go_sem, e0, e1, e2]
                case refine_5 =>
                  intro D sp w' hD hW hdp hG
                  have d0 : D 0 = true := (hdp 0 (List.mem_of_elem_eq_true (by kernel_rfl))).1
                  rw [hD, d0] at hG
                  have d7 := hG.f7
                  rw [d7] at hG
                  have d11 := hG.f11
                  rw [d11] at hG
                  (with_reducible refine OwnT.apps (u := .slice p1 k c1) (r := l.take k) Try.underlying26 II.out.1 II.out.2.1 II.out.2.2.1 II.out.2.2.2 rfl (by decide) (hG.zero rfl rfl) hG.bel.size (SRC1.out.below hG.bel) (fun g hg => ((hG.zero rfl rfl).block g hg).1) (by have := HLs.out; simp only [List.length_nil]; omega) 26 (fun v' w5 hr ho hgr => ?_))
                  have hN := hG.put4 (by rw [List.nil_append] at ho; exact ho) hgr
                  (with_reducible refine asked_value (w1 := w5) (v := v') ?_ ?_ ?_)
                  · simp only [Region.wanted]
                  · simp [execOp, resolve, invoke, builtin, Act.eval, Act.put, hr, Result.andThen]
                  · exact ⟨trivial, trivial, by simpa [upd, d0, d7, d11] using hN⟩
                case refine_7 =>
                  intro D sp w' hD hW hdp hG
                  rw [hD] at hG
                  have d7 := hG.f7'
                  rw [d7] at hG
                  have d11 := hG.f11
                  rw [d11] at hG
                  (with_reducible refine asked_value (w1 := w'.alloc (.cells #[.slice x.1 x.2.1 x.2.2, .slice y.1 y.2.1 y.2.2, .slice v.1 v.2.1 v.2.2] 52)) (v := .slice (some ⟨w'.heap.size, 0, none⟩) 1 1) ?_ ?_ ?_)
                  · simp only [Region.wanted]
                  · simp [execOp, Act.eval, Act.put, go_sem]
                  · exact ⟨trivial, trivial, by simpa [upd, d7, d11] using hG.put6⟩
                case refine_8 =>
                  intro D sp w' hD hW hdp hG
                  have d4 : D 4 = true := (hdp 4 (List.mem_of_elem_eq_true (by kernel_rfl))).1
                  have d6 : D 6 = true := (hdp 6 (List.mem_of_elem_eq_true (by kernel_rfl))).1
                  rw [hD, d4, d6] at hG
                  have d0 := hG.o4 rfl
                  have d11 := hG.f11
                  rw [d0, d11] at hG
                  (with_reducible refine Exists.elim (hG.six rfl rfl) fun g hg => ?_)
                  have hs6 : Src (fun g => w9.heap.size ≤ g) w' (sp 6) [s] := by rw [hg.1]; exact hg.2.src (FS.out.step (.of hG.bel))
                  (with_reducible refine OwnT.apps (u := sp 6) (r := [s]) Try.underlying26 II.out.1 II.out.2.1 II.out.2.2.1 II.out.2.2.2 rfl (by decide) (hG.four rfl rfl) hG.bel.size hs6 (fun g hg => ((hG.four rfl rfl).block g hg).1) (by have := HLs.out; simp only [List.length_cons, List.length_nil]; omega) 26 (fun v' w5 hr ho hgr => ?_))
                  have hN := hG.put7 ho hgr
                  (with_reducible refine asked_value (w1 := w5) (v := v') ?_ ?_ ?_)
                  · simp only [Region.wanted]
                  · simp [execOp, resolve, invoke, builtin, Act.eval, Act.put, hr, Result.andThen]
                  · exact ⟨trivial, trivial, by simpa [upd, d0, d4, d6, d11] using hN⟩
                case refine_12 =>
                  intro D sp w' hD hW hdp hG
                  have d7 : D 7 = true := (hdp 7 (List.mem_of_elem_eq_true (by kernel_rfl))).1
                  have d12 : D 12 = false := hW 12 (List.mem_of_elem_eq_true (by kernel_rfl))
                  rw [hD, d7, d12] at hG
                  have d46 := hG.o7 rfl
                  have d4 := d46.1
                  have d6 := d46.2
                  rw [d4, d6] at hG
                  have d0 := hG.o4 rfl
                  rw [d0] at hG
                  (with_reducible refine OwnT.apps (u := backV p1 m c1 k) (r := l.drop k) Try.underlying26 II.out.1 II.out.2.1 II.out.2.2.1 II.out.2.2.2 rfl (by decide) (hG.seven rfl rfl) hG.bel.size (SRC2.out.below hG.bel) (fun g hg => ((hG.seven rfl rfl).block g hg).1) (by have := HLs.out; simp only [List.length_append, List.length_cons, List.length_nil]; omega) 26 (fun v' w5 hr ho hgr => ?_))
                  have hN := hG.put11 ho hgr
                  (with_reducible refine asked_value (w1 := w5) (v := v') ?_ ?_ ?_)
                  · simp only [Region.wanted]
                  · simp [execOp, resolve, invoke, builtin, Act.eval, Act.put, hr, Result.andThen]
                  · exact ⟨trivial, trivial, by simpa [upd, d0, d4, d6, d7, d12] using hN⟩
                case refine_13 =>
                  intro D sp w' hD hW hdp hG
                  have d11 : D 11 = true := (hdp 11 (List.mem_of_elem_eq_true (by kernel_rfl))).1
                  rw [hD, d11] at hG
                  have hN := hG.put12
                  (with_reducible refine asked_value (w1 := w') (v := sp 11) ?_ ?_ ?_)
                  · simp only [Region.wanted]
                  · simp [execOp, Act.eval, Act.put, go_sem]
                  · exact ⟨trivial, trivial, by simpa [upd, d11] using hN⟩
                all_goals
                  intro D sp w' hD hW hdp hG
                  simp [asked, Region.wanted, Oper.gives, execOp, Act.eval, Act.put, go_sem]
              · intro sp wA hsp hG
                simp only [frameOf, Nat.reduceAdd]
                have hbel := hG.bel
                have hps := (hG.elev rfl).psteps (fun s' hs' => by
                  rcases List.mem_append.1 hs' with h1 | h1
                  · rcases List.mem_append.1 h1 with h2 | h2
                    · have := HC.out.u64 s' (List.mem_of_mem_take h2); exact ⟨this.1, this.2.1⟩
                    · rw [List.mem_singleton.1 h2]; exact ⟨HU.out.1, HU.out.2.1⟩
                  · have := HC.out.u64 s' (List.mem_of_mem_drop h1); exact ⟨this.1, this.2.1⟩)
                have htw := hG.twel rfl
                have hLL : Hold (∀ s' ∈ l.take k ++ [s] ++ l.drop k, (U64 s'.n ∧ U64 s'.base ∧ ∀ x ∈ s'.ps, U64 x) ∧ s'.ps.length ≤ 40) := ⟨fun s' hs' => by
                  rcases List.mem_append.1 hs' with h1 | h1
                  · rcases List.mem_append.1 h1 with h2 | h2
                    · exact ⟨HC.out.u64 s' (List.mem_of_mem_take h2), HF.out.2 s' (List.mem_of_mem_take h2)⟩
                    · rw [List.mem_singleton.1 h2]; exact ⟨HU.out, by rw [← HZ.out]; omega⟩
                  · exact ⟨HC.out.u64 s' (List.mem_of_mem_drop h1), HF.out.2 s' (List.mem_of_mem_drop h1)⟩⟩
                have hLn : (l.take k ++ [s] ++ l.drop k).length ≤ 20 := by have := HLs.out; simp only [List.length_append, List.length_cons, List.length_nil]; omega
                obtain ⟨LL, eLL⟩ : ∃ LL, l.take k ++ [s] ++ l.drop k = LL := ⟨_, rfl⟩
                rw [eLL] at hps hLL hLn HNC
                clear eLL
                obtain ⟨nf, enf⟩ : ∃ n, LL.length = n := ⟨_, rfl⟩
                rw [enf] at hps hLn
                clear enf
                (with_reducible refine Exists.elim hps fun pf hps1 => ?_)
                (with_reducible refine Exists.elim hps1 fun cf hps2 => ?_)
                rw [hps2.1] at htw
                rw [htw]
                have HPF : Hold _ := ⟨hps2.2⟩
                have BA : Hold _ := ⟨bstep B9.out hbel⟩
                clear hbel hps hps1 hps2 htw hsp hG K9 SRC1 SRC2 FS SLF SLB II
                generalize sp 0 = y0
                generalize sp 4 = y4
                generalize sp 6 = y6
                generalize sp 7 = y7
                generalize sp 11 = y11
                go_simp
                have bL := Box3.made 52 wA (.slice none 0 0) (.slice none 0 0) (.slice none 0 0)
                have bb1 : Below wA.heap.size wA (wA.alloc (.cells #[.slice none 0 0, .slice none 0 0, .slice none 0 0] 52)) := (Below.refl _ _).alloc (Nat.le_refl _) _
                have bb2 : Below (wA.alloc (.cells #[.slice none 0 0, .slice none 0 0, .slice none 0 0] 52)).heap.size (wA.alloc (.cells #[.slice none 0 0, .slice none 0 0, .slice none 0 0] 52)) ((wA.alloc (.cells #[.slice none 0 0, .slice none 0 0, .slice none 0 0] 52)).alloc (.cells #[.int .u8 1] 5)) := (Below.refl _ _).alloc (Nat.le_refl _) _
                have hsz1 : (wA.alloc (.cells #[.slice none 0 0, .slice none 0 0, .slice none 0 0] 52)).heap.size = wA.heap.size + 1 := by simp
                have cc := made_cell (wA.alloc (.cells #[.slice none 0 0, .slice none 0 0, .slice none 0 0] 52)) (.int .u8 1) 5
                rw [hsz1] at cc
                obtain ⟨wB, ewB⟩ : ∃ W, (wA.alloc (.cells #[.slice none 0 0, .slice none 0 0, .slice none 0 0] 52)).alloc (.cells #[.int .u8 1] 5) = W := ⟨_, rfl⟩
                have hlB : wA.heap.size + 1 < wB.heap.size := by rw [← ewB]; simp
                rw [ewB] at bb2 cc
                have BL2 := bL.below bb2 bL.lt
                have bAB : Below wA.heap.size wA wB := bstep bb1 bb2
                have HEB : Hold _ := ⟨ewB⟩
                have hrow : RowIn wB .u8 (some ⟨wA.heap.size + 1, 0, none⟩) 1 1 [1] := ⟨rfl, Nat.le_refl _, by omega, fun _ => ⟨rfl, Nat.le_refl _, by omega, .inr ⟨_, 0, rfl, hlB, fun i x hx => by
                  cases i with
                  | zero => simp at hx; subst hx; exact cc
                  | succ i => simp at hx⟩⟩⟩
                have HRow : Hold _ := ⟨hrow⟩
                have HBL2 : Hold _ := ⟨BL2⟩
                have HAB : Hold _ := ⟨bAB⟩
                clear hsz1 cc hlB ewB bb1 bb2 bL BL2 bAB hrow
                go_wp2_with fail
                rw [HEB.out]
                clear HEB
                refine (fromBytes_calls wB _ 1 1 [1] HRow.out (fun x hx => by simp at hx; omega) (by decide)).mono ?_
                rintro en wC ⟨qx, mx, dx, rfl, hx, bC, _⟩
                have bxC := HBL2.out.below bC HBL2.out.lt
                have cC0 := bxC.cells.1
                have fC0 := bxC.free 0
                have bxD := bxC.set0 (.slice qx mx dx)
                have hkD := KeptS.set bxC.cells.1 (.slice qx mx dx)
                have hxD : NatAt (wC.setCell ⟨wA.heap.size, 0, none⟩ (.slice qx mx dx)) qx mx dx 1 := natLike.kept hx hkD
                have bD : Below wA.heap.size wA (wC.setCell ⟨wA.heap.size, 0, none⟩ (.slice qx mx dx)) := (bstepS HAB.out bC).setCell (Nat.le_refl _) _
                obtain ⟨wD, ewD⟩ : ∃ W, wC.setCell ⟨wA.heap.size, 0, none⟩ (.slice qx mx dx) = W := ⟨_, rfl⟩
                rw [ewD] at bxD hxD bD
                have HED : Hold _ := ⟨ewD⟩
                have HBD : Hold _ := ⟨bxD⟩
                have HXD : Hold _ := ⟨hxD⟩
                have HbD : Hold _ := ⟨bD⟩
                clear hx bC bxC bxD hkD hxD bD ewD HBL2 HAB HRow
                go_wp2_with fail
                rw [HED.out]
                clear HED cC0 fC0
                refine (nat_fit 9223372036854775808 wD (by decide)).mono ?_
                rintro en wE ⟨qy, my, dy, rfl, hy, bE⟩
                have bxE := HBD.out.below bE HBD.out.lt
                have cE1 := bxE.cells.2.1
                have fE1 := bxE.free 1
                have bxF := bxE.set1 (.slice qy my dy)
                have hkF := KeptS.set bxE.cells.2.1 (.slice qy my dy)
                have HLG : Hold (LongG 52 wA 0 (qx, mx, dx) (qy, my, dy) (wE.setCell ⟨wA.heap.size, 1, none⟩ (.slice qy my dy))) :=
                  ⟨(bstepS HbD.out bE).setCell (Nat.le_refl _) _, bxF, natLike.kept (HXD.out.below bE) hkF, natLike.kept hy hkF⟩
                clear hy bE bxE bxF hkF HBD HXD HbD
                go_wp2
                clear cE1 fE1
                go_loopw [95] (fun iv wr => ∃ i : Nat, i ≤ 5 ∧ iv = .int .i64 i ∧ ∃ ys : Option Addr × Nat × Nat, Hold (LongG 52 wA i (qx, mx, dx) ys wr)) (fun iv _ => 5 - (intOf iv).toNat)
                case atStart => exact ⟨0, by omega, rfl, _, HLG⟩
                case round =>
                  clear HLG
                  obtain ⟨i, hi, rfl, ys, HG⟩ := hrel
                  have g1 := HG.out.box.cells.2.1
                  by_cases hi5 : i < 5
                  · have hi5' : (i : Int) < 5 := by omega
                    have h2i : 2 ^ i ≤ 32 := by
                      have : 2 ^ i ≤ 2 ^ 5 := Nat.pow_le_pow_right (by omega) (by omega)
                      omega
                    have HM : Hold (2 * 2 ^ i ≤ 900000) := ⟨by omega⟩
                    clear h2i
                    go_wp2_with fail
                    clear g1
                    refine (mul_fit (Fit.of HG.out.sq (sq63_high i)) (Fit.of HG.out.sq (sq63_high i)) HM.out HM.out).mono ?_
                    rintro en wG ⟨xv, rfl, hxv, bG⟩
                    obtain ⟨qz, mz, dz, rfl, hz, _⟩ := hxv
                    have bxG := HG.out.box.below bG HG.out.box.lt
                    have cG1 := bxG.cells.2.1
                    have fG1 := bxG.free 1
                    have HG2 : Hold _ := ⟨HG.out.step (z := (qz, mz, dz)) bG hz⟩
                    clear hz bG bxG HG HM
                    go_wp2
                    go_roundw
                    case rel => exact ⟨i + 1, by omega, by go_num, _, HG2⟩
                    case measure => simp [intOf]; omega
                  · obtain rfl : i = 5 := by omega
                    clear g1
                    have HPE : Hold _ := ⟨HPF.out.below HG.out.bel⟩
                    go_wp2_with fail
                    refine (HK.out wr pf nf cf LL HPE.out.up (by omega) (fun s' hs' => by have := (hLL.out s' hs').2; omega) (fun s' hs' _ => (hLL.out s' hs').1)).mono ?_
                    rintro en wH ⟨rfl, bH⟩
                    rw [if_neg (not_long fun s' hs' => (hLL.out s' hs').1), if_neg HNC.out]
                    have bxH := HG.out.box.below bH HG.out.box.lt
                    have cH0 := bxH.cells.1
                    have cH1 := bxH.cells.2.1
                    have cH2 := bxH.cells.2.2
                    have BH : Hold _ := ⟨bstep (bstep BA.out HG.out.bel) bH⟩
                    have HGH : Hold (LongG 52 wA 5 (qx, mx, dx) ys wH) := ⟨⟨bstepS HG.out.bel bH, bxH, HG.out.one.below bH, HG.out.sq.below bH⟩⟩
                    have bI : Below wH.heap.size wH (wH.alloc (.cells #[.slice qx mx dx, .slice ys.1 ys.2.1 ys.2.2, .slice none 0 0] 52)) := (Below.refl _ _).alloc (Nat.le_refl _) _
                    have hgI := heap_alloc_new wH (.cells #[.slice qx mx dx, .slice ys.1 ys.2.1 ys.2.2, .slice none 0 0] 52)
                    have HPI : Hold (PSteps (wH.alloc (.cells #[.slice qx mx dx, .slice ys.1 ys.2.1 ys.2.2, .slice none 0 0] 52)) 200 (some ⟨wH.heap.size, 0, none⟩) 1 1 [longS]) :=
                      ⟨LongG.psteps (wA := wA) (t := 52) ⟨bstepS HGH.out.bel bI, HGH.out.box.below bI HGH.out.box.lt, HGH.out.one.below bI, HGH.out.sq.below bI⟩ hgI⟩
                    have BI : Hold _ := ⟨bstep BH.out bI⟩
                    clear bxH bH bI hgI HG HPE
                    go_wp2_with fail
                    clear cH0 cH1 cH2
                    refine (HK.out _ _ 1 1 [longS] HPI.out (by decide) (fun s' hs' => by rw [List.mem_singleton.1 hs']; exact Nat.zero_le _) (fun s' hs' hn => absurd longS_long (by rw [List.mem_singleton.1 hs'] at hn; exact hn))).mono ?_
                    rintro en wJ ⟨rfl, bJ⟩
                    rw [if_pos ⟨longS, List.mem_singleton.2 rfl, longS_long⟩]
                    have BJ : Hold _ := ⟨bstep BI.out bJ⟩
                    clear bJ
                    go_wp2
                    go_ret
                    exact ⟨rfl, BJ.out⟩
  · go_enter Try.func6, Try.ntmps6
    go_wp2_with fail
    refine (lives8_calls HH.out _).mono ?_
    rintro en w1 ⟨rfl, b1⟩
    have B1 : Hold _ := ⟨bstep HB0.out b1⟩
    have K1 : Hold _ := ⟨HK0.out.below b1 HK0.out.lt⟩
    clear b1 HK0 HB0
    go_wp2_with fail
    refine (few8_calls w1 p m c l (HC.out.below B1.out)).mono ?_
    rintro en w2 ⟨rfl, b2⟩
    rw [@decide_eq_false _ (Classical.propDecidable _) hf]
    have B2 : Hold _ := ⟨bstep B1.out b2⟩
    have K2 : Hold _ := ⟨K1.out.below b2 K1.out.lt⟩
    have c2 := K2.out.cells.2.2
    clear b2 K1 B1
    go_wp2_with fail
    clear c2
    refine (lives8_calls HH.out w2).mono ?_
    rintro en w3 ⟨rfl, b3⟩
    have B3 : Hold _ := ⟨bstep B2.out b3⟩
    clear b3
    go_wp2
    go_ret
    exact ⟨rfl, B3.out⟩

end Go.Proofs.Ytceihmiiapnmnaa
