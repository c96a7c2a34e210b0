/- A key out of a secret is the document's: the law. -/
import Derived.Test.YtnpobaaaoelalaaDoorMacD
import Derived.Test.YtnpobaaaoelalaaDoorMacK
namespace Go.Proofs.YtnpobaaaoelalaaDoor
open Go Go.RowKit Go.Proofs.YtnpobaaaoelalaaDoor.Flow

set_option maxHeartbeats 4000000 in
set_option maxRecDepth 1000000 in
theorem derives_calls (w : World) (hT0 : Tabs w) (pk ps pi : Option Addr) (nk ns ni ck cs ci : Nat) (key sec info : List Nat) (a : Int) (hK : PartOk w ⟨pk, nk, ck, key⟩) (hS : PartOk w ⟨ps, ns, cs, sec⟩) (hI : PartOk w ⟨pi, ni, ci, info⟩)
    (zk : pk = none → ck = 0) (zs : ps = none → cs = 0) (zi : pi = none → ci = 0) :
    Calls Tryd.prog 5 #[.slice pk nk ck, .slice ps ns cs, .slice pi ni ci, .int .i64 a] w fun e w' => e = .returned (.bool true) ∧ Below w.heap.size w w' := by
  have HK : Hold _ := ⟨hK⟩
  have HS : Hold _ := ⟨hS⟩
  have HI : Hold _ := ⟨hI⟩
  have HZ : Hold ((pk = none → ck = 0) ∧ (ps = none → cs = 0) ∧ (pi = none → ci = 0)) := ⟨⟨zk, zs, zi⟩⟩
  clear hK hS hI zk zs zi
  have HL1 : Hold (∀ w0, Below w.heap.size w w0 → PartsIn (w0.alloc (.cells #[.slice pk nk ck, .slice ps ns cs, .slice pi ni ci] 25)) (some ⟨w0.heap.size, 0, none⟩) 3 3 [⟨pk, nk, ck, key⟩, ⟨ps, ns, cs, sec⟩, ⟨pi, ni, ci, info⟩]) := ⟨fun w0 hb => parts3 w0 ⟨pk, nk, ck, key⟩ ⟨ps, ns, cs, sec⟩ ⟨pi, ni, ci, info⟩ (HK.out.below hb) (HS.out.below hb) (HI.out.below hb)⟩
  have HL2 : Hold (∀ w0, Below w.heap.size w w0 → Below w.heap.size w (w0.alloc (.cells #[.slice pk nk ck, .slice ps ns cs, .slice pi ni ci] 25))) := ⟨fun w0 hb => bstepS hb ((Below.refl _ _).alloc (Nat.le_refl _) _)⟩
  by_cases hs : nk ≤ 500 ∧ ns ≤ 500 ∧ ni ≤ 500
  · obtain ⟨s1, s2, s3⟩ := hs
    have e1 : fewB [⟨pk, nk, ck, key⟩, ⟨ps, ns, cs, sec⟩, ⟨pi, ni, ci, info⟩] = true := by simp [fewB, s1, s2, s3]
    obtain ⟨u, hu⟩ : ∃ u : Nat, a % 18446744073709551616 = (u : Int) := ⟨(a % 18446744073709551616).toNat, by omega⟩
    have hu' : IntKind.u64.wrap a = (u : Int) := hu
    obtain ⟨n, hn⟩ : ∃ n : Nat, (u : Int) % 200 = (n : Int) := ⟨u % 200, by omega⟩
    have hn2 : n ≤ 199 := by omega
    have hu64 : (u : Int) < 18446744073709551616 := by omega
    go_enter Tryd.func5, Tryd.ntmps5
    go_wp2_with fail
    refine (lives4_calls w hT0).mono ?_
    rintro e w0 ⟨rfl, hb0⟩
    go_wp2_with fail
    refine (few_calls _ _ _ _ _ (HL1.out w0 hb0)).mono ?_
    rintro e w00 ⟨rfl, rfl⟩
    rw [e1]
    have hb1 := HL2.out w0 hb0
    generalize w0.alloc (.cells #[.slice pk nk ck, .slice ps ns cs, .slice pi ni ci] 25) = w1 at *
    clear hb0 HL1 HL2 e1
    go_wp2_with fail
    refine (derive_calls w1 pk nk ck key ps ns cs sec pi ni ci info n (hT0.below hb1 hT0.size) (HK.out.below hb1) (HS.out.below hb1) (HI.out.below hb1) (by omega)).mono ?_
    rintro e w3 ⟨p, rfl, hr2, _, hb2, hz2⟩
    have hbw := bstepS hb1 hb2
    obtain ⟨Z, hZ⟩ : ∃ Z, (exps (hmac key sec) info ((n + 31) / 32)).take n = Z := ⟨_, rfl⟩
    have HZe : Hold ((exps (hmac key sec) info ((n + 31) / 32)).take n = Z) := ⟨hZ⟩
    rw [hZ] at hr2
    obtain ⟨S, hSS⟩ : ∃ S, strOf Z = S := ⟨_, rfl⟩
    have HSS : Hold _ := ⟨hSS⟩
    obtain ⟨S2, hS2⟩ : ∃ S, strOf (hmac key sec) = S := ⟨_, rfl⟩
    have HS2 : Hold _ := ⟨hS2⟩
    have HR : Hold _ := ⟨hr2⟩
    have HT : Hold (Tabs w3) := ⟨hT0.below hbw hT0.size⟩
    have HK2 : Hold _ := ⟨HK.out.below hbw⟩
    have HS3 : Hold _ := ⟨HS.out.below hbw⟩
    have HI2 : Hold _ := ⟨HI.out.below hbw⟩
    clear hZ hSS hS2 hr2 hz2 hb2 hb1 HK HI HS hu hu' hn hT0
    go_wp2
    refine wp_region_duties (by kernel_rfl) (by kernel_rfl)
      [some (.int .i64 0), some (.bool true), some (.bool true), some (.slice p n n), some (.string S), some (.slice pk nk ck), some (.slice ps ns cs), some (.slice pi ni ci), some (.int .i64 (n : Nat)), none, some (.string S), some (.bool true), some (.bool true), some (.bool true),
       some (.slice pk nk ck), some (.slice ps ns cs), none, some (.string S2), some (.slice pk nk ck), some (.slice ps ns cs), none, some (.string S2), some (.bool true), some (.bool true), some (.bool true)]
      [false, false, false, false, false, false, false, false, false, true, false, false, false, false, false, false, true, false, false, false, true, false, false, false, false] rfl
      (fun w1 w2 => Below w1.heap.size w1 w2) (fun _ w' => Below w3.heap.size w3 w')
      (fun i v w' => match i with
        | 9 => OwnIs 0 Z v w'
        | 16 => SumIs (tagged key sec) v w'
        | 20 => OwnIs 0 (hmac key sec) v w'
        | _ => True)
      ?_ ((Below.refl _ _).drew) ?_ ?_
    · intro i v w1 w2 hf hb
      split at hf
      · exact hf.below hb
      · exact hf.below hb
      · exact hf.below hb
      · trivial
    · simp only [Duties, Nat.reduceAdd]
      refine ⟨?_, ?_, ?_, ?_, ?_, ?_, ?_, ?_, ?_, ?_, ?_, ?_, ?_, ?_, ?_, ?_, ?_, ?_, ?_, ?_, ?_, ?_, ?_, ?_, ?_, trivial⟩
      case refine_5 =>
        intro D sp w' hD hW hdp hG
        have k := convert_in (HR.out.below hG)
        rw [HSS.out] at k
        (with_reducible refine asked_value (v := .string S) (w1 := w') ?_ ?_ ⟨rfl, rfl⟩)
        · simp [Region.wanted, yielded, Act.put, go_sem]
        · simp [execOp, Act.eval, Act.put, go_sem, k]
      case refine_10 =>
        intro D sp w' hD hW hdp hG
        (with_reducible refine asked_call (w1 := w') (f := 20) (args := #[.slice pk nk ck, .slice ps ns cs, .slice pi ni ci, .int .i64 (n : Nat)]) ?_ ?_ ?_)
        · simp [Region.wanted, yielded, Act.put, go_sem]
        · simp [Act.eval, Act.put, go_sem]
        · refine (refderive_calls w' pk nk ck key ps ns cs sec pi ni ci info n (HK2.out.below hG) HZ.out.1 (HS3.out.below hG) HZ.out.2.1 (HI2.out.below hG) HZ.out.2.2 (by omega) (by omega) (by omega) (by omega)).mono ?_
          rintro e w5 ⟨v, rfl, ho, hb⟩
          rw [HZe.out] at ho
          exact ⟨_, rfl, hb, ho.zero, bstepS hG hb⟩
      case refine_11 =>
        intro D sp w' hD hW hdp hG
        have hf : OwnIs 0 Z (sp 9) w' := (hdp 9 (List.mem_of_elem_eq_true (by kernel_rfl))).2
        (with_reducible refine hf.elim (fun p' c' hv hr _ _ => ?_))
        clear hf
        have k := convert_in hr
        rw [HSS.out] at k
        (with_reducible refine asked_value (v := .string S) (w1 := w') ?_ ?_ ⟨rfl, rfl⟩)
        · simp [Region.wanted, yielded, Act.put, go_sem]
        · simp [execOp, Act.eval, Act.put, go_sem, hv, k]
      case refine_17 =>
        intro D sp w' hD hW hdp hG
        (with_reducible refine asked_call (w1 := w') (f := 21) (args := #[.slice pk nk ck, .slice ps ns cs]) ?_ ?_ ?_)
        · simp [Region.wanted, yielded, Act.put, go_sem]
        · simp [Act.eval, Act.put, go_sem]
        · refine (extract_calls w' pk nk ck key ps ns cs sec (HT.out.below hG HT.out.size) (HK2.out.below hG) (HS3.out.below hG)).mono ?_
          rintro e w5 ⟨q5, rfl, hq, hb, hk⟩
          exact ⟨_, rfl, hb, SumIs.mk q5 _ hk, bstepS hG hb⟩
      case refine_18 =>
        intro D sp w' hD hW hdp hG
        have hf : SumIs (tagged key sec) (sp 16) w' := (hdp 16 (List.mem_of_elem_eq_true (by kernel_rfl))).2
        (with_reducible refine hf.elim (fun q hv hp => ?_))
        clear hf
        have k : _ = Result.ok (Value.string (strOf (hmac key sec))) w' := convert_row hp
        rw [HS2.out] at k
        (with_reducible refine asked_value (v := .string S2) (w1 := w') ?_ ?_ ⟨rfl, rfl⟩)
        · simp [Region.wanted, yielded, Act.put, go_sem]
        · simp [execOp, Act.eval, Act.put, go_sem, hv, k]
      case refine_21 =>
        intro D sp w' hD hW hdp hG
        (with_reducible refine asked_call (w1 := w') (f := 22) (args := #[.slice pk nk ck, .slice ps ns cs]) ?_ ?_ ?_)
        · simp [Region.wanted, yielded, Act.put, go_sem]
        · simp [Act.eval, Act.put, go_sem]
        · refine (reftag_calls w' pk nk ck key ps ns cs sec (HK2.out.below hG).row HK2.out.bytes HZ.out.1 (by omega) (HS3.out.below hG) HZ.out.2.1 (by omega)).mono ?_
          rintro e w5 ⟨v, rfl, ho, hb⟩
          exact ⟨_, rfl, hb, ho.zero, bstepS hG hb⟩
      case refine_22 =>
        intro D sp w' hD hW hdp hG
        have hf : OwnIs 0 (hmac key sec) (sp 20) w' := (hdp 20 (List.mem_of_elem_eq_true (by kernel_rfl))).2
        (with_reducible refine hf.elim (fun p' c' hv hr _ _ => ?_))
        clear hf
        have k := convert_in hr
        rw [HS2.out] at k
        (with_reducible refine asked_value (v := .string S2) (w1 := w') ?_ ?_ ⟨rfl, rfl⟩)
        · simp [Region.wanted, yielded, Act.put, go_sem]
        · simp [execOp, Act.eval, Act.put, go_sem, hv, k]
      all_goals
        intro D sp w' hD hW hdp hG
        simp [asked, Region.wanted, yielded, Oper.gives, execOp, Act.eval, Act.put, go_sem]
    · intro sp w' hsp hG
      clear hsp
      simp only [frameOf, Nat.reduceAdd]
      generalize sp 9 = u9'
      generalize sp 16 = u16'
      generalize sp 20 = u20'
      go_simp
      go_wp2
      go_ret
      exact ⟨rfl, bstepS hbw hG⟩
  · have e1 : fewB [⟨pk, nk, ck, key⟩, ⟨ps, ns, cs, sec⟩, ⟨pi, ni, ci, info⟩] = false := by simp [fewB]; omega
    go_enter Tryd.func5, Tryd.ntmps5
    go_wp2_with fail
    refine (lives4_calls w hT0).mono ?_
    rintro e w0 ⟨rfl, hb0⟩
    go_wp2_with fail
    refine (few_calls _ _ _ _ _ (HL1.out w0 hb0)).mono ?_
    rintro e w00 ⟨rfl, rfl⟩
    rw [e1]
    have hb1 := HL2.out w0 hb0
    generalize w0.alloc (.cells #[.slice pk nk ck, .slice ps ns cs, .slice pi ni ci] 25) = w1 at *
    clear hb0 HL1 HL2 e1
    go_wp2_with fail
    refine (lives4_calls _ (hT0.below hb1 hT0.size)).mono ?_
    rintro e w4 ⟨rfl, hb4⟩
    go_wp2
    go_ret
    exact ⟨rfl, bstepS hb1 hb4⟩
end Go.Proofs.YtnpobaaaoelalaaDoor
