/- So many bytes of any key are the document's, or refused as it says: the law. -/
import Derived.Test.YtpphjgljoapfpaaDoorRefE
namespace Go.Proofs.YtpphjgljoapfpaaDoor
open Go Go.RowKit Go.Proofs.YtpphjgljoapfpaaDoor.Flow

theorem expand_low (w : World) (u v : Value) (a : Int) (h : a < 0) : Calls Tryd.prog 27 #[u, v, .int .i64 a] w fun e w' => e = .returned (.tuple #[.slice none 0 0, .int .i64 1]) ∧ w' = w := by
  go_enter Tryd.func27, Tryd.ntmps27
  go_wp2
  exact bodyPost_ret (v := .tuple #[.slice none 0 0, .int .i64 1]) (by simp [results, Tryd.results27, go_sem]) rfl ⟨rfl, rfl⟩
theorem expand_high (w : World) (u v : Value) (a : Int) (h : 8160 < a) : Calls Tryd.prog 27 #[u, v, .int .i64 a] w fun e w' => e = .returned (.tuple #[.slice none 0 0, .int .i64 4]) ∧ w' = w := by
  have h0 : ¬ a < 0 := by omega
  go_enter Tryd.func27, Tryd.ntmps27
  go_wp2
  exact bodyPost_ret (v := .tuple #[.slice none 0 0, .int .i64 4]) (by simp [results, Tryd.results27, go_sem]) rfl ⟨rfl, rfl⟩
theorem asked_low (w : World) (a : Int) (h : a < 0) : Calls Tryd.prog 28 #[.int .i64 a] w fun e w' => e = .returned (.int .i64 1) ∧ w' = w := by
  go_enter Tryd.func28, Tryd.ntmps28
  go_wp2
  go_ret
  exact ⟨rfl, rfl⟩
theorem asked_high (w : World) (a : Int) (h : 8160 < a) : Calls Tryd.prog 28 #[.int .i64 a] w fun e w' => e = .returned (.int .i64 4) ∧ w' = w := by
  have h0 : ¬ a < 0 := by omega
  go_enter Tryd.func28, Tryd.ntmps28
  go_wp2
  go_ret
  exact ⟨rfl, rfl⟩
theorem asked_ok (w : World) (n : Nat) (h : n ≤ 8160) : Calls Tryd.prog 28 #[.int .i64 n] w fun e w' => e = .returned (.int .i64 0) ∧ w' = w := by
  go_enter Tryd.func28, Tryd.ntmps28
  go_wp2
  go_ret
  exact ⟨rfl, rfl⟩

set_option maxHeartbeats 4000000 in
set_option maxRecDepth 1000000 in
theorem expands_calls (w : World) (hT0 : Tabs w) (pk pi : Option Addr) (nk ni ck ci : Nat) (key info : List Nat) (a : Int) (hK : PartOk w ⟨pk, nk, ck, key⟩) (hI : PartOk w ⟨pi, ni, ci, info⟩) (zk : pk = none → ck = 0) (zi : pi = none → ci = 0) :
    Calls Tryd.prog 7 #[.slice pk nk ck, .slice pi ni ci, .int .i64 a] w fun e w' => e = .returned (.bool true) ∧ Below w.heap.size w w' := by
  have HK : Hold _ := ⟨hK⟩
  have HI : Hold _ := ⟨hI⟩
  have HZ : Hold ((pk = none → ck = 0) ∧ (pi = none → ci = 0)) := ⟨⟨zk, zi⟩⟩
  clear hK hI zk zi
  have HL1 : Hold (∀ w0, Below w.heap.size w w0 → PartsIn (w0.alloc (.cells #[.slice pk nk ck, .slice pi ni ci] 22)) (some ⟨w0.heap.size, 0, none⟩) 2 2 [⟨pk, nk, ck, key⟩, ⟨pi, ni, ci, info⟩]) := ⟨fun w0 hb => parts2 w0 ⟨pk, nk, ck, key⟩ ⟨pi, ni, ci, info⟩ (HK.out.below hb) (HI.out.below hb)⟩
  have HL2 : Hold (∀ w0, Below w.heap.size w w0 → Below w.heap.size w (w0.alloc (.cells #[.slice pk nk ck, .slice pi ni ci] 22))) := ⟨fun w0 hb => bstepS hb ((Below.refl _ _).alloc (Nat.le_refl _) _)⟩
  by_cases hs : nk ≤ 500 ∧ ni ≤ 500
  · obtain ⟨s1, s2⟩ := hs
    have e1 : fewB [⟨pk, nk, ck, key⟩, ⟨pi, ni, ci, info⟩] = true := by simp [fewB, s1, s2]
    by_cases h0 : a < 0
    · go_enter Tryd.func7, Tryd.ntmps7
      go_wp2_with fail
      refine (lives4_calls w hT0).mono ?_
      rintro e w0 ⟨rfl, hb0⟩
      go_wp2_with fail
      refine (few_calls _ _ _ _ _ (HL1.out w0 hb0)).mono ?_
      rintro e w00 ⟨rfl, rfl⟩
      rw [e1]
      have hb1 := HL2.out w0 hb0
      generalize w0.alloc (.cells #[.slice pk nk ck, .slice pi ni ci] 22) = w1 at *
      clear hb0 HL1 HL2 e1
      go_wp2_with fail
      refine (expand_low w1 _ _ a (by omega)).mono ?_
      rintro e w2 ⟨rfl, rfl⟩
      go_wp2_with fail
      refine (asked_low w2 a (by omega)).mono ?_
      rintro e w3 ⟨rfl, rfl⟩
      go_wp2
      go_ret
      exact ⟨rfl, hb1⟩
    · by_cases h1 : 8160 < a
      · go_enter Tryd.func7, Tryd.ntmps7
        go_wp2_with fail
        refine (lives4_calls w hT0).mono ?_
        rintro e w0 ⟨rfl, hb0⟩
        go_wp2_with fail
        refine (few_calls _ _ _ _ _ (HL1.out w0 hb0)).mono ?_
        rintro e w00 ⟨rfl, rfl⟩
        rw [e1]
        have hb1 := HL2.out w0 hb0
        generalize w0.alloc (.cells #[.slice pk nk ck, .slice pi ni ci] 22) = w1 at *
        clear hb0 HL1 HL2 e1
        go_wp2_with fail
        refine (expand_high w1 _ _ a (by omega)).mono ?_
        rintro e w2 ⟨rfl, rfl⟩
        go_wp2_with fail
        refine (asked_high w2 a (by omega)).mono ?_
        rintro e w3 ⟨rfl, rfl⟩
        go_wp2
        go_ret
        exact ⟨rfl, hb1⟩
      · by_cases h2 : 300 < a
        · go_enter Tryd.func7, Tryd.ntmps7
          go_wp2_with fail
          refine (lives4_calls w hT0).mono ?_
          rintro e w0 ⟨rfl, hb0⟩
          go_wp2_with fail
          refine (few_calls _ _ _ _ _ (HL1.out w0 hb0)).mono ?_
          rintro e w00 ⟨rfl, rfl⟩
          rw [e1]
          have hb1 := HL2.out w0 hb0
          generalize w0.alloc (.cells #[.slice pk nk ck, .slice pi ni ci] 22) = w1 at *
          clear hb0 HL1 HL2 e1
          go_wp2_with fail
          refine (expand_calls w1 pk nk ck key pi ni ci info 300 (hT0.below hb1 hT0.size) (HK.out.below hb1).row HK.out.bytes (HI.out.below hb1) (by omega)).mono ?_
          rintro e w2 ⟨p, rfl, hr2, _, hb2, hz2⟩
          have hbw := bstepS hb1 hb2
          go_wp2_with fail
          refine (asked_ok w2 300 (by omega)).mono ?_
          rintro e w3 ⟨rfl, rfl⟩
          obtain ⟨Z, hZ⟩ : ∃ Z, (exps key info ((300 + 31) / 32)).take 300 = Z := ⟨_, rfl⟩
          have HZe : Hold ((exps key info ((300 + 31) / 32)).take 300 = Z) := ⟨hZ⟩
          rw [hZ] at hr2
          obtain ⟨S, hS⟩ : ∃ S, strOf Z = S := ⟨_, rfl⟩
          have HS : Hold _ := ⟨hS⟩
          have HR : Hold _ := ⟨hr2⟩
          have HK2 : Hold _ := ⟨HK.out.below hbw⟩
          have HI2 : Hold _ := ⟨HI.out.below hbw⟩
          clear hZ hS hr2 hz2 hb2 hb1 HK HI
          go_wp2
          refine wp_region_duties (by kernel_rfl) (by kernel_rfl)
            [some (.int .i64 0), some (.bool true), some (.bool true), some (.slice p 300 300), some (.string S), some (.slice pk nk ck), some (.slice pi ni ci), some (.int .i64 300), none, some (.string S), some (.bool true), some (.bool true), some (.bool true)]
            [false, false, false, false, false, false, false, false, true, false, false, false, false] rfl
            (fun w1 w2 => Below w1.heap.size w1 w2) (fun _ w' => Below w3.heap.size w3 w')
            (fun i v w' => match i with
              | 8 => OwnIs 0 Z v w'
              | _ => True)
            ?_ ((Below.refl _ _).drew) ?_ ?_
          · intro i v w1 w2 hf hb
            split at hf
            · exact hf.below hb
            · trivial
          · simp only [Duties, Nat.reduceAdd]
            refine ⟨?_, ?_, ?_, ?_, ?_, ?_, ?_, ?_, ?_, ?_, ?_, ?_, ?_, trivial⟩
            case refine_5 =>
              intro D sp w' hD hW hdp hG
              have k := convert_in (HR.out.below hG)
              rw [HS.out] at k
              (with_reducible refine asked_value (v := .string S) (w1 := w') ?_ ?_ ⟨rfl, rfl⟩)
              · simp [Region.wanted, yielded, Act.put, go_sem]
              · simp [execOp, Act.eval, Act.put, go_sem, k]
            case refine_9 =>
              intro D sp w' hD hW hdp hG
              (with_reducible refine asked_call (w1 := w') (f := 29) (args := #[.slice pk nk ck, .slice pi ni ci, .int .i64 300]) ?_ ?_ ?_)
              · simp [Region.wanted, yielded, Act.put, go_sem]
              · simp [Act.eval, Act.put, go_sem]
              · refine (refexpand_calls w' pk nk ck key pi ni ci info 300 (HK2.out.below hG) HZ.out.1 (HI2.out.below hG) HZ.out.2 (by omega) (by omega) (by omega)).mono ?_
                rintro e w5 ⟨v, rfl, ho, hb⟩
                rw [HZe.out] at ho
                exact ⟨_, rfl, hb, ho.zero, bstepS hG hb⟩
            case refine_10 =>
              intro D sp w' hD hW hdp hG
              have hf : OwnIs 0 Z (sp 8) w' := (hdp 8 (List.mem_of_elem_eq_true (by kernel_rfl))).2
              (with_reducible refine hf.elim (fun p' c' hv hr _ _ => ?_))
              clear hf
              have k := convert_in hr
              rw [HS.out] at k
              (with_reducible refine asked_value (v := .string S) (w1 := w') ?_ ?_ ⟨rfl, rfl⟩)
              · simp [Region.wanted, yielded, Act.put, go_sem]
              · simp [execOp, Act.eval, Act.put, go_sem, hv, k]
            all_goals
              intro D sp w' hD hW hdp hG
              simp [asked, Region.wanted, yielded, Oper.gives, execOp, Act.eval, Act.put, go_sem]
          · intro sp w' hsp hG
            clear hsp
            simp only [frameOf, Nat.reduceAdd]
            generalize sp 8 = u8'
            go_simp
            go_wp2
            go_ret
            exact ⟨rfl, bstepS hbw hG⟩
        · obtain ⟨n, rfl⟩ : ∃ n : Nat, a = n := ⟨a.toNat, by omega⟩
          go_enter Tryd.func7, Tryd.ntmps7
          go_wp2_with fail
          refine (lives4_calls w hT0).mono ?_
          rintro e w0 ⟨rfl, hb0⟩
          go_wp2_with fail
          refine (few_calls _ _ _ _ _ (HL1.out w0 hb0)).mono ?_
          rintro e w00 ⟨rfl, rfl⟩
          rw [e1]
          have hb1 := HL2.out w0 hb0
          generalize w0.alloc (.cells #[.slice pk nk ck, .slice pi ni ci] 22) = w1 at *
          clear hb0 HL1 HL2 e1
          go_wp2_with fail
          refine (expand_calls w1 pk nk ck key pi ni ci info n (hT0.below hb1 hT0.size) (HK.out.below hb1).row HK.out.bytes (HI.out.below hb1) (by omega)).mono ?_
          rintro e w2 ⟨p, rfl, hr2, _, hb2, hz2⟩
          have hbw := bstepS hb1 hb2
          go_wp2_with fail
          refine (asked_ok w2 n (by omega)).mono ?_
          rintro e w3 ⟨rfl, rfl⟩
          obtain ⟨Z, hZ⟩ : ∃ Z, (exps key info ((n + 31) / 32)).take n = Z := ⟨_, rfl⟩
          have HZe : Hold ((exps key info ((n + 31) / 32)).take n = Z) := ⟨hZ⟩
          rw [hZ] at hr2
          obtain ⟨S, hS⟩ : ∃ S, strOf Z = S := ⟨_, rfl⟩
          have HS : Hold _ := ⟨hS⟩
          have HR : Hold _ := ⟨hr2⟩
          have HK2 : Hold _ := ⟨HK.out.below hbw⟩
          have HI2 : Hold _ := ⟨HI.out.below hbw⟩
          clear hZ hS hr2 hz2 hb2 hb1 HK HI
          go_wp2
          refine wp_region_duties (by kernel_rfl) (by kernel_rfl)
            [some (.int .i64 0), some (.bool true), some (.bool true), some (.slice p n n), some (.string S), some (.slice pk nk ck), some (.slice pi ni ci), some (.int .i64 (n : Nat)), none, some (.string S), some (.bool true), some (.bool true), some (.bool true)]
            [false, false, false, false, false, false, false, false, true, false, false, false, false] rfl
            (fun w1 w2 => Below w1.heap.size w1 w2) (fun _ w' => Below w3.heap.size w3 w')
            (fun i v w' => match i with
              | 8 => OwnIs 0 Z v w'
              | _ => True)
            ?_ ((Below.refl _ _).drew) ?_ ?_
          · intro i v w1 w2 hf hb
            split at hf
            · exact hf.below hb
            · trivial
          · simp only [Duties, Nat.reduceAdd]
            refine ⟨?_, ?_, ?_, ?_, ?_, ?_, ?_, ?_, ?_, ?_, ?_, ?_, ?_, trivial⟩
            case refine_5 =>
              intro D sp w' hD hW hdp hG
              have k := convert_in (HR.out.below hG)
              rw [HS.out] at k
              (with_reducible refine asked_value (v := .string S) (w1 := w') ?_ ?_ ⟨rfl, rfl⟩)
              · simp [Region.wanted, yielded, Act.put, go_sem]
              · simp [execOp, Act.eval, Act.put, go_sem, k]
            case refine_9 =>
              intro D sp w' hD hW hdp hG
              (with_reducible refine asked_call (w1 := w') (f := 29) (args := #[.slice pk nk ck, .slice pi ni ci, .int .i64 (n : Nat)]) ?_ ?_ ?_)
              · simp [Region.wanted, yielded, Act.put, go_sem]
              · simp [Act.eval, Act.put, go_sem]
              · refine (refexpand_calls w' pk nk ck key pi ni ci info n (HK2.out.below hG) HZ.out.1 (HI2.out.below hG) HZ.out.2 (by omega) (by omega) (by omega)).mono ?_
                rintro e w5 ⟨v, rfl, ho, hb⟩
                rw [HZe.out] at ho
                exact ⟨_, rfl, hb, ho.zero, bstepS hG hb⟩
            case refine_10 =>
              intro D sp w' hD hW hdp hG
              have hf : OwnIs 0 Z (sp 8) w' := (hdp 8 (List.mem_of_elem_eq_true (by kernel_rfl))).2
              (with_reducible refine hf.elim (fun p' c' hv hr _ _ => ?_))
              clear hf
              have k := convert_in hr
              rw [HS.out] at k
              (with_reducible refine asked_value (v := .string S) (w1 := w') ?_ ?_ ⟨rfl, rfl⟩)
              · simp [Region.wanted, yielded, Act.put, go_sem]
              · simp [execOp, Act.eval, Act.put, go_sem, hv, k]
            all_goals
              intro D sp w' hD hW hdp hG
              simp [asked, Region.wanted, yielded, Oper.gives, execOp, Act.eval, Act.put, go_sem]
          · intro sp w' hsp hG
            clear hsp
            simp only [frameOf, Nat.reduceAdd]
            generalize sp 8 = u8'
            go_simp
            go_wp2
            go_ret
            exact ⟨rfl, bstepS hbw hG⟩
  · have e1 : fewB [⟨pk, nk, ck, key⟩, ⟨pi, ni, ci, info⟩] = false := by simp [fewB]; omega
    go_enter Tryd.func7, Tryd.ntmps7
    go_wp2_with fail
    refine (lives4_calls w hT0).mono ?_
    rintro e w0 ⟨rfl, hb0⟩
    go_wp2_with fail
    refine (few_calls _ _ _ _ _ (HL1.out w0 hb0)).mono ?_
    rintro e w00 ⟨rfl, rfl⟩
    rw [e1]
    have hb1 := HL2.out w0 hb0
    generalize w0.alloc (.cells #[.slice pk nk ck, .slice pi ni ci] 22) = w1 at *
    clear hb0 HL1 HL2 e1
    go_wp2_with fail
    refine (lives4_calls _ (hT0.below hb1 hT0.size)).mono ?_
    rintro e w4 ⟨rfl, hb4⟩
    go_wp2
    go_ret
    exact ⟨rfl, bstepS hb1 hb4⟩
end Go.Proofs.YtpphjgljoapfpaaDoor
