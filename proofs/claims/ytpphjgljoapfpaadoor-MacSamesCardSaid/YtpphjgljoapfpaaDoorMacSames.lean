/- Whether bytes are the same is told as it is. -/
import Derived.Test.YtpphjgljoapfpaaDoorMacL
namespace Go.Proofs.YtpphjgljoapfpaaDoor
open Go Go.RowKit Go.Proofs.YtpphjgljoapfpaaDoor.Flow

set_option maxHeartbeats 4000000 in
set_option maxRecDepth 1000000 in
theorem sames_calls (w : World) (hT0 : Tabs w) (pa pb : Option Addr) (na nb ca cb : Nat) (xa xb : List Nat) (hA : PartOk w ⟨pa, na, ca, xa⟩) (hB : PartOk w ⟨pb, nb, cb, xb⟩) (hza : pa = none → ca = 0) :
    Calls Tryd.prog 10 #[.slice pa na ca, .slice pb nb cb] w fun e w' => e = .returned (.bool true) ∧ Below w.heap.size w w' := by
  have hra := hA.row
  have hrb := hB.row
  have ma := hra.max
  have mb := hrb.max
  have ca1 := hra.cap
  have cb1 := hrb.cap
  dsimp only at ma mb ca1 cb1
  by_cases hs : na ≤ 3000 ∧ nb ≤ 3000
  · obtain ⟨s1, s2⟩ := hs
    have HA : Hold _ := ⟨hA⟩
    have HB : Hold _ := ⟨hB⟩
    clear hA hB hra hrb
    go_enter Tryd.func10, Tryd.ntmps10
    go_wp2_with fail
    refine (lives4_calls w hT0).mono ?_
    rintro e w0 ⟨rfl, hb0⟩
    have hPa := HA.out.below hb0
    have hPb := HB.out.below hb0
    have hT := hT0.below hb0 hT0.size
    obtain ⟨S1, hS1⟩ : ∃ S, strOf xa = S := ⟨_, rfl⟩
    obtain ⟨S2, hS2⟩ : ∃ S, strOf xb = S := ⟨_, rfl⟩
    obtain ⟨d, hd⟩ : ∃ d, decide (xa = xb) = d := ⟨_, rfl⟩
    have q1 : (S1.toList == S2.toList) = d := by
      rw [← hd, ← hS1, ← hS2]
      exact strOf_beq hPa.bytes hPb.bytes
    have hPA : Hold _ := ⟨hPa⟩
    have hPB : Hold _ := ⟨hPb⟩
    have HS1 : Hold _ := ⟨hS1⟩
    have HS2 : Hold _ := ⟨hS2⟩
    have HD : Hold _ := ⟨hd⟩
    have HQ1 : Hold _ := ⟨q1⟩
    have hxl : Hold (na = xa.length) := ⟨hPa.row.len⟩
    clear HA HB hPa hPb hS1 hS2 hd q1
    go_wp2
    refine wp_region_duties (by kernel_rfl) (by kernel_rfl)
      [some (.slice pa na ca), some (.slice pb nb cb), none, some (.slice pa na ca), some (.string S1), some (.slice pb nb cb), some (.string S2), some (.bool d), some (.bool true), some (.bool true), some (.slice pa na ca), none, some (.slice pa na ca), none, none, some (.bool true), some (.bool true)]
      [false, false, true, false, false, false, false, false, false, false, false, true, false, true, true, false, false] rfl
      (fun w1 w2 => Below w1.heap.size w1 w2) (fun _ w' => Below w0.heap.size w0 w')
      (fun i v w' => match i with
        | 2 => v = .bool d
        | 11 => Bare 0 v w'
        | 13 => OwnIs 0 xa v w'
        | 14 => v = .bool true
        | _ => True)
      ?_ ((Below.refl _ _).drew) ?_ ?_
    · intro i v w1 w2 hf hb
      split at hf
      · exact hf
      · exact hf.below hb
      · exact hf.below hb
      · exact hf
      · trivial
    · simp only [Duties, Nat.reduceAdd]
      refine ⟨?_, ?_, ?_, ?_, ?_, ?_, ?_, ?_, ?_, ?_, ?_, ?_, ?_, ?_, ?_, ?_, ?_, trivial⟩
      case refine_3 =>
        intro D sp w' hD hW hdp hG
        (with_reducible refine asked_call (w1 := w') (f := 33) (args := #[.slice pa na ca, .slice pb nb cb]) ?_ ?_ ?_)
        · simp [Region.wanted, go_sem]
        · simp [Act.eval, Act.put, go_sem]
        · refine (same_calls w' pa pb na ca nb cb xa xb (hPA.out.below hG).row (hPB.out.below hG).row hPA.out.bytes hPB.out.bytes).mono ?_
          rintro e w5 ⟨rfl, hb⟩
          rw [HD.out]
          exact ⟨_, rfl, hb, rfl, bstepS hG hb⟩
      case refine_5 =>
        intro D sp w' hD hW hdp hG
        have k := convert_in (hPA.out.below hG).row
        rw [HS1.out] at k
        (with_reducible refine asked_value (v := .string S1) (w1 := w') ?_ ?_ ⟨rfl, rfl⟩)
        · simp [Region.wanted, go_sem]
        · simp [execOp, Act.eval, Act.put, go_sem, k]
      case refine_7 =>
        intro D sp w' hD hW hdp hG
        have k := convert_in (hPB.out.below hG).row
        rw [HS2.out] at k
        (with_reducible refine asked_value (v := .string S2) (w1 := w') ?_ ?_ ⟨rfl, rfl⟩)
        · simp [Region.wanted, go_sem]
        · simp [execOp, Act.eval, Act.put, go_sem, k]
      case refine_8 =>
        intro D sp w' hD hW hdp hG
        have q1 := HQ1.out
        (with_reducible refine asked_value (v := .bool d) (w1 := w') ?_ ?_ ⟨rfl, rfl⟩)
        · simp [Region.wanted, go_sem]
        · simp [execOp, Act.eval, Act.put, go_sem, q1]
      case refine_9 =>
        intro D sp w' hD hW hdp hG
        have hv : sp 2 = .bool d := (hdp 2 (List.mem_of_elem_eq_true (by kernel_rfl))).2
        (with_reducible refine asked_value (v := .bool true) (w1 := w') ?_ ?_ ⟨rfl, rfl⟩)
        · simp [Region.wanted, go_sem]
        · simp [execOp, Act.eval, Act.put, go_sem, hv]
      case refine_12 =>
        intro D sp w' hD hW hdp hG
        have hb : Below w'.heap.size w' (w'.alloc (.cells #[] 5)) := (Below.refl _ _).alloc (Nat.le_refl _) _
        (with_reducible refine asked_value (v := .slice (some ⟨w'.heap.size, 0, none⟩) 0 0) (w1 := w'.alloc (.cells #[] 5)) ?_ ?_ ⟨hb, Bare.made w' (Nat.zero_le _), bstepS hG hb⟩)
        · simp [Region.wanted, yielded, Act.put, go_sem]
        · simp [execOp, Act.eval, Act.put, go_sem]
      case refine_14 =>
        intro D sp w' hD hW hdp hG
        have hf : Bare 0 (sp 11) w' := (hdp 11 (List.mem_of_elem_eq_true (by kernel_rfl))).2
        (with_reducible refine hf.elim (fun g hv hg _ => ?_))
        clear hf
        (with_reducible refine run_app0E hg (Nat.zero_le g) (hPA.out.below hG).row hza (show na ≤ 140737488355328 by omega) 22 (fun v' w5 hr ho hb => ?_))
        (with_reducible refine asked_value (v := v') (w1 := w5) ?_ ?_ ⟨hb, OwnIs.mk ho, bstepS hG hb⟩)
        · simp [Region.wanted, yielded, Act.put, go_sem]
        · simp [execOp, resolve, invoke, builtin, Act.eval, Act.put, hv, hr, Result.andThen]
      case refine_15 =>
        intro D sp w' hD hW hdp hG
        have hf : OwnIs 0 xa (sp 13) w' := (hdp 13 (List.mem_of_elem_eq_true (by kernel_rfl))).2
        (with_reducible refine hf.elim (fun p c hv hr _ hz => ?_))
        clear hf
        (with_reducible refine asked_call (w1 := w') (f := 33) (args := #[.slice pa na ca, .slice p xa.length c]) ?_ ?_ ?_)
        · simp [Region.wanted, yielded, Act.put, go_sem]
        · simp [Act.eval, Act.put, go_sem, hv]
        · refine (same_calls w' pa p na ca _ c xa xa (hPA.out.below hG).row hr hPA.out.bytes hPA.out.bytes).mono ?_
          rintro e w5 ⟨rfl, hb⟩
          rw [decide_eq_true (rfl : xa = xa)]
          exact ⟨_, rfl, hb, rfl, bstepS hG hb⟩
      case refine_16 =>
        intro D sp w' hD hW hdp hG
        have hv : sp 14 = .bool true := (hdp 14 (List.mem_of_elem_eq_true (by kernel_rfl))).2
        (with_reducible refine asked_value (v := .bool true) (w1 := w') ?_ ?_ ⟨rfl, rfl⟩)
        · simp [Region.wanted, go_sem]
        · simp [execOp, Act.eval, Act.put, go_sem, hv]
      all_goals
        intro D sp w' hD hW hdp hG
        simp [asked, Region.wanted, yielded, Oper.gives, execOp, Act.eval, Act.put, go_sem]
    · intro sp w' hsp hG
      clear hsp
      simp only [frameOf, Nat.reduceAdd]
      generalize sp 2 = u2
      generalize sp 11 = u11
      generalize sp 13 = u13
      generalize sp 14 = u14
      go_simp
      go_wp2
      go_ret
      exact ⟨rfl, bstepS hb0 hG⟩
  · clear hA hB hra hrb
    by_cases h1 : na ≤ 3000
    · have h2 : (3000 : Int) < nb := by omega
      go_enter Tryd.func10, Tryd.ntmps10
      go_wp2_with fail
      refine (lives4_calls w hT0).mono ?_
      rintro e w1 ⟨rfl, hb1⟩
      have hT1 := hT0.below hb1 hT0.size
      go_wp2_with fail
      refine (lives4_calls w1 hT1).mono ?_
      rintro e w2 ⟨rfl, hb2⟩
      go_wp2
      go_ret
      exact ⟨rfl, bstepS hb1 hb2⟩
    · have h2 : (3000 : Int) < na := by omega
      go_enter Tryd.func10, Tryd.ntmps10
      go_wp2_with fail
      refine (lives4_calls w hT0).mono ?_
      rintro e w1 ⟨rfl, hb1⟩
      have hT1 := hT0.below hb1 hT0.size
      go_wp2_with fail
      refine (lives4_calls w1 hT1).mono ?_
      rintro e w2 ⟨rfl, hb2⟩
      go_wp2
      go_ret
      exact ⟨rfl, bstepS hb1 hb2⟩
end Go.Proofs.YtpphjgljoapfpaaDoor
