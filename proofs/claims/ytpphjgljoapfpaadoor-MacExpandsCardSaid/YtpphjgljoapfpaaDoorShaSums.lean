/- The sum of any bytes is that of the document: the law. -/
import Derived.Test.YtpphjgljoapfpaaDoorRefS
namespace Go.Proofs.YtpphjgljoapfpaaDoor
open Go Go.RowKit Go.Proofs.YtpphjgljoapfpaaDoor.Flow

theorem OwnIs.zero {lo : Nat} {bs : List Nat} {v : Value} {w : World} (h : OwnIs lo bs v w) : OwnIs 0 bs v w := by
  cases h with
  | of p c _ h hn hz hp => exact .of p c w h (fun _ _ => Nat.zero_le _) hz hp

set_option maxHeartbeats 4000000 in
set_option maxRecDepth 1000000 in
theorem sums_calls (w : World) (hT0 : Tabs w) (p : Option Addr) (n c : Nat) (xs : List Nat) (hA : PartOk w ⟨p, n, c, xs⟩) (hz : p = none → c = 0) :
    Calls Tryd.prog 3 #[.slice p n c] w fun e w' => e = .returned (.bool true) ∧ Below w.heap.size w w' := by
  have mx := hA.row.max
  have mc := hA.row.cap
  dsimp only at mx mc
  have HA : Hold _ := ⟨hA⟩
  have HL : Hold (n = xs.length) := ⟨hA.row.len⟩
  have HZ : Hold (p = none → c = 0) := ⟨hz⟩
  clear hA hz
  by_cases hs : n ≤ 1000
  · go_enter Tryd.func3, Tryd.ntmps3
    go_wp2_with fail
    refine (lives_calls _ rfl w hT0).mono ?_
    rintro e w1 ⟨rfl, hb1⟩
    have hbd : Below w1.heap.size w1 (w1.alloc (.cells #[] 5)) := (Below.refl _ _).alloc (Nat.le_refl _) _
    have hrow0 : Hold (RowIn (w1.alloc (.cells #[] 5)) .u8 p n c xs) := ⟨HA.out.row.below (bstepS hb1 hbd)⟩
    have HO0 : Hold (Own (w1.alloc (.cells #[] 5)) w1.heap.size (.slice (some ⟨w1.heap.size, 0, none⟩) 0 0) []) := ⟨Own.lit w1 [] (by decide)⟩
    have hmx : Hold (([] : List Nat).length + n ≤ 140737488355328) := ⟨by simp; omega⟩
    have hsz3 := hbd.size
    go_wp2_with (at_builtin; refine wpList_app rfl _ _ rfl rfl HO0.out rfl hrow0.out HZ.out hmx.out hsz3 ?_; intro v1 w2 ho1 hg1; refine Paused.out ?_)
    refine ⟨?_⟩
    rw [List.nil_append] at ho1
    have hb2 : Below w.heap.size w w2 := bstepS hb1 (hbd.trans (grown_below hg1 hsz3 (fun b hb => by cases hb; exact Nat.le_refl _)))
    clear hg1 hrow0 HO0 hmx hsz3 hbd hb1
    obtain ⟨q1, c1, rfl, r1, _, z1, _⟩ := ho1.elim
    have HQ : Hold (PartOk w2 ⟨q1, xs.length, c1, xs⟩) := ⟨⟨r1, HA.out.bytes⟩⟩
    clear ho1 r1 z1
    have HP : Hold _ := ⟨parts1 w2 ⟨q1, xs.length, c1, xs⟩ HQ.out⟩
    have hbp : Below w2.heap.size w2 (w2.alloc (.cells #[.slice q1 xs.length c1] 22)) := (Below.refl _ _).alloc (Nat.le_refl _) _
    have HT2 : Hold _ := ⟨hT0.below (bstepS hb2 hbp) hT0.size⟩
    go_wp2_with fail
    refine (sum_calls _ _ _ _ _ HT2.out HP.out).mono ?_
    rintro e w3 ⟨qs, rfl, _, hb3, hk3⟩
    rw [whole_one] at hk3
    have hb23 := bstepS hbp hb3
    have hbw := bstepS hb2 hb23
    have HQ3 : Hold _ := ⟨HQ.out.below hb23⟩
    have HA3 : Hold _ := ⟨HA.out.below hbw⟩
    have HR3 : Hold (Row w3 .u8 (some ⟨qs, 0, none⟩) 32 32 (sha xs)) := ⟨hk3.row (sha_length _).symm (Nat.le_refl _) (by omega)⟩
    obtain ⟨S, hS⟩ : ∃ S, strOf (sha xs) = S := ⟨_, rfl⟩
    obtain ⟨X, hX⟩ : ∃ X, strOf xs = X := ⟨_, rfl⟩
    have HS : Hold _ := ⟨hS⟩
    have HX : Hold _ := ⟨hX⟩
    clear hS hX hk3 hb3 hb2 hb23 hbp HP HT2 HQ HA
    go_wp2
    refine wp_region_duties (by kernel_rfl) (by kernel_rfl)
      [some (.slice (some ⟨qs, 0, none⟩) 32 32), some (.string S), some (.slice p n c), none, some (.string S), some (.bool true), some (.bool true), some (.slice q1 xs.length c1), some (.string X), some (.slice p n c), some (.string X), some (.bool true), some (.bool true), some (.bool true)]
      [false, false, false, true, false, false, false, false, false, false, false, false, false, false] rfl
      (fun w1 w2 => Below w1.heap.size w1 w2) (fun _ w' => Below w3.heap.size w3 w')
      (fun i v w' => match i with
        | 3 => OwnIs 0 (sha xs) v w'
        | _ => True)
      ?_ ((Below.refl _ _).drew) ?_ ?_
    · intro i v w1 w2 hf hb
      split at hf
      · exact hf.below hb
      · trivial
    · simp only [Duties, Nat.reduceAdd]
      refine ⟨?_, ?_, ?_, ?_, ?_, ?_, ?_, ?_, ?_, ?_, ?_, ?_, ?_, ?_, trivial⟩
      case refine_2 =>
        intro D sp w' hD hW hdp hG
        have k := convert_row (HR3.out.below hG)
        rw [HS.out] at k
        (with_reducible refine asked_value (v := .string S) (w1 := w') ?_ ?_ ⟨rfl, rfl⟩)
        · simp [Region.wanted, go_sem]
        · simp [execOp, Act.eval, Act.put, go_sem, k]
      case refine_4 =>
        intro D sp w' hD hW hdp hG
        (with_reducible refine asked_call (w1 := w') (f := 14) (args := #[.slice p n c]) ?_ ?_ ?_)
        · simp [Region.wanted, go_sem]
        · simp [Act.eval, Act.put, go_sem]
        · refine (refsum_calls w' p n c xs (HA3.out.below hG).row HA3.out.bytes HZ.out (by omega)).mono ?_
          rintro e w5 ⟨v, rfl, ho, hb⟩
          exact ⟨_, rfl, hb, ho.zero, bstepS hG hb⟩
      case refine_5 =>
        intro D sp w' hD hW hdp hG
        have hf : OwnIs 0 (sha xs) (sp 3) w' := (hdp 3 (List.mem_of_elem_eq_true (by kernel_rfl))).2
        (with_reducible refine hf.elim (fun p' c' hv hr _ _ => ?_))
        clear hf
        have k := convert_in hr
        rw [HS.out] at k
        (with_reducible refine asked_value (v := .string S) (w1 := w') ?_ ?_ ⟨rfl, rfl⟩)
        · simp [Region.wanted, go_sem]
        · simp [execOp, Act.eval, Act.put, go_sem, hv, k]
      case refine_9 =>
        intro D sp w' hD hW hdp hG
        have k := convert_in (HQ3.out.below hG).row
        rw [HX.out] at k
        (with_reducible refine asked_value (v := .string X) (w1 := w') ?_ ?_ ⟨rfl, rfl⟩)
        · simp [Region.wanted, yielded, Act.put, go_sem]
        · simp [execOp, Act.eval, Act.put, go_sem, k]
      case refine_11 =>
        intro D sp w' hD hW hdp hG
        have k := convert_in (HA3.out.below hG).row
        rw [HX.out] at k
        (with_reducible refine asked_value (v := .string X) (w1 := w') ?_ ?_ ⟨rfl, rfl⟩)
        · simp [Region.wanted, yielded, Act.put, go_sem]
        · simp [execOp, Act.eval, Act.put, go_sem, k]
      all_goals
        intro D sp w' hD hW hdp hG
        simp [asked, Region.wanted, yielded, Oper.gives, execOp, Act.eval, Act.put, go_sem]
    · intro sp w' hsp hG
      clear hsp
      simp only [frameOf, Nat.reduceAdd]
      generalize sp 3 = u3
      go_simp
      go_wp2
      go_ret
      exact ⟨rfl, bstepS hbw hG⟩
  · have hs' : (1000 : Int) < n := by omega
    go_enter Tryd.func3, Tryd.ntmps3
    go_wp2_with fail
    refine (lives_calls _ rfl w hT0).mono ?_
    rintro e w1 ⟨rfl, hb1⟩
    have hT1 := hT0.below hb1 hT0.size
    go_wp2_with fail
    refine (lives_calls _ rfl w1 hT1).mono ?_
    rintro e w2 ⟨rfl, hb2⟩
    go_wp2
    go_ret
    exact ⟨rfl, bstepS hb1 hb2⟩
end Go.Proofs.YtpphjgljoapfpaaDoor
