/- The tag of any parts under any key is the document's: the law. -/
import Derived.Test.YtpphjgljoapfpaaDoorRefG
import Derived.Test.YtpphjgljoapfpaaDoorMacK
namespace Go.Proofs.YtpphjgljoapfpaaDoor
open Go Go.RowKit Go.Proofs.YtpphjgljoapfpaaDoor.Flow

theorem parts3 (w : World) (P Q R : Part) (hP : PartOk w P) (hQ : PartOk w Q) (hR : PartOk w R) : PartsIn (w.alloc (.cells #[.slice P.p P.n P.c, .slice Q.p Q.n Q.c, .slice R.p R.n R.c] 22)) (some ⟨w.heap.size, 0, none⟩) 3 3 [P, Q, R] := by
  have hb : Below w.heap.size w (w.alloc (.cells #[.slice P.p P.n P.c, .slice Q.p Q.n Q.c, .slice R.p R.n R.c] 22)) := (Below.refl _ _).alloc (Nat.le_refl _) _
  have hn := heap_alloc_new w (.cells #[.slice P.p P.n P.c, .slice Q.p Q.n Q.c, .slice R.p R.n R.c] 22)
  refine ⟨rfl, Nat.le_refl _, by omega, fun i X hX => ?_, fun _ => ⟨w.heap.size, 0, rfl, by simp, fun i X hX => ?_⟩⟩
  · match i, hX with
    | 0, h => cases h; exact hP.below hb
    | 1, h => cases h; exact hQ.below hb
    | 2, h => cases h; exact hR.below hb
  · match i, hX with
    | 0, h => cases h; unfold World.cell?; dsimp only; rw [hn]; rfl
    | 1, h => cases h; unfold World.cell?; dsimp only; rw [hn]; rfl
    | 2, h => cases h; unfold World.cell?; dsimp only; rw [hn]; rfl

set_option maxHeartbeats 4000000 in
set_option maxRecDepth 1000000 in
theorem tags_calls (w : World) (hT0 : Tabs w) (pk pa pb : Option Addr) (nk na nb ck ca cb : Nat) (key xa xb : List Nat) (hK : PartOk w ⟨pk, nk, ck, key⟩) (hA : PartOk w ⟨pa, na, ca, xa⟩) (hB : PartOk w ⟨pb, nb, cb, xb⟩)
    (zk : pk = none → ck = 0) (za : pa = none → ca = 0) (zb : pb = none → cb = 0) :
    Calls Tryd.prog 6 #[.slice pk nk ck, .slice pa na ca, .slice pb nb cb] w fun e w' => e = .returned (.bool true) ∧ Below w.heap.size w w' := by
  have mk := hK.row.max
  have mck := hK.row.cap
  dsimp only at mk mck
  have HK : Hold _ := ⟨hK⟩
  have HA : Hold _ := ⟨hA⟩
  have HB : Hold _ := ⟨hB⟩
  have HZ : Hold ((pk = none → ck = 0) ∧ (pa = none → ca = 0) ∧ (pb = none → cb = 0)) := ⟨⟨zk, za, zb⟩⟩
  have HLk : Hold (nk = key.length ∧ na = xa.length ∧ nb = xb.length) := ⟨⟨hK.row.len, hA.row.len, hB.row.len⟩⟩
  clear hK hA hB zk za zb
  have HL1 : Hold (∀ w0, Below w.heap.size w w0 → PartsIn (w0.alloc (.cells #[.slice pk nk ck, .slice pa na ca, .slice pb nb cb] 22)) (some ⟨w0.heap.size, 0, none⟩) 3 3 [⟨pk, nk, ck, key⟩, ⟨pa, na, ca, xa⟩, ⟨pb, nb, cb, xb⟩]) := ⟨fun w0 hb => parts3 w0 ⟨pk, nk, ck, key⟩ ⟨pa, na, ca, xa⟩ ⟨pb, nb, cb, xb⟩ (HK.out.below hb) (HA.out.below hb) (HB.out.below hb)⟩
  have HL2 : Hold (∀ w0, Below w.heap.size w w0 → Below w.heap.size w (w0.alloc (.cells #[.slice pk nk ck, .slice pa na ca, .slice pb nb cb] 22))) := ⟨fun w0 hb => bstepS hb ((Below.refl _ _).alloc (Nat.le_refl _) _)⟩
  by_cases hs : nk ≤ 500 ∧ na ≤ 500 ∧ nb ≤ 500
  · obtain ⟨s1, s2, s3⟩ := hs
    have e1 : fewB [⟨pk, nk, ck, key⟩, ⟨pa, na, ca, xa⟩, ⟨pb, nb, cb, xb⟩] = true := by simp [fewB, s1, s2, s3]
    go_enter Tryd.func6, Tryd.ntmps6
    go_wp2_with fail
    refine (lives4_calls w hT0).mono ?_
    rintro e w0 ⟨rfl, hb0⟩
    go_wp2_with fail
    refine (few_calls _ _ _ _ _ (HL1.out w0 hb0)).mono ?_
    rintro e w00 ⟨rfl, rfl⟩
    rw [e1]
    have hb1 := HL2.out w0 hb0
    generalize w0.alloc (.cells #[.slice pk nk ck, .slice pa na ca, .slice pb nb cb] 22) = w1 at *
    have hbd : Below w1.heap.size w1 (w1.alloc (.cells #[] 5)) := (Below.refl _ _).alloc (Nat.le_refl _) _
    have hrow0 : Hold (RowIn (w1.alloc (.cells #[] 5)) .u8 pk nk ck key) := ⟨HK.out.row.below (bstepS hb1 hbd)⟩
    have HO0 : Hold (Own (w1.alloc (.cells #[] 5)) w1.heap.size (.slice (some ⟨w1.heap.size, 0, none⟩) 0 0) []) := ⟨Own.lit w1 [] (by decide)⟩
    have hmx : Hold (([] : List Nat).length + nk ≤ 140737488355328) := ⟨by simp; omega⟩
    have hsz3 := hbd.size
    clear hb0 HL1 HL2 e1
    go_wp2_with (at_builtin; refine wpList_app rfl _ _ rfl rfl HO0.out rfl hrow0.out HZ.out.1 hmx.out hsz3 ?_; intro v1 w2 ho1 hg1; refine Paused.out ?_)
    refine ⟨?_⟩
    rw [List.nil_append] at ho1
    have hb2 : Below w.heap.size w w2 := bstepS hb1 (hbd.trans (grown_below hg1 hsz3 (fun b hb => by cases hb; exact Nat.le_refl _)))
    clear hg1 hrow0 HO0 hmx hsz3 hbd hb1
    obtain ⟨q1, c1, rfl, r1, _, z1, _⟩ := ho1.elim
    have HQ : Hold (PartOk w2 ⟨q1, key.length, c1, key⟩) := ⟨⟨r1, HK.out.bytes⟩⟩
    clear ho1 r1 z1
    have HP : Hold _ := ⟨parts2 w2 ⟨pa, na, ca, xa⟩ ⟨pb, nb, cb, xb⟩ (HA.out.below hb2) (HB.out.below hb2)⟩
    have hbp : Below w2.heap.size w2 (w2.alloc (.cells #[.slice pa na ca, .slice pb nb cb] 22)) := (Below.refl _ _).alloc (Nat.le_refl _) _
    have HT2 : Hold _ := ⟨hT0.below (bstepS hb2 hbp) hT0.size⟩
    have HQ2 : Hold _ := ⟨HQ.out.below hbp⟩
    go_wp2_with fail
    refine (macTag_calls _ q1 key.length c1 key _ _ _ _ HT2.out HQ2.out.row HQ2.out.bytes HP.out).mono ?_
    rintro e w3 ⟨qs, rfl, _, hb3, hk3⟩
    rw [whole2] at hk3
    dsimp only at hk3
    have hb23 := bstepS hbp hb3
    have hbw := bstepS hb2 hb23
    have HQ3 : Hold _ := ⟨HQ.out.below hb23⟩
    have HK3 : Hold _ := ⟨HK.out.below hbw⟩
    have HA3 : Hold _ := ⟨HA.out.below hbw⟩
    have HB3 : Hold _ := ⟨HB.out.below hbw⟩
    have HR3 : Hold (Row w3 .u8 (some ⟨qs, 0, none⟩) 32 32 (hmac key (xa ++ xb))) := ⟨hk3.row (sha_length _).symm (Nat.le_refl _) (by omega)⟩
    obtain ⟨Y, hY⟩ : ∃ Y, xa ++ xb = Y := ⟨_, rfl⟩
    rw [hY] at HR3
    have HY : Hold (xa ++ xb = Y ∧ Y.length ≤ 1000 ∧ Bytes8 Y) := ⟨hY, by rw [← hY, List.length_append]; have := HLk.out; omega, by
      rw [← hY]
      intro x hx
      rcases List.mem_append.1 hx with h | h
      · exact HA.out.bytes x h
      · exact HB.out.bytes x h⟩
    obtain ⟨S, hS⟩ : ∃ S, strOf (hmac key Y) = S := ⟨_, rfl⟩
    obtain ⟨X, hX⟩ : ∃ X, strOf key = X := ⟨_, rfl⟩
    have HS : Hold _ := ⟨hS⟩
    have HX : Hold _ := ⟨hX⟩
    clear hS hX hY hk3 hb3 hb2 hb23 hbp HP HT2 HQ HK HA HB HQ2
    go_wp2
    refine wp_region_duties (by kernel_rfl) (by kernel_rfl)
      [some (.slice (some ⟨qs, 0, none⟩) 32 32), some (.string S), some (.slice pk nk ck), some (.slice pa na ca), some (.slice pb nb cb), none, none, none, some (.string S), some (.bool true), some (.bool true), some (.slice q1 key.length c1), some (.string X), some (.slice pk nk ck), some (.string X), some (.bool true), some (.bool true), some (.bool true)]
      [false, false, false, false, false, true, true, true, false, false, false, false, false, false, false, false, false, false] rfl
      (fun w1 w2 => Below w1.heap.size w1 w2) (fun _ w' => Below w3.heap.size w3 w')
      (fun i v w' => match i with
        | 5 => PartsAre [⟨pa, na, ca, xa⟩, ⟨pb, nb, cb, xb⟩] v w'
        | 6 => OwnIs 0 Y v w'
        | 7 => OwnIs 0 (hmac key Y) v w'
        | _ => True)
      ?_ ((Below.refl _ _).drew) ?_ ?_
    · intro i v w1 w2 hf hb
      split at hf
      · exact hf.below hb
      · exact hf.below hb
      · exact hf.below hb
      · trivial
    · simp only [Duties, Nat.reduceAdd]
      refine ⟨?_, ?_, ?_, ?_, ?_, ?_, ?_, ?_, ?_, ?_, ?_, ?_, ?_, ?_, ?_, ?_, ?_, ?_, trivial⟩
      case refine_2 =>
        intro D sp w' hD hW hdp hG
        have k := convert_row (HR3.out.below hG)
        rw [HS.out] at k
        (with_reducible refine asked_value (v := .string S) (w1 := w') ?_ ?_ ⟨rfl, rfl⟩)
        · simp [Region.wanted, go_sem]
        · simp [execOp, Act.eval, Act.put, go_sem, k]
      case refine_6 =>
        intro D sp w' hD hW hdp hG
        have hb : Below w'.heap.size w' (w'.alloc (.cells #[.slice pa na ca, .slice pb nb cb] 22)) := (Below.refl _ _).alloc (Nat.le_refl _) _
        (with_reducible refine asked_value (v := .slice (some ⟨w'.heap.size, 0, none⟩) 2 2) (w1 := w'.alloc (.cells #[.slice pa na ca, .slice pb nb cb] 22)) ?_ ?_ ⟨hb, PartsAre.mk w'.heap.size _ (parts2 w' ⟨pa, na, ca, xa⟩ ⟨pb, nb, cb, xb⟩ (HA3.out.below hG) (HB3.out.below hG)), bstepS hG hb⟩)
        · simp [Region.wanted, go_sem]
        · simp [execOp, Act.eval, Act.put, go_sem]
      case refine_7 =>
        intro D sp w' hD hW hdp hG
        have hf : PartsAre [⟨pa, na, ca, xa⟩, ⟨pb, nb, cb, xb⟩] (sp 5) w' := (hdp 5 (List.mem_of_elem_eq_true (by kernel_rfl))).2
        (with_reducible refine hf.elim (fun q hv hp => ?_))
        clear hf
        (with_reducible refine asked_call (w1 := w') (f := 26) (args := #[.slice (some ⟨q, 0, none⟩) 2 2]) ?_ ?_ ?_)
        · simp [Region.wanted, go_sem]
        · simp [Act.eval, Act.put, go_sem, hv]
        · refine (join_calls w' _ _ _ _ hp (fun P hP => by
            rcases List.mem_cons.1 hP with rfl | hP
            · exact HZ.out.2.1
            · obtain rfl := List.mem_singleton.1 hP
              exact HZ.out.2.2) (by rw [whole2]; dsimp only; rw [HY.out.1]; have := HY.out.2.1; omega)).mono ?_
          rintro e w5 ⟨v, rfl, ho, hb⟩
          rw [whole2] at ho
          dsimp only at ho
          rw [HY.out.1] at ho
          exact ⟨_, rfl, hb, ho.zero, bstepS hG hb⟩
      case refine_8 =>
        intro D sp w' hD hW hdp hG
        have hf : OwnIs 0 Y (sp 6) w' := (hdp 6 (List.mem_of_elem_eq_true (by kernel_rfl))).2
        (with_reducible refine hf.elim (fun p' c' hv hr _ hz => ?_))
        clear hf
        (with_reducible refine asked_call (w1 := w') (f := 25) (args := #[.slice pk nk ck, .slice p' Y.length c']) ?_ ?_ ?_)
        · simp [Region.wanted, go_sem]
        · simp [Act.eval, Act.put, go_sem, hv]
        · refine (reftag_calls w' pk nk ck key p' Y.length c' Y (HK3.out.below hG).row HK3.out.bytes HZ.out.1 (by omega) ⟨hr, HY.out.2.2⟩ hz (by have := HY.out.2.1; omega)).mono ?_
          rintro e w5 ⟨v, rfl, ho, hb⟩
          exact ⟨_, rfl, hb, ho.zero, bstepS hG hb⟩
      case refine_9 =>
        intro D sp w' hD hW hdp hG
        have hf : OwnIs 0 (hmac key Y) (sp 7) w' := (hdp 7 (List.mem_of_elem_eq_true (by kernel_rfl))).2
        (with_reducible refine hf.elim (fun p' c' hv hr _ _ => ?_))
        clear hf
        have k := convert_in hr
        rw [HS.out] at k
        (with_reducible refine asked_value (v := .string S) (w1 := w') ?_ ?_ ⟨rfl, rfl⟩)
        · simp [Region.wanted, go_sem]
        · simp [execOp, Act.eval, Act.put, go_sem, hv, k]
      case refine_13 =>
        intro D sp w' hD hW hdp hG
        have k := convert_in (HQ3.out.below hG).row
        rw [HX.out] at k
        (with_reducible refine asked_value (v := .string X) (w1 := w') ?_ ?_ ⟨rfl, rfl⟩)
        · simp [Region.wanted, yielded, Act.put, go_sem]
        · simp [execOp, Act.eval, Act.put, go_sem, k]
      case refine_15 =>
        intro D sp w' hD hW hdp hG
        have k := convert_in (HK3.out.below hG).row
        rw [HX.out] at k
        (with_reducible refine asked_value (v := .string X) (w1 := w') ?_ ?_ ⟨rfl, rfl⟩)
        · simp [Region.wanted, yielded, Act.put, go_sem]
        · simp [execOp, Act.eval, Act.put, go_sem, k]
      all_goals
        intro D sp w' hD hW hdp hG
        simp [asked, Region.wanted, yielded, Oper.gives, execOp, Act.eval, Act.put, go_sem]
    · intro sp w' hsp hG
      clear hsp
      simp only [frameOf, Nat.reduceAdd]
      generalize sp 5 = u5
      generalize sp 6 = u6
      generalize sp 7 = u7
      go_simp
      go_wp2
      go_ret
      exact ⟨rfl, bstepS hbw hG⟩
  · have e1 : fewB [⟨pk, nk, ck, key⟩, ⟨pa, na, ca, xa⟩, ⟨pb, nb, cb, xb⟩] = false := by simp [fewB]; omega
    go_enter Tryd.func6, Tryd.ntmps6
    go_wp2_with fail
    refine (lives4_calls w hT0).mono ?_
    rintro e w1 ⟨rfl, hb1⟩
    go_wp2_with fail
    refine (few_calls _ _ _ _ _ (HL1.out w1 hb1)).mono ?_
    rintro e w2 ⟨rfl, rfl⟩
    rw [e1]
    have hb2 := HL2.out w1 hb1
    go_wp2_with fail
    refine (lives4_calls _ (hT0.below hb2 hT0.size)).mono ?_
    rintro e w4 ⟨rfl, hb4⟩
    go_wp2
    go_ret
    exact ⟨rfl, bstepS hb2 hb4⟩
end Go.Proofs.YtpphjgljoapfpaaDoor
