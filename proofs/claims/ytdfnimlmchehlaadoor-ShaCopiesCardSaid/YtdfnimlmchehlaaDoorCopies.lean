/- A copy goes on by itself. -/
import Derived.Test.YtdfnimlmchehlaaDoorShaP
import Derived.Test.YtdfnimlmchehlaaDoorStr
import Derived.Test.YtdfnimlmchehlaaDoorFlow
namespace Go.Proofs.YtdfnimlmchehlaaDoor
open Go Go.RowKit Go.Proofs.YtdfnimlmchehlaaDoor.Flow

/-- One step more, from the world that the call began in. -/
theorem bstepS {a b c : World} (h : Below a.heap.size a b) (k : Below b.heap.size b c) : Below a.heap.size a c := h.trans (k.mono h.size)

theorem whole2 (P Q : Part) : whole [P, Q] = P.bs ++ Q.bs := by simp [whole]
theorem whole1 (P : Part) : whole [P] = P.bs := by simp [whole]

/-- This value is a sum of these bytes. -/
inductive SumIs (m : List Nat) : Value → World → Prop where
  | of (q : Nat) (w : World) (h : Row w .u8 (some ⟨q, 0, none⟩) 32 32 (sha m)) : SumIs m (.slice (some ⟨q, 0, none⟩) 32 32) w
theorem SumIs.mk {m : List Nat} (q : Nat) (w : World) (h : Blk w q 5 .u8 (sha m)) : SumIs m (.slice (some ⟨q, 0, none⟩) 32 32) w := .of q w (h.row (sha_length _).symm (Nat.le_refl _) (by omega))
theorem SumIs.elim {m : List Nat} {v : Value} {w : World} (h : SumIs m v w) {C : Prop} (k : ∀ q, v = .slice (some ⟨q, 0, none⟩) 32 32 → Row w .u8 (some ⟨q, 0, none⟩) 32 32 (sha m) → C) : C := by
  cases h with
  | of q _ h => exact k q rfl h
theorem SumIs.below {m : List Nat} {v : Value} {w w' : World} (h : SumIs m v w) (hb : Below w.heap.size w w') : SumIs m v w' := by
  cases h with
  | of q _ h => exact .of q w' (h.below hb)
/-- This value is a slice of these parts. -/
inductive PartsAre (L : List Part) : Value → World → Prop where
  | of (q : Nat) (w : World) (h : PartsIn w (some ⟨q, 0, none⟩) L.length L.length L) : PartsAre L (.slice (some ⟨q, 0, none⟩) L.length L.length) w
theorem PartsAre.mk {P Q : Part} (q : Nat) (w : World) (h : PartsIn w (some ⟨q, 0, none⟩) 2 2 [P, Q]) : PartsAre [P, Q] (.slice (some ⟨q, 0, none⟩) 2 2) w := .of q w h
theorem PartsAre.elim {P Q : Part} {v : Value} {w : World} (h : PartsAre [P, Q] v w) {C : Prop} (k : ∀ q, v = .slice (some ⟨q, 0, none⟩) 2 2 → PartsIn w (some ⟨q, 0, none⟩) 2 2 [P, Q] → C) : C := by
  cases h with
  | of q _ h => exact k q rfl h
theorem PartsAre.below {L : List Part} {v : Value} {w w' : World} (h : PartsAre L v w) (hb : Below w.heap.size w w') : PartsAre L v w' := by
  cases h with
  | of q _ h => exact .of q w' (h.below hb)

theorem parts2 (w : World) (P Q : Part) (hP : PartOk w P) (hQ : PartOk w Q) : PartsIn (w.alloc (.cells #[.slice P.p P.n P.c, .slice Q.p Q.n Q.c] 22)) (some ⟨w.heap.size, 0, none⟩) 2 2 [P, Q] := by
  have hb : Below w.heap.size w (w.alloc (.cells #[.slice P.p P.n P.c, .slice Q.p Q.n Q.c] 22)) := (Below.refl _ _).alloc (Nat.le_refl _) _
  have hn := heap_alloc_new w (.cells #[.slice P.p P.n P.c, .slice Q.p Q.n Q.c] 22)
  refine ⟨rfl, Nat.le_refl _, by omega, fun i X hX => ?_, fun _ => ⟨w.heap.size, 0, rfl, by simp, fun i X hX => ?_⟩⟩
  · match i, hX with
    | 0, h => cases h; exact hP.below hb
    | 1, h => cases h; exact hQ.below hb
  · match i, hX with
    | 0, h => cases h; unfold World.cell?; dsimp only; rw [hn]; rfl
    | 1, h => cases h; unfold World.cell?; dsimp only; rw [hn]; rfl

set_option maxHeartbeats 4000000 in
set_option maxRecDepth 1000000 in
theorem copies_calls (w : World) (hT0 : Tabs w) (pa pb pc : Option Addr) (na nb nc ca cb cc : Nat) (xa xb xc : List Nat) (hA : PartOk w ⟨pa, na, ca, xa⟩) (hB0 : PartOk w ⟨pb, nb, cb, xb⟩) (hC : PartOk w ⟨pc, nc, cc, xc⟩)
    (ma : na ≤ 9223372036854775807) (mb : nb ≤ 9223372036854775807) (mc : nc ≤ 9223372036854775807) :
    Calls Tryd.prog 5 #[.slice pa na ca, .slice pb nb cb, .slice pc nc cc] w fun e w' => e = .returned (.bool true) ∧ Below w.heap.size w w' := by
  by_cases hs : na + nb + nc ≤ 3000
  · go_enter Tryd.func5, Tryd.ntmps5
    go_wp2_with fail
    refine (lives_calls _ rfl w hT0).mono ?_
    rintro e w1 ⟨rfl, hb1⟩
    have hT1 := hT0.below hb1 hT0.size
    go_wp2_with fail
    refine (new_calls w1 hT1).mono ?_
    rintro e w2 ⟨h, rfl, hh, hb2, hh2⟩
    have hB2 := bstepS hb1 hb2
    have hT2 := hT0.below hB2 hT0.size
    have hz1 := hb1.size
    have hz0 := hT0.size
    have hfar : ∀ (w' : World) (P : Part), PartOk w P → ∀ x, w.heap.size ≤ x → 0 < P.n → ∀ q, P.p = some q → q.block ≠ x := fun w' P hP x hx h0 q hq => by
      obtain ⟨b', off', e, h2, _⟩ := (hP.row.row h0).pos h0
      rw [hq] at e; cases e
      show b' ≠ x
      omega
    have HFar : Hold (∀ (w' : World) (P : Part), PartOk w P → ∀ x, w.heap.size ≤ x → 0 < P.n → ∀ q, P.p = some q → q.block ≠ x) := ⟨hfar⟩
    clear hfar
    go_wp2_with fail
    refine (add_calls w2 h [] pa na ca xa hT2 hh2 (by omega) (hA.below hB2).row (hA.below hB2).bytes (HFar.out w ⟨pa, na, ca, xa⟩ hA h (by omega))).mono ?_
    rintro e w3 ⟨rfl, hb3, hh3⟩
    have hz2 := hB2.size
    have hB3 : Below w.heap.size w w3 := hB2.trans (hb3.below (by omega) hz2)
    have hT3 := hT0.below hB3 hT0.size
    rw [List.nil_append] at hh3
    go_wp2_with fail
    refine (copy_calls w3 h xa hh3).mono ?_
    rintro e w4 ⟨g, rfl, hg, hb4, hg4⟩
    have hh4 := hh3.below hb4 hh3.lt
    have hz3 := hB3.size
    have hhl := hh3.lt
    have hB4 := bstepS hB3 hb4
    have hT4 := hT0.below hB4 hT0.size
    go_wp2_with fail
    refine (add_calls w4 h xa pb nb cb xb hT4 hh4 (by omega) (hB0.below hB4).row (hB0.below hB4).bytes (HFar.out w ⟨pb, nb, cb, xb⟩ hB0 h (by omega))).mono ?_
    rintro e w5 ⟨rfl, hb5, hh5⟩
    have hg5 := hg4.but hb5 (by omega)
    have hz4 := hB4.size
    have hB5 : Below w.heap.size w w5 := hB4.trans (hb5.below (by omega) hz4)
    have hT5 := hT0.below hB5 hT0.size
    go_wp2_with fail
    refine (add_calls w5 g xa pc nc cc xc hT5 hg5 (by omega) (hC.below hB5).row (hC.below hB5).bytes (HFar.out w ⟨pc, nc, cc, xc⟩ hC g (by omega))).mono ?_
    rintro e w0 ⟨rfl, hb6, hG2⟩
    have hH := hh5.but hb6 (by omega)
    have hz5 := hB5.size
    have hB : Below w.heap.size w w0 := hB5.trans (hb6.below (by omega) hz5)
    have hT := hT0.below hB hT0.size
    have hPa := hA.below hB
    have hPb := hB0.below hB
    have hPc := hC.below hB
    obtain ⟨S1, hS1⟩ : ∃ S, strOf (sha (xa ++ xb)) = S := ⟨_, rfl⟩
    obtain ⟨S2, hS2⟩ : ∃ S, strOf (sha (xa ++ xc)) = S := ⟨_, rfl⟩
    clear hA hB0 hC hb1 hT1 hb2 hh2 hB2 hT2 hb3 hh3 hB3 hT3 hb4 hg4 hh4 hB4 hT4 hb5 hh5 hg5 hB5 hT5 hb6 hT0 HFar
    go_wp2
    refine wp_region_duties (by kernel_rfl) (by kernel_rfl)
      [some (.pointer (some ⟨h, 0, none⟩)), none, some (.string S1), some (.slice pa na ca), some (.slice pb nb cb), none, none, some (.string S1), some (.bool true), some (.bool true), some (.pointer (some ⟨g, 0, none⟩)), none, some (.string S2), some (.slice pa na ca), some (.slice pc nc cc), none, none, some (.string S2), some (.bool true), some (.bool true), some (.bool true)]
      [false, true, false, false, false, true, true, false, false, false, false, true, false, false, false, true, true, false, false, false, false] rfl
      (fun w1 w2 => Below w1.heap.size w1 w2) (fun _ w' => Below w0.heap.size w0 w')
      (fun i v w' => match i with
        | 1 => SumIs (xa ++ xb) v w'
        | 5 => PartsAre [⟨pa, na, ca, xa⟩, ⟨pb, nb, cb, xb⟩] v w'
        | 6 => SumIs (xa ++ xb) v w'
        | 11 => SumIs (xa ++ xc) v w'
        | 15 => PartsAre [⟨pa, na, ca, xa⟩, ⟨pc, nc, cc, xc⟩] v w'
        | 16 => SumIs (xa ++ xc) v w'
        | _ => True)
      ?_ ((Below.refl _ _).drew) ?_ ?_
    · intro i v w1 w2 hf hb
      split at hf
      · exact hf.below hb
      · exact hf.below hb
      · exact hf.below hb
      · exact hf.below hb
      · exact hf.below hb
      · exact hf.below hb
      · trivial
    · simp only [Duties, Nat.reduceAdd]
      refine ⟨?_, ?_, ?_, ?_, ?_, ?_, ?_, ?_, ?_, ?_, ?_, ?_, ?_, ?_, ?_, ?_, ?_, ?_, ?_, ?_, ?_, trivial⟩
      case refine_2 =>
        intro D sp w' hD hW hdp hG
        (with_reducible refine asked_call (w1 := w') (f := 12) (args := #[.pointer (some ⟨h, 0, none⟩)]) ?_ ?_ ?_)
        · simp [Region.wanted, yielded, Act.put, go_sem]
        · simp [Act.eval, Act.put, go_sem]
        · refine (hsum_calls w' h _ (hT.below hG hT.size) (hH.below hG hH.lt)).mono ?_
          rintro e w5 ⟨q, rfl, hq, hb, hk⟩
          exact ⟨_, rfl, hb, SumIs.mk q _ hk, bstepS hG hb⟩
      case refine_6 =>
        intro D sp w' hD hW hdp hG
        (with_reducible refine asked_value (v := .slice (some ⟨w'.heap.size, 0, none⟩) 2 2) (w1 := w'.alloc (.cells #[.slice pa na ca, .slice pb nb cb] 22)) ?_ ?_ ?_)
        · simp [Region.wanted, yielded, Act.put, go_sem]
        · simp [execOp, Act.eval, Act.put, go_sem]
        · have hb : Below w'.heap.size w' (w'.alloc (.cells #[.slice pa na ca, .slice pb nb cb] 22)) := (Below.refl _ _).alloc (Nat.le_refl _) _
          exact ⟨hb, PartsAre.mk w'.heap.size _ (parts2 w' ⟨pa, na, ca, _⟩ ⟨pb, nb, cb, _⟩ (hPa.below hG) (hPb.below hG)), bstepS hG hb⟩
      case refine_7 =>
        intro D sp w' hD hW hdp hG
        have hf : PartsAre [⟨pa, na, ca, xa⟩, ⟨pb, nb, cb, xb⟩] (sp 5) w' := (hdp 5 (List.mem_of_elem_eq_true (by kernel_rfl))).2
        (with_reducible refine hf.elim (fun q hv hp => ?_))
        clear hf
        (with_reducible refine asked_call (w1 := w') (f := 8) (args := #[.slice (some ⟨q, 0, none⟩) 2 2]) ?_ ?_ ?_)
        · simp [Region.wanted, yielded, Act.put, go_sem]
        · simp [Act.eval, Act.put, go_sem, hv]
        · refine (sum_calls w' _ _ _ _ (hT.below hG hT.size) hp).mono ?_
          rintro e w5 ⟨q5, rfl, hq, hb, hk⟩
          rw [whole2] at hk
          exact ⟨_, rfl, hb, SumIs.mk q5 _ hk, bstepS hG hb⟩
      case refine_12 =>
        intro D sp w' hD hW hdp hG
        (with_reducible refine asked_call (w1 := w') (f := 12) (args := #[.pointer (some ⟨g, 0, none⟩)]) ?_ ?_ ?_)
        · simp [Region.wanted, yielded, Act.put, go_sem]
        · simp [Act.eval, Act.put, go_sem]
        · refine (hsum_calls w' g _ (hT.below hG hT.size) (hG2.below hG hG2.lt)).mono ?_
          rintro e w5 ⟨q, rfl, hq, hb, hk⟩
          exact ⟨_, rfl, hb, SumIs.mk q _ hk, bstepS hG hb⟩
      case refine_16 =>
        intro D sp w' hD hW hdp hG
        (with_reducible refine asked_value (v := .slice (some ⟨w'.heap.size, 0, none⟩) 2 2) (w1 := w'.alloc (.cells #[.slice pa na ca, .slice pc nc cc] 22)) ?_ ?_ ?_)
        · simp [Region.wanted, yielded, Act.put, go_sem]
        · simp [execOp, Act.eval, Act.put, go_sem]
        · have hb : Below w'.heap.size w' (w'.alloc (.cells #[.slice pa na ca, .slice pc nc cc] 22)) := (Below.refl _ _).alloc (Nat.le_refl _) _
          exact ⟨hb, PartsAre.mk w'.heap.size _ (parts2 w' ⟨pa, na, ca, _⟩ ⟨pc, nc, cc, _⟩ (hPa.below hG) (hPc.below hG)), bstepS hG hb⟩
      case refine_17 =>
        intro D sp w' hD hW hdp hG
        have hf : PartsAre [⟨pa, na, ca, xa⟩, ⟨pc, nc, cc, xc⟩] (sp 15) w' := (hdp 15 (List.mem_of_elem_eq_true (by kernel_rfl))).2
        (with_reducible refine hf.elim (fun q hv hp => ?_))
        clear hf
        (with_reducible refine asked_call (w1 := w') (f := 8) (args := #[.slice (some ⟨q, 0, none⟩) 2 2]) ?_ ?_ ?_)
        · simp [Region.wanted, yielded, Act.put, go_sem]
        · simp [Act.eval, Act.put, go_sem, hv]
        · refine (sum_calls w' _ _ _ _ (hT.below hG hT.size) hp).mono ?_
          rintro e w5 ⟨q5, rfl, hq, hb, hk⟩
          rw [whole2] at hk
          exact ⟨_, rfl, hb, SumIs.mk q5 _ hk, bstepS hG hb⟩
      case refine_3 =>
        intro D sp w' hD hW hdp hG
        have hf : SumIs (xa ++ xb) (sp 1) w' := (hdp 1 (List.mem_of_elem_eq_true (by kernel_rfl))).2
        (with_reducible refine hf.elim (fun q hv hp => ?_))
        clear hf
        have k := convert_row hp
        (with_reducible refine asked_value (v := .string S1) (w1 := w') ?_ ?_ ⟨rfl, rfl⟩)
        · simp [Region.wanted, yielded, Act.put, go_sem]
        · rw [hS1] at k
          simp [execOp, Act.eval, Act.put, go_sem, hv, k]
      case refine_8 =>
        intro D sp w' hD hW hdp hG
        have hf : SumIs (xa ++ xb) (sp 6) w' := (hdp 6 (List.mem_of_elem_eq_true (by kernel_rfl))).2
        (with_reducible refine hf.elim (fun q hv hp => ?_))
        clear hf
        have k := convert_row hp
        (with_reducible refine asked_value (v := .string S1) (w1 := w') ?_ ?_ ⟨rfl, rfl⟩)
        · simp [Region.wanted, yielded, Act.put, go_sem]
        · rw [hS1] at k
          simp [execOp, Act.eval, Act.put, go_sem, hv, k]
      case refine_13 =>
        intro D sp w' hD hW hdp hG
        have hf : SumIs (xa ++ xc) (sp 11) w' := (hdp 11 (List.mem_of_elem_eq_true (by kernel_rfl))).2
        (with_reducible refine hf.elim (fun q hv hp => ?_))
        clear hf
        have k := convert_row hp
        (with_reducible refine asked_value (v := .string S2) (w1 := w') ?_ ?_ ⟨rfl, rfl⟩)
        · simp [Region.wanted, yielded, Act.put, go_sem]
        · rw [hS2] at k
          simp [execOp, Act.eval, Act.put, go_sem, hv, k]
      case refine_18 =>
        intro D sp w' hD hW hdp hG
        have hf : SumIs (xa ++ xc) (sp 16) w' := (hdp 16 (List.mem_of_elem_eq_true (by kernel_rfl))).2
        (with_reducible refine hf.elim (fun q hv hp => ?_))
        clear hf
        have k := convert_row hp
        (with_reducible refine asked_value (v := .string S2) (w1 := w') ?_ ?_ ⟨rfl, rfl⟩)
        · simp [Region.wanted, yielded, Act.put, go_sem]
        · rw [hS2] at k
          simp [execOp, Act.eval, Act.put, go_sem, hv, k]
      all_goals
        intro D sp w' hD hW hdp hG
        simp [asked, Region.wanted, yielded, Oper.gives, execOp, Act.eval, Act.put, go_sem]
    · intro sp w' hsp hG
      clear hsp hS1 hS2 hH hG2 hPa hPb hPc hT
      simp only [frameOf, Nat.reduceAdd]
      generalize sp 1 = u1
      generalize sp 5 = u5
      generalize sp 6 = u6
      generalize sp 11 = u11
      generalize sp 15 = u15
      generalize sp 16 = u16
      go_simp
      go_wp2
      go_ret
      exact ⟨rfl, hB.trans (hG.mono hB.size)⟩
  · clear hA hB0 hC
    by_cases hsm : na ≤ 3000 ∧ nb ≤ 3000 ∧ nc ≤ 3000
    · obtain ⟨m1, m2, m3⟩ := hsm
      have hs1 : (3000 : Int) < (na : Int) + nb + nc := by omega
      go_enter Tryd.func5, Tryd.ntmps5
      go_wp2_with fail
      refine (lives_calls _ rfl w hT0).mono ?_
      rintro e w1 ⟨rfl, hb1⟩
      have hT1 := hT0.below hb1 hT0.size
      go_wp2_with fail
      refine (lives_calls _ rfl w1 hT1).mono ?_
      rintro e w2 ⟨rfl, hb2⟩
      go_wp2
      go_ret
      exact ⟨rfl, bstepS hb1 hb2⟩
    · obtain ⟨s1, hs1⟩ : ∃ s1, IntKind.i64.wrap ((na : Int) + nb) = s1 := ⟨_, rfl⟩
      obtain ⟨s2, hs2⟩ : ∃ s2, IntKind.i64.wrap (s1 + (nc : Int)) = s2 := ⟨_, rfl⟩
      by_cases h3 : 3000 < s2
      · go_enter Tryd.func5, Tryd.ntmps5
        go_wp2_with fail
        refine (lives_calls _ rfl w hT0).mono ?_
        rintro e w1 ⟨rfl, hb1⟩
        have hT1 := hT0.below hb1 hT0.size
        go_wp2_with fail
        refine (lives_calls _ rfl w1 hT1).mono ?_
        rintro e w2 ⟨rfl, hb2⟩
        go_wp2
        go_ret
        exact ⟨rfl, bstepS hb1 hb2⟩
      · by_cases h4 : 3000 < na
        · have h4' : (3000 : Int) < na := by omega
          go_enter Tryd.func5, Tryd.ntmps5
          go_wp2_with fail
          refine (lives_calls _ rfl w hT0).mono ?_
          rintro e w1 ⟨rfl, hb1⟩
          have hT1 := hT0.below hb1 hT0.size
          go_wp2_with fail
          refine (lives_calls _ rfl w1 hT1).mono ?_
          rintro e w2 ⟨rfl, hb2⟩
          go_wp2
          go_ret
          exact ⟨rfl, bstepS hb1 hb2⟩
        · by_cases h5 : 3000 < nb
          · have h5' : (3000 : Int) < nb := by omega
            have h4' : ¬ (3000 : Int) < na := by omega
            go_enter Tryd.func5, Tryd.ntmps5
            go_wp2_with fail
            refine (lives_calls _ rfl w hT0).mono ?_
            rintro e w1 ⟨rfl, hb1⟩
            have hT1 := hT0.below hb1 hT0.size
            go_wp2_with fail
            refine (lives_calls _ rfl w1 hT1).mono ?_
            rintro e w2 ⟨rfl, hb2⟩
            go_wp2
            go_ret
            exact ⟨rfl, bstepS hb1 hb2⟩
          · have h6' : (3000 : Int) < nc := by omega
            have h4' : ¬ (3000 : Int) < na := by omega
            have h5' : ¬ (3000 : Int) < nb := by omega
            go_enter Tryd.func5, Tryd.ntmps5
            go_wp2_with fail
            refine (lives_calls _ rfl w hT0).mono ?_
            rintro e w1 ⟨rfl, hb1⟩
            have hT1 := hT0.below hb1 hT0.size
            go_wp2_with fail
            refine (lives_calls _ rfl w1 hT1).mono ?_
            rintro e w2 ⟨rfl, hb2⟩
            go_wp2
            go_ret
            exact ⟨rfl, bstepS hb1 hb2⟩
end Go.Proofs.YtdfnimlmchehlaaDoor
