/- A key of more than 64 bytes is its sum; a tag goes over all bytes, however they are cut: the law. -/
import Derived.Test.YtpphjgljoapfpaaDoorMacK
namespace Go.Proofs.YtpphjgljoapfpaaDoor
open Go Go.RowKit Go.Proofs.YtpphjgljoapfpaaDoor.Flow

theorem few_whole {L : List Part} (hF : fewB L = true) (hok : ∀ P ∈ L, P.n = P.bs.length) : (whole L).length ≤ 500 * L.length := by
  induction L with
  | nil => simp [whole]
  | cons P L ih =>
    simp only [fewB, List.all_cons, Bool.and_eq_true, decide_eq_true_eq] at hF
    have h1 := ih hF.2 (fun Q hQ => hok Q (by simp [hQ]))
    have h2 := hok P (by simp)
    have e : whole (P :: L) = P.bs ++ whole L := rfl
    rw [e, List.length_append, List.length_cons]
    omega

set_option maxHeartbeats 4000000 in
set_option maxRecDepth 1000000 in
theorem keys_calls (w : World) (hT0 : Tabs w) (pk pp : Option Addr) (nk np ck cp : Nat) (key : List Nat) (L : List Part) (hK : PartOk w ⟨pk, nk, ck, key⟩) (hP : PartsIn w pp np cp L) (hz : Whole0 L) :
    Calls Tryd.prog 11 #[.slice pk nk ck, .slice pp np cp] w fun e w' => e = .returned (.bool true) ∧ Below w.heap.size w w' := by
  have HK : Hold (PartOk w ⟨pk, nk, ck, key⟩) := ⟨hK⟩
  have HP : Hold (PartsIn w pp np cp L) := ⟨hP⟩
  have HZ : Hold (Whole0 L) := ⟨hz⟩
  have mk := hK.row.max
  have mck := hK.row.cap
  have mp := hP.max
  have mcp := hP.cap
  have hkl : Hold (nk = key.length) := ⟨hK.row.len⟩
  have hpl : Hold (np = L.length) := ⟨hP.len⟩
  dsimp only at mk mck
  clear hK hP hz
  have HL1 : Hold (∀ w0, Below w.heap.size w w0 → PartsIn (w0.alloc (.cells #[.slice pk nk ck] 22)) (some ⟨w0.heap.size, 0, none⟩) 1 1 [⟨pk, nk, ck, key⟩]) := ⟨fun w0 hb => parts1 w0 ⟨pk, nk, ck, key⟩ (HK.out.below hb)⟩
  have HL2 : Hold (∀ w0, Below w.heap.size w w0 → Below w.heap.size w (w0.alloc (.cells #[.slice pk nk ck] 22))) := ⟨fun w0 hb => bstepS hb ((Below.refl _ _).alloc (Nat.le_refl _) _)⟩
  by_cases h1 : nk ≤ 500
  · have e1 : fewB [⟨pk, nk, ck, key⟩] = true := by simp [fewB, h1]
    cases hF : fewB L with
    | true =>
      by_cases h3 : np ≤ 10
      · go_enter Tryd.func11, Tryd.ntmps11
        go_wp2_with fail
        refine (lives4_calls w hT0).mono ?_
        rintro e w1 ⟨rfl, hb1⟩
        go_wp2_with fail
        refine (few_calls _ _ _ _ _ (HL1.out w1 hb1)).mono ?_
        rintro e w2 ⟨rfl, rfl⟩
        rw [e1]
        have hb2 := HL2.out w1 hb1
        go_wp2_with fail
        refine (few_calls _ _ _ _ _ (HP.out.below hb2)).mono ?_
        rintro e w3 ⟨rfl, rfl⟩
        rw [hF]
        generalize w1.alloc (.cells #[.slice pk nk ck] 22) = w2 at *
        have hT2 := hT0.below hb2 hT0.size
        have hKl : Hold ((whole L).length ≤ 5000) := ⟨by
          have h := few_whole hF (fun P hP => by
            obtain ⟨i, hi⟩ := List.getElem?_of_mem hP
            exact (HP.out.ok i P hi).row.len)
          have := hpl.out
          omega⟩
        clear HL1 HL2 hb1 e1 hF
        go_wp2
        go_loopw [5, 30] (fun x i wr => ∃ (k : Nat) (v : Value), k ≤ np ∧ i = .int .i64 k ∧ v = x ∧ Below w2.heap.size w2 wr ∧ Own wr w2.heap.size v (whole (L.take k))) (fun _ i _ => np - (intOf i).toNat)
        case atStart => exact ⟨0, _, by omega, rfl, rfl, Below.refl _ _, Own.nil _ _⟩
        case round =>
          obtain ⟨k, v, hk, rfl, rfl, hbel, hown⟩ := hrel
          have hbw := hb2.trans (hbel.mono hb2.size)
          by_cases hkn : k < np
          · obtain ⟨b, off, rfl, hb, hc⟩ := HP.out.cells (by omega)
            obtain ⟨P, hP⟩ : ∃ P, L[k]? = some P := ⟨_, List.getElem?_eq_getElem (by have := hpl.out; omega)⟩
            have hok := (HP.out.ok k P hP).below hbw
            have hz : P.p = none → P.c = 0 := HZ.out P (List.mem_of_getElem? hP)
            have hck : wr.cell? ⟨b, off + k, none⟩ = some (.slice P.p P.n P.c) := by
              rw [(bcell hbw).1 _ _ hb]; exact hc k P hP
            have htk : Hold (whole (L.take (k + 1)) = whole (L.take k) ++ P.bs) := ⟨by rw [List.take_add_one, hP]; exact whole_snoc _ _⟩
            have hlen : Hold ((whole (L.take k)).length + P.n ≤ 140737488355328) := ⟨by
              have h1 : whole L = whole (L.take (k + 1)) ++ whole (L.drop (k + 1)) := by
                unfold whole
                rw [← List.flatMap_append, List.take_append_drop]
              have h2 := hKl.out
              rw [h1, htk.out, List.length_append, List.length_append] at h2
              have := hok.row.len
              omega⟩
            have HOK : Hold (PartOk wr P) := ⟨hok⟩
            have HZP : Hold (P.p = none → P.c = 0) := ⟨hz⟩
            have HOWN : Hold (Own wr w2.heap.size v (whole (L.take k))) := ⟨hown⟩
            have hzr := hbel.size
            clear hc hP hok hz hown
            obtain ⟨qp, qn, qc, qb⟩ := P
            dsimp only at *
            go_wp2_with (at_builtin; refine wpList_app rfl _ _ rfl rfl HOWN.out rfl HOK.out.row HZP.out hlen.out hzr ?_; intro v1 w3 ho1 hg1)
            rw [← htk.out] at ho1
            have hb3 := grown_below hg1 hzr HOWN.out.ge
            go_wp2
            go_roundw
            case rel => exact ⟨k + 1, v1, by omega, by go_num, rfl, hbel.trans hb3, ho1⟩
            case measure => simp [intOf]; omega
          · obtain rfl : k = np := by omega
            rw [List.take_of_length_le (by have := hpl.out; omega)] at hown
            obtain ⟨pa, ca, rfl, hra, _, hza, _⟩ := hown.elim
            have hTr := hT0.below hbw hT0.size
            have hKr := HK.out.below hbw
            have hPr := HP.out.below hbw
            have h8a : Bytes8 (whole L) := by
              intro x hx
              unfold whole at hx
              rw [List.mem_flatMap] at hx
              obtain ⟨P, hP, hx⟩ := hx
              obtain ⟨i, hi⟩ := List.getElem?_of_mem hP
              exact (HP.out.ok i P hi).bytes x hx
            have HAll : Hold (PartOk wr ⟨pa, (whole L).length, ca, whole L⟩) := ⟨⟨hra, h8a⟩⟩
            clear hown hra h8a
            go_wp2_with fail
            refine (macTag_calls wr pk nk ck key pp k cp L hTr hKr.row hKr.bytes hPr).mono ?_
            rintro e w4 ⟨qt, rfl, hq, hb4, hk4⟩
            have hbw4 := bstepS hbw hb4
            have hT4 := hT0.below hbw4 hT0.size
            have HK4 : Hold _ := ⟨HK.out.below hbw4⟩
            have HA4 : Hold _ := ⟨HAll.out.below hb4⟩
            have HR4 : Hold (Row w4 .u8 (some ⟨qt, 0, none⟩) 32 32 (hmac key (whole L))) := ⟨hk4.row (sha_length _).symm (Nat.le_refl _) (by omega)⟩
            clear hk4 hTr hKr hPr hb4 hbel hb2
            obtain ⟨S, hS⟩ : ∃ S, strOf (hmac key (whole L)) = S := ⟨_, rfl⟩
            have HS : Hold _ := ⟨hS⟩
            clear hS
            have hT : Hold (Tabs w4) := ⟨hT4⟩
            clear hT4
            by_cases h64 : 64 < nk
            · have h64' : (64 : Int) < nk := by omega
              have HSha : Hold (hmac (sha key) (whole L) = hmac key (whole L)) := ⟨hmac_sha (by have := hkl.out; omega) _⟩
              go_wp2
              refine wp_region_duties (by kernel_rfl) (by kernel_rfl)
                [some (.slice pk nk ck), some (.int .i64 nk), some (.bool true), some (.bool true), some (.slice (some ⟨qt, 0, none⟩) 32 32), some (.string S), some (.slice pk nk ck), none, none, some (.slice pa (whole L).length ca), none, none, some (.string S), some (.bool false), some (.bool false)]
                [false, false, false, false, false, false, false, true, true, false, true, true, false, false, false] rfl
                (fun w1 w2 => Below w1.heap.size w1 w2) (fun _ w' => Below w4.heap.size w4 w')
                (fun i v w' => match i with
                  | 7 => PartsAre [⟨pk, nk, ck, key⟩] v w'
                  | 8 => SumIs key v w'
                  | 10 => PartsAre [⟨pa, (whole L).length, ca, whole L⟩] v w'
                  | 11 => SumIs (tagged (sha key) (whole L)) v w'
                  | _ => True)
                ?_ ((Below.refl _ _).drew) ?_ ?_
              · intro i v w1 w2 hf hb
                split at hf
                · exact hf.below hb
                · exact hf.below hb
                · exact hf.below hb
                · exact hf.below hb
                · trivial
              · simp only [Duties, Nat.reduceAdd]
                refine ⟨?_, ?_, ?_, ?_, ?_, ?_, ?_, ?_, ?_, ?_, ?_, ?_, ?_, ?_, ?_, trivial⟩
                case refine_6 =>
                  intro D sp w' hD hW hdp hG
                  have k := convert_row (HR4.out.below hG)
                  rw [HS.out] at k
                  (with_reducible refine asked_value (v := .string S) (w1 := w') ?_ ?_ ⟨rfl, rfl⟩)
                  · simp [Region.wanted, yielded, Act.put, go_sem]
                  · simp [execOp, Act.eval, Act.put, go_sem, k]
                case refine_8 =>
                  intro D sp w' hD hW hdp hG
                  have hb : Below w'.heap.size w' (w'.alloc (.cells #[.slice pk nk ck] 22)) := (Below.refl _ _).alloc (Nat.le_refl _) _
                  (with_reducible refine asked_value (v := .slice (some ⟨w'.heap.size, 0, none⟩) 1 1) (w1 := w'.alloc (.cells #[.slice pk nk ck] 22)) ?_ ?_ ⟨hb, PartsAre.mk1 w'.heap.size _ (parts1 w' ⟨pk, nk, ck, key⟩ (HK4.out.below hG)), bstepS hG hb⟩)
                  · simp [Region.wanted, yielded, Act.put, go_sem]
                  · simp [execOp, Act.eval, Act.put, go_sem]
                case refine_9 =>
                  intro D sp w' hD hW hdp hG
                  have hf : PartsAre [⟨pk, nk, ck, key⟩] (sp 7) w' := (hdp 7 (List.mem_of_elem_eq_true (by kernel_rfl))).2
                  (with_reducible refine hf.elim1 (fun q hv hp => ?_))
                  clear hf
                  (with_reducible refine asked_call (w1 := w') (f := 13) (args := #[.slice (some ⟨q, 0, none⟩) 1 1]) ?_ ?_ ?_)
                  · simp [Region.wanted, yielded, Act.put, go_sem]
                  · simp [Act.eval, Act.put, go_sem, hv]
                  · refine (sum_calls w' _ _ _ _ (hT.out.below hG hT.out.size) hp).mono ?_
                    rintro e w6 ⟨q5, rfl, hq, hb, hk⟩
                    rw [whole_one] at hk
                    exact ⟨_, rfl, hb, SumIs.mk q5 _ hk, bstepS hG hb⟩
                case refine_11 =>
                  intro D sp w' hD hW hdp hG
                  have hb : Below w'.heap.size w' (w'.alloc (.cells #[.slice pa (whole L).length ca] 22)) := (Below.refl _ _).alloc (Nat.le_refl _) _
                  (with_reducible refine asked_value (v := .slice (some ⟨w'.heap.size, 0, none⟩) 1 1) (w1 := w'.alloc (.cells #[.slice pa (whole L).length ca] 22)) ?_ ?_ ⟨hb, PartsAre.mk1 w'.heap.size _ (parts1 w' ⟨pa, (whole L).length, ca, whole L⟩ (HA4.out.below hG)), bstepS hG hb⟩)
                  · simp [Region.wanted, yielded, Act.put, go_sem]
                  · simp [execOp, Act.eval, Act.put, go_sem]
                case refine_12 =>
                  intro D sp w' hD hW hdp hG
                  have hf : SumIs key (sp 8) w' := (hdp 8 (List.mem_of_elem_eq_true (by kernel_rfl))).2
                  (with_reducible refine hf.elim (fun q8 hv8 hp8 => ?_))
                  clear hf
                  have hf : PartsAre [⟨pa, (whole L).length, ca, whole L⟩] (sp 10) w' := (hdp 10 (List.mem_of_elem_eq_true (by kernel_rfl))).2
                  (with_reducible refine hf.elim1 (fun q hv hp => ?_))
                  clear hf
                  (with_reducible refine asked_call (w1 := w') (f := 24) (args := #[.slice (some ⟨q8, 0, none⟩) 32 32, .slice (some ⟨q, 0, none⟩) 1 1]) ?_ ?_ ?_)
                  · simp [Region.wanted, yielded, Act.put, go_sem]
                  · simp [Act.eval, Act.put, go_sem, hv, hv8]
                  · refine (macTag_calls w' (some ⟨q8, 0, none⟩) 32 32 (sha key) _ _ _ _ (hT.out.below hG hT.out.size) ⟨(sha_length _).symm, Nat.le_refl _, by omega, fun _ => hp8⟩ (sha_bytes _) hp).mono ?_
                    rintro e w6 ⟨q5, rfl, hq, hb, hk⟩
                    rw [whole_one] at hk
                    exact ⟨_, rfl, hb, SumIs.mk q5 _ hk, bstepS hG hb⟩
                case refine_13 =>
                  intro D sp w' hD hW hdp hG
                  have hf : SumIs (tagged (sha key) (whole L)) (sp 11) w' := (hdp 11 (List.mem_of_elem_eq_true (by kernel_rfl))).2
                  (with_reducible refine hf.elim (fun q hv hp => ?_))
                  clear hf
                  have k : _ = Result.ok (Value.string (strOf (hmac (sha key) (whole L)))) w' := convert_row hp
                  rw [HSha.out, HS.out] at k
                  (with_reducible refine asked_value (v := .string S) (w1 := w') ?_ ?_ ⟨rfl, rfl⟩)
                  · simp [Region.wanted, yielded, Act.put, go_sem]
                  · simp [execOp, Act.eval, Act.put, go_sem, hv, k]
                all_goals
                  intro D sp w' hD hW hdp hG
                  simp [asked, Region.wanted, yielded, Oper.gives, execOp, Act.eval, Act.put, go_sem, h64']
              · intro sp w5 hsp hG4
                clear hsp
                simp only [frameOf, Nat.reduceAdd]
                generalize sp 7 = u7''
                generalize sp 8 = u8''
                generalize sp 10 = u10''
                generalize sp 11 = u11''
                have HR : Hold _ := ⟨HR4.out.below hG4⟩
                have HA5 : Hold _ := ⟨HA4.out.below hG4⟩
                have HK5 : Hold _ := ⟨HK4.out.below hG4⟩
                have hT5 : Hold _ := ⟨hT.out.below hG4 hT.out.size⟩
                have hbw5 := bstepS hbw4 hG4
                clear hG4 HR4 HA4 HK4 hT hbw4
                go_simp
                go_wp2
                refine wp_region_duties (by kernel_rfl) (by kernel_rfl)
                  [some (.slice (some ⟨qt, 0, none⟩) 32 32), some (.string S), some (.slice pk nk ck), some (.slice pa (whole L).length ca), none, none, some (.string S), some (.bool true), some (.bool true), some (.slice (some ⟨qt, 0, none⟩) 32 32), some (.int .i64 32), some (.bool true), some (.bool true), some (.bool true)]
                  [false, false, false, false, true, true, false, false, false, false, false, false, false, false] rfl
                  (fun w1 w2 => Below w1.heap.size w1 w2) (fun _ w' => Below w5.heap.size w5 w')
                  (fun i v w' => match i with
                    | 4 => PartsAre [⟨pa, (whole L).length, ca, whole L⟩] v w'
                    | 5 => SumIs (tagged key (whole L)) v w'
                    | _ => True)
                  ?_ ((Below.refl _ _).drew) ?_ ?_
                · intro i v w1 w2 hf hb
                  split at hf
                  · exact hf.below hb
                  · exact hf.below hb
                  · trivial
                · simp only [Duties, Nat.reduceAdd]
                  refine ⟨?_, ?_, ?_, ?_, ?_, ?_, ?_, ?_, ?_, ?_, ?_, ?_, ?_, ?_, trivial⟩
                  case refine_2 =>
                    intro D sp w' hD hW hdp hG
                    have k := convert_row (HR.out.below hG)
                    rw [HS.out] at k
                    (with_reducible refine asked_value (v := .string S) (w1 := w') ?_ ?_ ⟨rfl, rfl⟩)
                    · simp [Region.wanted, go_sem]
                    · simp [execOp, Act.eval, Act.put, go_sem, k]
                  case refine_5 =>
                    intro D sp w' hD hW hdp hG
                    have hb : Below w'.heap.size w' (w'.alloc (.cells #[.slice pa (whole L).length ca] 22)) := (Below.refl _ _).alloc (Nat.le_refl _) _
                    (with_reducible refine asked_value (v := .slice (some ⟨w'.heap.size, 0, none⟩) 1 1) (w1 := w'.alloc (.cells #[.slice pa (whole L).length ca] 22)) ?_ ?_ ⟨hb, PartsAre.mk1 w'.heap.size _ (parts1 w' ⟨pa, (whole L).length, ca, whole L⟩ (HA5.out.below hG)), bstepS hG hb⟩)
                    · simp [Region.wanted, go_sem]
                    · simp [execOp, Act.eval, Act.put, go_sem]
                  case refine_6 =>
                    intro D sp w' hD hW hdp hG
                    have hf : PartsAre [⟨pa, (whole L).length, ca, whole L⟩] (sp 4) w' := (hdp 4 (List.mem_of_elem_eq_true (by kernel_rfl))).2
                    (with_reducible refine hf.elim1 (fun q hv hp => ?_))
                    clear hf
                    (with_reducible refine asked_call (w1 := w') (f := 24) (args := #[.slice pk nk ck, .slice (some ⟨q, 0, none⟩) 1 1]) ?_ ?_ ?_)
                    · simp [Region.wanted, go_sem]
                    · simp [Act.eval, Act.put, go_sem, hv]
                    · refine (macTag_calls w' pk nk ck key _ _ _ _ (hT5.out.below hG hT5.out.size) (HK5.out.below hG).row HK5.out.bytes hp).mono ?_
                      rintro e w6 ⟨q5, rfl, hq, hb, hk⟩
                      rw [whole_one] at hk
                      exact ⟨_, rfl, hb, SumIs.mk q5 _ hk, bstepS hG hb⟩
                  case refine_7 =>
                    intro D sp w' hD hW hdp hG
                    have hf : SumIs (tagged key (whole L)) (sp 5) w' := (hdp 5 (List.mem_of_elem_eq_true (by kernel_rfl))).2
                    (with_reducible refine hf.elim (fun q hv hp => ?_))
                    clear hf
                    have k : _ = Result.ok (Value.string (strOf (hmac key (whole L)))) w' := convert_row hp
                    rw [HS.out] at k
                    (with_reducible refine asked_value (v := .string S) (w1 := w') ?_ ?_ ⟨rfl, rfl⟩)
                    · simp [Region.wanted, go_sem]
                    · simp [execOp, Act.eval, Act.put, go_sem, hv, k]
                  all_goals
                    intro D sp w' hD hW hdp hG
                    simp [asked, Region.wanted, yielded, Oper.gives, execOp, Act.eval, Act.put, go_sem]
                · intro sp w' hsp hG
                  clear hsp
                  simp only [frameOf, Nat.reduceAdd]
                  generalize sp 4 = u4'
                  generalize sp 5 = u5'
                  go_simp
                  go_wp2
                  go_ret
                  exact ⟨rfl, bstepS hbw5 hG⟩
            · have h64' : ¬ (64 : Int) < nk := by omega
              go_wp2
              refine wp_region_duties (by kernel_rfl) (by kernel_rfl)
                [some (.slice pk nk ck), some (.int .i64 nk), some (.bool false), some (.bool false), some undef, some undef, some undef, some undef, some undef, some undef, some undef, some undef, some undef, some undef, some (.bool false)]
                [false, false, false, false, false, false, false, false, false, false, false, false, false, false, false] rfl
                (fun w1 w2 => Below w1.heap.size w1 w2) (fun _ w' => Below w4.heap.size w4 w')
                (fun _ _ _ => True)
                (fun _ _ _ _ h _ => h) ((Below.refl _ _).drew) ?_ ?_
              · simp only [Duties, Nat.reduceAdd]
                refine ⟨?_, ?_, ?_, ?_, ?_, ?_, ?_, ?_, ?_, ?_, ?_, ?_, ?_, ?_, ?_, trivial⟩
                all_goals
                  intro D sp w' hD hW hdp hG
                  simp [asked, Region.wanted, yielded, Oper.gives, execOp, Act.eval, Act.put, go_sem, h64']
              · intro sp w5 hsp hG4
                clear hsp
                simp only [frameOf]
                have HR : Hold _ := ⟨HR4.out.below hG4⟩
                have HA5 : Hold _ := ⟨HA4.out.below hG4⟩
                have HK5 : Hold _ := ⟨HK4.out.below hG4⟩
                have hT5 : Hold _ := ⟨hT.out.below hG4 hT.out.size⟩
                have hbw5 := bstepS hbw4 hG4
                clear hG4 HR4 HA4 HK4 hT hbw4
                go_simp
                go_wp2
                refine wp_region_duties (by kernel_rfl) (by kernel_rfl)
                  [some (.slice (some ⟨qt, 0, none⟩) 32 32), some (.string S), some (.slice pk nk ck), some (.slice pa (whole L).length ca), none, none, some (.string S), some (.bool true), some (.bool true), some (.slice (some ⟨qt, 0, none⟩) 32 32), some (.int .i64 32), some (.bool true), some (.bool true), some (.bool true)]
                  [false, false, false, false, true, true, false, false, false, false, false, false, false, false] rfl
                  (fun w1 w2 => Below w1.heap.size w1 w2) (fun _ w' => Below w5.heap.size w5 w')
                  (fun i v w' => match i with
                    | 4 => PartsAre [⟨pa, (whole L).length, ca, whole L⟩] v w'
                    | 5 => SumIs (tagged key (whole L)) v w'
                    | _ => True)
                  ?_ ((Below.refl _ _).drew) ?_ ?_
                · intro i v w1 w2 hf hb
                  split at hf
                  · exact hf.below hb
                  · exact hf.below hb
                  · trivial
                · simp only [Duties, Nat.reduceAdd]
                  refine ⟨?_, ?_, ?_, ?_, ?_, ?_, ?_, ?_, ?_, ?_, ?_, ?_, ?_, ?_, trivial⟩
                  case refine_2 =>
                    intro D sp w' hD hW hdp hG
                    have k := convert_row (HR.out.below hG)
                    rw [HS.out] at k
                    (with_reducible refine asked_value (v := .string S) (w1 := w') ?_ ?_ ⟨rfl, rfl⟩)
                    · simp [Region.wanted, go_sem]
                    · simp [execOp, Act.eval, Act.put, go_sem, k]
                  case refine_5 =>
                    intro D sp w' hD hW hdp hG
                    have hb : Below w'.heap.size w' (w'.alloc (.cells #[.slice pa (whole L).length ca] 22)) := (Below.refl _ _).alloc (Nat.le_refl _) _
                    (with_reducible refine asked_value (v := .slice (some ⟨w'.heap.size, 0, none⟩) 1 1) (w1 := w'.alloc (.cells #[.slice pa (whole L).length ca] 22)) ?_ ?_ ⟨hb, PartsAre.mk1 w'.heap.size _ (parts1 w' ⟨pa, (whole L).length, ca, whole L⟩ (HA5.out.below hG)), bstepS hG hb⟩)
                    · simp [Region.wanted, go_sem]
                    · simp [execOp, Act.eval, Act.put, go_sem]
                  case refine_6 =>
                    intro D sp w' hD hW hdp hG
                    have hf : PartsAre [⟨pa, (whole L).length, ca, whole L⟩] (sp 4) w' := (hdp 4 (List.mem_of_elem_eq_true (by kernel_rfl))).2
                    (with_reducible refine hf.elim1 (fun q hv hp => ?_))
                    clear hf
                    (with_reducible refine asked_call (w1 := w') (f := 24) (args := #[.slice pk nk ck, .slice (some ⟨q, 0, none⟩) 1 1]) ?_ ?_ ?_)
                    · simp [Region.wanted, go_sem]
                    · simp [Act.eval, Act.put, go_sem, hv]
                    · refine (macTag_calls w' pk nk ck key _ _ _ _ (hT5.out.below hG hT5.out.size) (HK5.out.below hG).row HK5.out.bytes hp).mono ?_
                      rintro e w6 ⟨q5, rfl, hq, hb, hk⟩
                      rw [whole_one] at hk
                      exact ⟨_, rfl, hb, SumIs.mk q5 _ hk, bstepS hG hb⟩
                  case refine_7 =>
                    intro D sp w' hD hW hdp hG
                    have hf : SumIs (tagged key (whole L)) (sp 5) w' := (hdp 5 (List.mem_of_elem_eq_true (by kernel_rfl))).2
                    (with_reducible refine hf.elim (fun q hv hp => ?_))
                    clear hf
                    have k : _ = Result.ok (Value.string (strOf (hmac key (whole L)))) w' := convert_row hp
                    rw [HS.out] at k
                    (with_reducible refine asked_value (v := .string S) (w1 := w') ?_ ?_ ⟨rfl, rfl⟩)
                    · simp [Region.wanted, go_sem]
                    · simp [execOp, Act.eval, Act.put, go_sem, hv, k]
                  all_goals
                    intro D sp w' hD hW hdp hG
                    simp [asked, Region.wanted, yielded, Oper.gives, execOp, Act.eval, Act.put, go_sem]
                · intro sp w' hsp hG
                  clear hsp
                  simp only [frameOf, Nat.reduceAdd]
                  generalize sp 4 = u4'
                  generalize sp 5 = u5'
                  go_simp
                  go_wp2
                  go_ret
                  exact ⟨rfl, bstepS hbw5 hG⟩
      · have h3' : (10 : Int) < np := by omega
        go_enter Tryd.func11, Tryd.ntmps11
        go_wp2_with fail
        refine (lives4_calls w hT0).mono ?_
        rintro e w1 ⟨rfl, hb1⟩
        go_wp2_with fail
        refine (few_calls _ _ _ _ _ (HL1.out w1 hb1)).mono ?_
        rintro e w2 ⟨rfl, rfl⟩
        rw [e1]
        have hb2 := HL2.out w1 hb1
        go_wp2_with fail
        refine (few_calls _ _ _ _ _ (HP.out.below hb2)).mono ?_
        rintro e w3 ⟨rfl, rfl⟩
        rw [hF]
        go_wp2_with fail
        refine (lives4_calls _ (hT0.below hb2 hT0.size)).mono ?_
        rintro e w4 ⟨rfl, hb4⟩
        go_wp2
        go_ret
        exact ⟨rfl, bstepS hb2 hb4⟩
    | false =>
      go_enter Tryd.func11, Tryd.ntmps11
      go_wp2_with fail
      refine (lives4_calls w hT0).mono ?_
      rintro e w1 ⟨rfl, hb1⟩
      go_wp2_with fail
      refine (few_calls _ _ _ _ _ (HL1.out w1 hb1)).mono ?_
      rintro e w2 ⟨rfl, rfl⟩
      rw [e1]
      have hb2 := HL2.out w1 hb1
      go_wp2_with fail
      refine (few_calls _ _ _ _ _ (HP.out.below hb2)).mono ?_
      rintro e w3 ⟨rfl, rfl⟩
      rw [hF]
      go_wp2_with fail
      refine (lives4_calls _ (hT0.below hb2 hT0.size)).mono ?_
      rintro e w4 ⟨rfl, hb4⟩
      go_wp2
      go_ret
      exact ⟨rfl, bstepS hb2 hb4⟩
  · have e1 : fewB [⟨pk, nk, ck, key⟩] = false := by simp [fewB]; omega
    go_enter Tryd.func11, Tryd.ntmps11
    go_wp2_with fail
    refine (lives4_calls w hT0).mono ?_
    rintro e w1 ⟨rfl, hb1⟩
    go_wp2_with fail
    refine (few_calls _ _ _ _ _ (HL1.out w1 hb1)).mono ?_
    rintro e w2 ⟨rfl, rfl⟩
    rw [e1]
    have hb2 := HL2.out w1 hb1
    go_wp2_with fail
    refine (lives4_calls _ (hT0.below hb2 hT0.size)).mono ?_
    rintro e w4 ⟨rfl, hb4⟩
    go_wp2
    go_ret
    exact ⟨rfl, bstepS hb2 hb4⟩
end Go.Proofs.YtpphjgljoapfpaaDoor
