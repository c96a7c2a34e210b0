/- A shorter expansion is a beginning of a longer one; a short key with a nought behind it is the same key: the law. -/
import Derived.Test.YtnpobaaaoelalaaDoorMacF
import Derived.Test.YtnpobaaaoelalaaDoorMacK
namespace Go.Proofs.YtnpobaaaoelalaaDoor
open Go Go.RowKit Go.Proofs.YtnpobaaaoelalaaDoor.Flow

set_option maxHeartbeats 4000000 in
set_option maxRecDepth 1000000 in
theorem fronts_calls (w : World) (hT0 : Tabs w) (pk pi : Option Addr) (nk ni ck ci : Nat) (key info : List Nat) (a b : Int) (hK : PartOk w ⟨pk, nk, ck, key⟩) (hI : PartOk w ⟨pi, ni, ci, info⟩) (zk : pk = none → ck = 0) (zi : pi = none → ci = 0) :
    Calls Tryd.prog 6 #[.slice pk nk ck, .slice pi ni ci, .int .i64 a, .int .i64 b] w fun e w' => e = .returned (.bool true) ∧ Below w.heap.size w w' := by
  have HK : Hold _ := ⟨hK⟩
  have HI : Hold _ := ⟨hI⟩
  have HZ : Hold ((pk = none → ck = 0) ∧ (pi = none → ci = 0)) := ⟨⟨zk, zi⟩⟩
  have HKl : Hold (nk = key.length) := ⟨hK.row.len⟩
  clear hK hI zk zi
  have HL1 : Hold (∀ w0, Below w.heap.size w w0 → PartsIn (w0.alloc (.cells #[.slice pk nk ck, .slice pi ni ci] 25)) (some ⟨w0.heap.size, 0, none⟩) 2 2 [⟨pk, nk, ck, key⟩, ⟨pi, ni, ci, info⟩]) := ⟨fun w0 hb => parts2 w0 ⟨pk, nk, ck, key⟩ ⟨pi, ni, ci, info⟩ (HK.out.below hb) (HI.out.below hb)⟩
  have HL2 : Hold (∀ w0, Below w.heap.size w w0 → Below w.heap.size w (w0.alloc (.cells #[.slice pk nk ck, .slice pi ni ci] 25))) := ⟨fun w0 hb => bstepS hb ((Below.refl _ _).alloc (Nat.le_refl _) _)⟩
  by_cases hs : nk ≤ 500 ∧ ni ≤ 500
  · obtain ⟨s1, s2⟩ := hs
    have e1 : fewB [⟨pk, nk, ck, key⟩, ⟨pi, ni, ci, info⟩] = true := by simp [fewB, s1, s2]
    obtain ⟨u, hu⟩ : ∃ u : Nat, a % 18446744073709551616 = (u : Int) := ⟨(a % 18446744073709551616).toNat, by omega⟩
    have hu' : IntKind.u64.wrap a = (u : Int) := hu
    obtain ⟨n, hn⟩ : ∃ n : Nat, (u : Int) % 300 = (n : Int) := ⟨u % 300, by omega⟩
    obtain ⟨v, hv⟩ : ∃ v : Nat, b % 18446744073709551616 = (v : Int) := ⟨(b % 18446744073709551616).toNat, by omega⟩
    have hv' : IntKind.u64.wrap b = (v : Int) := hv
    obtain ⟨m, hm⟩ : ∃ m : Nat, (v : Int) % 300 = (m : Int) := ⟨v % 300, by omega⟩
    have hn2 : n ≤ 299 := by omega
    have hm2 : m ≤ 299 := by omega
    obtain ⟨K, hKd⟩ : ∃ K, min n m = K := ⟨_, rfl⟩
    obtain ⟨L, hLd⟩ : ∃ L, max n m = L := ⟨_, rfl⟩
    have hKL : K ≤ L := by omega
    have hL2 : L ≤ 299 := by omega
    have hmin : ∀ (wx : World) ts t, (Builtin.min_ ts t #[.int .i64 (n : Int), .int .i64 (m : Int)]).run Tryd.prog wx = .ok (.int .i64 (K : Int)) wx := fun wx ts t => by
      rw [run_min_int2]; congr 2; split <;> omega
    have hmax : ∀ (wx : World) ts t, (Builtin.max_ ts t #[.int .i64 (n : Int), .int .i64 (m : Int)]).run Tryd.prog wx = .ok (.int .i64 (L : Int)) wx := fun wx ts t => by
      rw [run_max_int2]; congr 2; split <;> omega
    clear hKd hLd
    go_enter Tryd.func6, Tryd.ntmps6
    go_wp2_with fail
    refine (lives4_calls w hT0).mono ?_
    rintro e w0 ⟨rfl, hb0⟩
    go_wp2_with fail
    refine (few_calls _ _ _ _ _ (HL1.out w0 hb0)).mono ?_
    rintro e w00 ⟨rfl, rfl⟩
    rw [e1]
    have hb1 := HL2.out w0 hb0
    generalize w0.alloc (.cells #[.slice pk nk ck, .slice pi ni ci] 25) = w1 at *
    clear hb0 HL1 HL2 e1
    go_wp2_with fail
    refine (expand_calls w1 pk nk ck key pi ni ci info K (hT0.below hb1 hT0.size) (HK.out.below hb1).row HK.out.bytes (HI.out.below hb1) (by omega)).mono ?_
    rintro e w2 ⟨p, rfl, hr2, _, hb2, hz2⟩
    have hbw2 := bstepS hb1 hb2
    go_wp2_with fail
    refine (expand_calls w2 pk nk ck key pi ni ci info L (hT0.below hbw2 hT0.size) (HK.out.below hbw2).row HK.out.bytes (HI.out.below hbw2) (by omega)).mono ?_
    rintro e w3 ⟨q, rfl, hr3, _, hb3, hz3⟩
    have hbw := bstepS hbw2 hb3
    have hr2' := hr2.below hb3
    obtain ⟨Z, hZ⟩ : ∃ Z, (exps key info ((L + 31) / 32)).take L = Z := ⟨_, rfl⟩
    have hZK : (exps key info ((K + 31) / 32)).take K = Z.take K := by rw [← hZ, exps_front key info hKL]
    rw [hZK] at hr2'
    rw [hZ] at hr3
    have hrk : RowIn w3 .u8 q K L (Z.take K) := hr3.take K hKL
    obtain ⟨S, hS⟩ : ∃ S, strOf (Z.take K) = S := ⟨_, rfl⟩
    have k1 := convert_in hr2'
    have k2 := convert_in hrk
    have k3 := fun w' (hb : Below w3.heap.size w3 w') => slice_front (hr3.below hb) K hKL
    have HR : Hold (∀ w', Below w3.heap.size w3 w' → (convert 25 9 (.slice p K K)).run Tryd.prog w' = .ok (.string S) w' ∧ (convert 25 9 (.slice q K L)).run Tryd.prog w' = .ok (.string S) w' ∧
      (Instr.sliceAt 25 (.slice q L L) none (some (.int .i64 (K : Int))) none).run Tryd.prog w' = .ok (.slice q K L) w') := ⟨fun w' hb => by
        rw [← hS]
        exact ⟨convert_in (hr2'.below hb), convert_in (hrk.below hb), k3 w' hb⟩⟩
    have HT : Hold (Tabs w3) := ⟨hT0.below hbw hT0.size⟩
    have HK2 : Hold _ := ⟨HK.out.below hbw⟩
    have HI2 : Hold _ := ⟨HI.out.below hbw⟩
    clear hr2 hr2' hr3 hZ hZK hrk hS k1 k2 k3 hb1 hb2 hbw2 hb3 hz2 hz3 HK HI hu hu' hn hv hv' hm hT0
    go_wp2
    refine wp_region_duties (by kernel_rfl) (by kernel_rfl)
      [some (.int .i64 0), some (.bool false), some (.bool false), some (.int .i64 0), some (.bool false), some (.bool false), some (.bool false), some (.slice q L L), some (.int .i64 (L : Nat)), some (.int .i64 (n : Nat)), some (.int .i64 (m : Nat)), some (.int .i64 (L : Nat)), some (.bool false), some (.bool false), some (.bool false),
       some (.slice p K K), some (.string S), some (.slice q L L), some (.int .i64 (n : Nat)), some (.int .i64 (m : Nat)), some (.int .i64 (K : Nat)), some (.slice q K L), some (.string S), some (.bool false), some (.bool false)]
      [false, false, false, false, false, false, false, false, false, false, false, false, false, false, false, false, false, false, false, false, false, false, false, false, false] rfl
      (fun _ _ => True) (fun _ w' => Below w3.heap.size w3 w') (fun _ _ _ => True) (fun _ _ _ _ h _ => h) ((Below.refl _ _).drew) ?_ ?_
    · simp only [Duties, Nat.reduceAdd]
      refine ⟨?_, ?_, ?_, ?_, ?_, ?_, ?_, ?_, ?_, ?_, ?_, ?_, ?_, ?_, ?_, ?_, ?_, ?_, ?_, ?_, ?_, ?_, ?_, ?_, ?_, trivial⟩
      case refine_17 =>
        intro D sp w' hD hW hdp hG
        have k := (HR.out w' hG).1
        (with_reducible refine asked_value (v := .string S) (w1 := w') ?_ ?_ ⟨rfl, rfl⟩)
        · simp [Region.wanted, yielded, Act.put, go_sem]
        · simp [execOp, Act.eval, Act.put, go_sem, k]
      case refine_23 =>
        intro D sp w' hD hW hdp hG
        have k := (HR.out w' hG).2.1
        (with_reducible refine asked_value (v := .string S) (w1 := w') ?_ ?_ ⟨rfl, rfl⟩)
        · simp [Region.wanted, yielded, Act.put, go_sem]
        · simp [execOp, Act.eval, Act.put, go_sem, k]
      case refine_22 =>
        intro D sp w' hD hW hdp hG
        have k := (HR.out w' hG).2.2
        (with_reducible refine asked_value (v := .slice q K L) (w1 := w') ?_ ?_ ⟨rfl, rfl⟩)
        · simp [Region.wanted, yielded, Act.put, go_sem]
        · simp [execOp, Act.eval, Act.put, k]
      case refine_12 =>
        intro D sp w' hD hW hdp hG
        (with_reducible refine asked_value (v := .int .i64 (L : Nat)) (w1 := w') ?_ ?_ ⟨rfl, rfl⟩)
        · simp [Region.wanted, yielded, Act.put, go_sem]
        · simp [execOp, resolve, invoke, builtin, Act.eval, Act.put, hmax]
      case refine_21 =>
        intro D sp w' hD hW hdp hG
        (with_reducible refine asked_value (v := .int .i64 (K : Nat)) (w1 := w') ?_ ?_ ⟨rfl, rfl⟩)
        · simp [Region.wanted, yielded, Act.put, go_sem]
        · simp [execOp, resolve, invoke, builtin, Act.eval, Act.put, hmin]
      all_goals
        intro D sp w' hD hW hdp hG
        simp [asked, Region.wanted, yielded, Oper.gives, execOp, Act.eval, Act.put, go_sem]
    · intro sp w4 hsp hG4
      clear hsp
      simp only [frameOf]
      have HT4 : Hold (Tabs w4) := ⟨HT.out.below hG4 HT.out.size⟩
      have HK4 : Hold _ := ⟨HK2.out.below hG4⟩
      have HI4 : Hold _ := ⟨HI2.out.below hG4⟩
      have hbw4 := bstepS hbw hG4
      clear HT HK2 HI2 HR hG4 hbw
      go_simp
      by_cases h64 : nk < 64
      · have h64' : ¬ (64 : Int) ≤ nk := by omega
        have HNo : Hold (hmac (key ++ [0]) info = hmac key info) := ⟨hmac_nought (by have := HKl.out; omega) info⟩
        have h8n : Hold (Bytes8 (key ++ [0])) := ⟨fun x hx => by
          rcases List.mem_append.1 hx with h | h
          · exact HK4.out.bytes x h
          · have := List.mem_singleton.1 h; omega⟩
        have hkl5 : Hold (key.length + 1 ≤ 140737488355328) := ⟨by have := HKl.out; omega⟩
        obtain ⟨S2, hS2⟩ : ∃ S, strOf (hmac key info) = S := ⟨_, rfl⟩
        have HS2 : Hold _ := ⟨hS2⟩
        have hml : Hold ((hmac key info).length = 32) := ⟨hmac_length _ _⟩
        clear hS2
        go_wp2
        refine wp_region_dutiesS (by kernel_rfl) (by kernel_rfl)
          [some (.slice pk nk ck), some (.slice pi ni ci), none, none, some (.string S2), none, some (.slice pk nk ck), none, none, none, some (.slice pi ni ci), none, none, some (.string S2), some (.bool true), some (.bool true)]
          [false, false, true, true, false, true, false, true, true, true, false, true, true, false, false, false] rfl
          (fun _ _ => True) (FG w4 (partObj pi ni ci) (hmac key info) key) (fun _ _ _ => True) (fun _ _ _ _ h _ => h)
          ⟨(Below.refl _ _).drew, (fun e => by cases e), (fun e => by cases e), (fun e => by cases e), (fun e => by cases e), (fun e => by cases e), (fun e => by cases e), (fun e => by cases e), (fun e => by cases e), (fun e => by cases e), (fun e => by cases e), fun _ _ _ _ e => by cases e⟩ ?_ ?_
        · simp only [DutiesS, Nat.reduceAdd]
          refine ⟨?_, ?_, ?_, ?_, ?_, ?_, ?_, ?_, ?_, ?_, ?_, ?_, ?_, ?_, ?_, ?_, trivial⟩
          case refine_3 =>
            intro D sp w' hD hW hdp hG
            have hb : Below w'.heap.size w' (w'.alloc (.cells #[.slice pi ni ci] 25)) := (Below.refl _ _).alloc (Nat.le_refl _) _
            (with_reducible refine asked_value (v := .slice (some ⟨w'.heap.size, 0, none⟩) 1 1) (w1 := w'.alloc (.cells #[.slice pi ni ci] 25)) ?_ ?_ ⟨trivial, trivial, hG.add2 hb (BlkIs.of _ _ (heap_alloc_new w' _)) own_new⟩)
            · simp [Region.wanted, go_sem]
            · simp [execOp, Act.eval, Act.put, go_sem]
          case refine_4 =>
            intro D sp w' hD hW hdp hG
            have d2 : D 2 = true := (hdp 2 (List.mem_of_elem_eq_true (by kernel_rfl))).1
            (with_reducible refine (hG.f2 d2).elim (fun q hv hq => ?_))
            (with_reducible refine asked_call (w1 := w') (f := 24) (args := #[.slice pk nk ck, .slice (some ⟨q, 0, none⟩) 1 1]) ?_ ?_ ?_)
            · simp [Region.wanted, go_sem]
            · simp [Act.eval, Act.put, go_sem, hv]
            · refine (macTag_calls w' pk nk ck key _ _ _ _ (HT4.out.below hG.bel HT4.out.size) (HK4.out.below hG.bel).row HK4.out.bytes (parts_at ⟨pi, ni, ci, info⟩ hq (HI4.out.below hG.bel))).mono ?_
              rintro e w6 ⟨q5, rfl, hq5, hb, hk⟩
              rw [whole_one] at hk
              exact ⟨_, rfl, trivial, trivial, hG.add3 hb (BlkIs.of q5 _ hk) (own_ge hq5)⟩
          case refine_5 =>
            intro D sp w' hD hW hdp hG
            have d3 : D 3 = true := (hdp 3 (List.mem_of_elem_eq_true (by kernel_rfl))).1
            (with_reducible refine (hG.f3 d3).elim (fun q hv hq => ?_))
            have k := convert_row (row_at hq (by rw [hml.out]; omega))
            rw [HS2.out, hml.out] at k
            (with_reducible refine asked_value (v := .string S2) (w1 := w') ?_ ?_ ⟨rfl, rfl⟩)
            · simp [Region.wanted, go_sem]
            · simp [execOp, Act.eval, Act.put, go_sem, hv, k]
          case refine_6 =>
            intro D sp w' hD hW hdp hG
            have ho : Own (w'.alloc (.cells #[] 5)) w'.heap.size (.slice (some ⟨w'.heap.size, 0, none⟩) 0 0) [] := Own.lit w' [] (by decide)
            have d7 : D 7 = false := hW 7 (List.mem_of_elem_eq_true (by kernel_rfl))
            have hb : Below w'.heap.size w' (w'.alloc (.cells #[] 5)) := (Below.refl _ _).alloc (Nat.le_refl _) _
            (with_reducible refine asked_value (v := .slice (some ⟨w'.heap.size, 0, none⟩) 0 0) (w1 := w'.alloc (.cells #[] 5)) ?_ ?_ ⟨trivial, trivial, hG.add5 hb (ho.mono hG.bel.size) own_new d7⟩)
            · simp [Region.wanted, go_sem]
            · simp [execOp, Act.eval, Act.put, go_sem]
          case refine_8 =>
            intro D sp w' hD hW hdp hG
            have d5 : D 5 = true := (hdp 5 (List.mem_of_elem_eq_true (by kernel_rfl))).1
            (with_reducible refine run_appFE (hG.f5 d5 hD) (HK4.out.below hG.bel).row HZ.out.1 (by simp; omega) hG.bel.size 25 (fun v' w5 hr ho hg hm => ?_))
            rw [List.nil_append] at ho
            (with_reducible refine asked_value (v := v') (w1 := w5) ?_ ?_ ⟨trivial, trivial, hG.add7 ho hg hm d5 hD⟩)
            · simp [Region.wanted, go_sem]
            · simp [execOp, resolve, invoke, builtin, Act.eval, Act.put, hr, Result.andThen]
          case refine_9 =>
            intro D sp w' hD hW hdp hG
            have hb : Below w'.heap.size w' (w'.alloc (.cells #[.int .u8 0] 5)) := (Below.refl _ _).alloc (Nat.le_refl _) _
            (with_reducible refine asked_value (v := .slice (some ⟨w'.heap.size, 0, none⟩) 1 1) (w1 := w'.alloc (.cells #[.int .u8 0] 5)) ?_ ?_ ⟨trivial, trivial, hG.add8 hb (BlkIs.of _ _ (heap_alloc_new w' _)) own_new⟩)
            · simp [Region.wanted, go_sem]
            · simp [execOp, Act.eval, Act.put, go_sem]
          case refine_10 =>
            intro D sp w' hD hW hdp hG
            have d7 : D 7 = true := (hdp 7 (List.mem_of_elem_eq_true (by kernel_rfl))).1
            have d8 : D 8 = true := (hdp 8 (List.mem_of_elem_eq_true (by kernel_rfl))).1
            (with_reducible refine (hG.f8 d8).elim (fun q hv hq => ?_))
            (with_reducible refine run_appFE (hG.f7 d7 hD) (rowIn_at hq (by decide)) (fun h => by cases h) (by simpa using hkl5.out) hG.bel.size 25 (fun v' w5 hr ho hg hm => ?_))
            (with_reducible refine asked_value (v := v') (w1 := w5) ?_ ?_ ⟨trivial, trivial, hG.add9 (OwnIs.mk ho) hg d7 hD⟩)
            · simp [Region.wanted, go_sem]
            · simp only [List.length_cons, List.length_nil, Nat.zero_add] at hr
              simp [execOp, resolve, invoke, builtin, Act.eval, Act.put, hv, hr, Result.andThen]
          case refine_12 =>
            intro D sp w' hD hW hdp hG
            have hb : Below w'.heap.size w' (w'.alloc (.cells #[.slice pi ni ci] 25)) := (Below.refl _ _).alloc (Nat.le_refl _) _
            (with_reducible refine asked_value (v := .slice (some ⟨w'.heap.size, 0, none⟩) 1 1) (w1 := w'.alloc (.cells #[.slice pi ni ci] 25)) ?_ ?_ ⟨trivial, trivial, hG.add11 hb (BlkIs.of _ _ (heap_alloc_new w' _)) own_new⟩)
            · simp [Region.wanted, go_sem]
            · simp [execOp, Act.eval, Act.put, go_sem]
          case refine_13 =>
            intro D sp w' hD hW hdp hG
            have d9 : D 9 = true := (hdp 9 (List.mem_of_elem_eq_true (by kernel_rfl))).1
            have d11 : D 11 = true := (hdp 11 (List.mem_of_elem_eq_true (by kernel_rfl))).1
            (with_reducible refine (hG.f11 d11).elim (fun q hv hq => ?_))
            (with_reducible refine (hG.f9 d9).elim (fun p9 c9 hv9 hr9 _ _ => ?_))
            (with_reducible refine asked_call (w1 := w') (f := 24) (args := #[.slice p9 (key ++ [0]).length c9, .slice (some ⟨q, 0, none⟩) 1 1]) ?_ ?_ ?_)
            · simp [Region.wanted, go_sem]
            · simp [Act.eval, Act.put, go_sem, hv, hv9]
            · refine (macTag_calls w' p9 _ c9 (key ++ [0]) _ _ _ _ (HT4.out.below hG.bel HT4.out.size) hr9 h8n.out (parts_at ⟨pi, ni, ci, info⟩ hq (HI4.out.below hG.bel))).mono ?_
              rintro e w6 ⟨q5, rfl, hq5, hb, hk⟩
              rw [whole_one] at hk
              have hk2 : Blk w6 q5 5 .u8 (hmac (key ++ [0]) info) := hk
              rw [HNo.out] at hk2
              exact ⟨_, rfl, trivial, trivial, hG.add12 hb (BlkIs.of q5 _ hk2) d9⟩
          case refine_14 =>
            intro D sp w' hD hW hdp hG
            have d12 : D 12 = true := (hdp 12 (List.mem_of_elem_eq_true (by kernel_rfl))).1
            (with_reducible refine (hG.f12 d12).elim (fun q hv hq => ?_))
            have k := convert_row (row_at hq (by rw [hml.out]; omega))
            rw [HS2.out, hml.out] at k
            (with_reducible refine asked_value (v := .string S2) (w1 := w') ?_ ?_ ⟨rfl, rfl⟩)
            · simp [Region.wanted, go_sem]
            · simp [execOp, Act.eval, Act.put, go_sem, hv, k]
          all_goals
            intro D sp w' hD hW hdp hG
            simp [asked, Region.wanted, Oper.gives, execOp, Act.eval, Act.put, go_sem]
        · intro sp w5 hsp hG
          have hb5 := hG.bel
          clear hsp hG
          simp only [frameOf, Nat.reduceAdd]
          generalize sp 2 = u2
          generalize sp 3 = u3
          generalize sp 5 = u5
          generalize sp 7 = u7
          generalize sp 8 = u8
          generalize sp 9 = u9
          generalize sp 11 = u11
          generalize sp 12 = u12
          go_simp
          go_wp2
          go_ret
          exact ⟨rfl, bstepS hbw4 hb5⟩
      · have h64' : (64 : Int) ≤ nk := by omega
        go_wp2
        go_ret
        exact ⟨rfl, hbw4⟩
  · have e1 : fewB [⟨pk, nk, ck, key⟩, ⟨pi, ni, ci, info⟩] = false := by simp [fewB]; omega
    go_enter Tryd.func6, Tryd.ntmps6
    go_wp2_with fail
    refine (lives4_calls w hT0).mono ?_
    rintro e w0 ⟨rfl, hb0⟩
    go_wp2_with fail
    refine (few_calls _ _ _ _ _ (HL1.out w0 hb0)).mono ?_
    rintro e w00 ⟨rfl, rfl⟩
    rw [e1]
    have hb1 := HL2.out w0 hb0
    generalize w0.alloc (.cells #[.slice pk nk ck, .slice pi ni ci] 25) = w1 at *
    clear hb0 HL1 HL2 e1
    go_wp2_with fail
    refine (lives4_calls _ (hT0.below hb1 hT0.size)).mono ?_
    rintro e w4 ⟨rfl, hb4⟩
    go_wp2
    go_ret
    exact ⟨rfl, bstepS hb1 hb4⟩
end Go.Proofs.YtnpobaaaoelalaaDoor
