/- The examples, the lengths about a block's end, the constants: the law. -/
import Derived.Test.YtgpkkcielpogoaaDoorFixC
import Derived.Test.YtgpkkcielpogoaaDoorFixE
import Derived.Test.YtgpkkcielpogoaaDoorRefS
import Derived.Test.YtgpkkcielpogoaaDoorShaI
import Derived.Test.YtgpkkcielpogoaaDoorRowsIn
import Derived.Lib.SlBytesConst
namespace Go.Proofs.YtgpkkcielpogoaaDoor
open Go Go.RowKit Go.Proofs.YtgpkkcielpogoaaDoor.Flow

/-- The bytes of a text that stands in the program: their row is marked behind its end. -/
theorem marked_row (w : World) (bs : List Nat) (f : Nat × Nat) (hm : bs.length ≤ 9223372036854775807) : RowIn (w.alloc (.cells (bs.map fun (x : Nat) => Value.int .u8 (x : Int)).toArray 5 f)) .u8 (some ⟨w.heap.size, 0, none⟩) bs.length bs.length bs := by
  have hl : (w.alloc (.cells (bs.map fun (x : Nat) => Value.int .u8 (x : Int)).toArray 5 f)).heap[w.heap.size]? = some (.cells (bs.map fun (x : Nat) => Value.int .u8 (x : Int)).toArray 5 f) := by
    show (w.heap.push _)[w.heap.size]? = _
    simp
  refine ⟨rfl, Nat.le_refl _, hm, fun _ => ⟨rfl, Nat.le_refl _, hm, .inr ⟨w.heap.size, 0, rfl, (Array.getElem?_eq_some_iff.1 hl).1, fun i x hx => ?_⟩⟩⟩
  unfold World.cell?
  simp only [hl]
  simp [hx]

theorem lit_parts (W : World) (bs : List Nat) (f : Nat × Nat) (hm : bs.length ≤ 9223372036854775807) (h8 : Bytes8 bs) :
    PartsIn ((W.alloc (.cells (bs.map fun (x : Nat) => Value.int .u8 (x : Int)).toArray 5 f)).alloc (.cells #[.slice (some ⟨W.heap.size, 0, none⟩) bs.length bs.length] 25)) (some ⟨W.heap.size + 1, 0, none⟩) 1 1 [⟨some ⟨W.heap.size, 0, none⟩, bs.length, bs.length, bs⟩] := by
  have h := parts1 (W.alloc (.cells (bs.map fun (x : Nat) => Value.int .u8 (x : Int)).toArray 5 f)) ⟨some ⟨W.heap.size, 0, none⟩, bs.length, bs.length, bs⟩ ⟨marked_row W bs f hm, h8⟩
  rwa [show (W.alloc (.cells (bs.map fun (x : Nat) => Value.int .u8 (x : Int)).toArray 5 f)).heap.size = W.heap.size + 1 from by simp] at h

theorem nought_row (w : World) (k : Nat) (h : k ≤ 300) : RowIn (w.alloc (.cells (zeros .u8 k) 5)) .u8 (some ⟨w.heap.size, 0, none⟩) k k (List.replicate k 0) := by
  have h1 := (Blk.zeros w 5 .u8 k).row (n := k) (c := k) (by simp) (Nat.le_refl _) (by omega)
  exact ⟨by simp, Nat.le_refl _, by omega, fun _ => h1⟩

theorem kept_is (n : Int) : ∃ k : Nat, wrap64 ((IntKind.u64.wrap n).tmod 300) = (k : Int) ∧ k < 300 := by
  have h0 : 0 ≤ IntKind.u64.wrap n := by rw [IntKind.wrap_u64]; omega
  rw [Int.tmod_eq_emod_of_nonneg h0]
  have h1 := Int.emod_nonneg (IntKind.u64.wrap n) (show (300 : Int) ≠ 0 by decide)
  have h2 := Int.emod_lt_of_pos (IntKind.u64.wrap n) (show (0 : Int) < 300 by decide)
  obtain ⟨k, hk⟩ := Int.eq_ofNat_of_zero_le h1
  refine ⟨k, ?_, by omega⟩
  rw [hk]
  exact IntWalk.wrap64_in _ (by omega)

set_option maxHeartbeats 4000000 in
set_option maxRecDepth 1000000 in
theorem fixed_calls (w : World) (hT0 : Tabs w) (n : Int) :
    Calls Tryd.prog 4 #[.int .i64 n] w fun e w' => e = .returned (.bool true) ∧ Below w.heap.size w w' := by
  obtain ⟨K, hK⟩ : ∃ K, w32 kays = K := ⟨_, rfl⟩
  obtain ⟨H, hH⟩ : ∃ H, w32 hnull = H := ⟨_, rfl⟩
  have HK : Hold (w32 kays = K) := ⟨hK⟩
  have HH : Hold (w32 hnull = H) := ⟨hH⟩
  have HI64 : Hold _ := ⟨info_w64 kays_length⟩
  have HI8 : Hold _ := ⟨info_w8 hnull_length⟩
  have H641 : Hold _ := ⟨w32_one kays⟩
  have H81 : Hold _ := ⟨w32_one hnull⟩
  rw [hK] at HI64 H641
  rw [hH] at HI8 H81
  clear hK hH
  go_enter Tryd.func4, Tryd.ntmps4
  go_wp2_with fail
  refine (table_calls w).mono ?_
  rintro e w1 ⟨rfl, hb1⟩
  rw [HK.out, HH.out]
  have HG0 : Hold (((w1.alloc (.cells (zeros .u32 64) 33)).alloc (.cells (zeros .u32 8) 34)).heap[w1.heap.size]? = some (.cells (zeros .u32 64) 33 (0, 0))) := ⟨heap_alloc2_old w1 _ _⟩
  have HG1 : Hold (((w1.alloc (.cells (zeros .u32 64) 33)).alloc (.cells (zeros .u32 8) 34)).heap[w1.heap.size + 1]? = some (.cells (zeros .u32 8) 34 (0, 0))) := ⟨heap_alloc2_new w1 _ _⟩
  have HKs : Hold ((zeros .u32 64).size = K.size) := ⟨by rw [← HK.out]; rfl⟩
  have HHs : Hold ((zeros .u32 8).size = H.size) := ⟨by rw [← HH.out]; rfl⟩
  go_wp2_with (first
    | (refine wpList_store_row rfl 33 _ _ rfl w1.heap.size K rfl rfl 33 (zeros .u32 64) HG0.out HI64.out HKs.out H641.out ?_)
    | (refine wpList_store_row rfl 34 _ _ rfl (w1.heap.size + 1) H rfl rfl 34 (zeros .u32 8) ((setRow_other _ w1.heap.size (w1.heap.size + 1) _ (by omega)).trans HG1.out) HI8.out HHs.out H81.out ?_))
  have g0 := setRow_heap _ w1.heap.size (zeros .u32 64) K 33 (0, 0) HG0.out
  have o1 := (setRow_other _ w1.heap.size (w1.heap.size + 1) K (by omega)).trans HG1.out
  have g1 := setRow_heap _ (w1.heap.size + 1) (zeros .u32 8) H 34 (0, 0) o1
  have g2 := (setRow_other _ (w1.heap.size + 1) w1.heap.size H (by omega)).trans g0
  have hbt := below_setRow (below_setRow (((Below.refl w1.heap.size w1).alloc (Nat.le_refl _) (.cells (zeros .u32 64) 33)).alloc (by simp) (.cells (zeros .u32 8) 34)) (Nat.le_refl _) K) (by omega : w1.heap.size ≤ w1.heap.size + 1) H
  have hb2 := bstepS hb1 hbt
  change Code.wp Tryd.prog _ _ _ ((((w1.alloc (.cells (zeros .u32 64) 33)).alloc (.cells (zeros .u32 8) 34)).setRow w1.heap.size K).setRow (w1.heap.size + 1) H)
  clear o1 g0 hbt HG0 HG1 HKs HHs
  generalize World.setRow _ (w1.heap.size + 1) H = w2 at *
  obtain ⟨a0, ha0⟩ : ∃ a, w1.heap.size = a := ⟨_, rfl⟩
  rw [ha0] at g1 g2
  simp only [ha0]
  clear ha0 hb1
  have HA0 : Hold (w2.heap[a0]? = some (.cells K 33 (0, 0))) := ⟨g2⟩
  have HA1 : Hold (w2.heap[a0 + 1]? = some (.cells H 34 (0, 0))) := ⟨g1⟩
  have HE64 : Hold (∀ wx : World, (Op.equalIn 10000 33 (.agg K) (.agg K)).run Tryd.prog wx = .ok true wx) := ⟨fun wx => by rw [← HK.out]; exact same_w64 wx _ kays_length⟩
  have HE8 : Hold (∀ wx : World, (Op.equalIn 10000 34 (.agg H) (.agg H)).run Tryd.prog wx = .ok true wx) := ⟨fun wx => by rw [← HH.out]; exact same_w8 wx _ hnull_length⟩
  clear g1 g2
  refine wp_region_duties (by kernel_rfl) (by kernel_rfl)
    [some (.agg K), none, some (.bool false), some (.bool false), some (.agg H), none, some (.bool false), some (.bool false)]
    [false, true, false, false, false, true, false, false] rfl
    (fun w1 w2 => Below w1.heap.size w1 w2) (fun _ w' => Below w2.heap.size w2 w')
    (fun i v w' => match i with
      | 1 => v = .agg K
      | 5 => v = .agg H
      | _ => True)
    ?_ ((Below.refl _ _).drew) ?_ ?_
  · intro i v w1 w2 hf hb
    exact hf
  · simp only [Duties, Nat.reduceAdd]
    refine ⟨?_, ?_, ?_, ?_, ?_, ?_, ?_, ?_, trivial⟩
    case refine_1 =>
      intro D sp w' hD hW hdp hG
      have k := run_loadVar_row (P := Tryd.prog) w' a0 33 33 K (0, 0) _ ((hG.block _ (Array.getElem?_eq_some_iff.1 HA0.out).1).trans HA0.out) Tryd.underlying33 rfl HI64.out
      (with_reducible refine asked_value (v := .agg K) (w1 := w') ?_ ?_ ⟨rfl, rfl⟩)
      · simp [Region.wanted, go_sem]
      · simp [execOp, Act.eval, Act.put, Instr.loadAt, Instr.sureAddr, Result.andThen_ok, k]
    case refine_2 =>
      intro D sp w' hD hW hdp hG
      (with_reducible refine asked_call (w1 := w') (f := 12) (args := #[]) ?_ ?_ ?_)
      · simp [Region.wanted, go_sem]
      · simp [Act.put, go_sem]
      · refine (constants_calls w').mono ?_
        rintro e w5 ⟨rfl, hb⟩
        exact ⟨_, rfl, hb, by rw [HK.out], bstepS hG hb⟩
    case refine_3 =>
      intro D sp w' hD hW hdp hG
      have hf : sp 1 = .agg K := (hdp 1 (List.mem_of_elem_eq_true (by kernel_rfl))).2
      have k := HE64.out w'
      (with_reducible refine asked_value (v := .bool false) (w1 := w') ?_ ?_ ⟨rfl, rfl⟩)
      · simp [Region.wanted, go_sem]
      · simp [execOp, Act.eval, Act.put, go_sem, hf, k]
    case refine_5 =>
      intro D sp w' hD hW hdp hG
      have k := run_loadVar_row (P := Tryd.prog) w' (a0 + 1) 34 34 H (0, 0) _ ((hG.block _ (Array.getElem?_eq_some_iff.1 HA1.out).1).trans HA1.out) Tryd.underlying34 rfl HI8.out
      (with_reducible refine asked_value (v := .agg H) (w1 := w') ?_ ?_ ⟨rfl, rfl⟩)
      · simp [Region.wanted, yielded, Act.put, go_sem]
      · simp [execOp, Act.eval, Act.put, Instr.loadAt, Instr.sureAddr, Result.andThen_ok, k]
    case refine_6 =>
      intro D sp w' hD hW hdp hG
      (with_reducible refine asked_call (w1 := w') (f := 13) (args := #[]) ?_ ?_ ?_)
      · simp [Region.wanted, yielded, Act.put, go_sem]
      · simp [Act.put, go_sem]
      · refine (first_calls w').mono ?_
        rintro e w5 ⟨rfl, hb⟩
        exact ⟨_, rfl, hb, by rw [HH.out], bstepS hG hb⟩
    case refine_7 =>
      intro D sp w' hD hW hdp hG
      have hf : sp 5 = .agg H := (hdp 5 (List.mem_of_elem_eq_true (by kernel_rfl))).2
      have k := HE8.out w'
      (with_reducible refine asked_value (v := .bool false) (w1 := w') ?_ ?_ ⟨rfl, rfl⟩)
      · simp [Region.wanted, yielded, Act.put, go_sem]
      · simp [execOp, Act.eval, Act.put, go_sem, hf, k]
    all_goals
      intro D sp w' hD hW hdp hG
      simp [asked, Region.wanted, Oper.gives, execOp, Act.eval, Act.put, go_sem]
  · intro sp w' hsp hG
    clear hsp
    simp only [frameOf, Nat.reduceAdd]
    generalize sp 1 = u1'
    generalize sp 5 = u5'
    have hb3 := bstepS hb2 hG
    have HB3 : Hold _ := ⟨hb3⟩
    clear HA0 HA1 HE64 HE8 hG hb2 HI64 HI8 H641 H81 HK HH hb3
    obtain ⟨k, hk, hk3⟩ : ∃ k : Nat, wrap64 ((IntKind.u64.wrap n).tmod 300) = (k : Int) ∧ k < 300 := kept_is n
    have hmk := fun wx => make_u8i (i := (k : Int)) k rfl (by omega) wx
    have kc : ∀ (X : Obj) (C : Array Value) (n c : Nat), (convert 25 25 (.slice (some ⟨w'.heap.size + 1, 0, none⟩) n c)).run Tryd.prog ((w'.alloc X).alloc (.cells C 5)) = .ok (.slice (some ⟨w'.heap.size + 1, 0, none⟩) n c) ((w'.alloc X).alloc (.cells C 5 (C.size, C.size + 1))) := fun X C n c => by
      have h := Lib.run_convert_bytes_const (P := Tryd.prog) (w'.alloc X) 25 5 C n c Tryd.underlying25 Tryd.underlying5
      rwa [show (w'.alloc X).heap.size = w'.heap.size + 1 from by simp] at h
    obtain ⟨z, hz⟩ : ∃ z, w'.heap.size = z := ⟨_, rfl⟩
    obtain ⟨wz, hwz⟩ : ∃ wz, w'.alloc (.cells (zeros .u8 k) 5) = wz := ⟨_, rfl⟩
    obtain ⟨L1, hL1⟩ : ∃ L, (abc.map fun (x : Nat) => Value.int .u8 (x : Int)).toArray = L := ⟨_, rfl⟩
    obtain ⟨L2, hL2⟩ : ∃ L, (abcd.map fun (x : Nat) => Value.int .u8 (x : Int)).toArray = L := ⟨_, rfl⟩
    have HP1 : Hold _ := ⟨lit_parts wz abc (3, 4) (by decide) (by unfold Bytes8 abc; decide)⟩
    have HZ0 : Hold (RowIn wz .u8 (some ⟨z, 0, none⟩) k k (List.replicate k 0)) := ⟨by rw [← hz, ← hwz]; exact nought_row w' k (by omega)⟩
    have hbz : Below w'.heap.size w' wz := by rw [← hwz]; exact (Below.refl _ _).alloc (Nat.le_refl _) _
    have hzs : wz.heap.size = z + 1 := by rw [← hwz, ← hz]; simp
    have hbA : Below wz.heap.size wz ((wz.alloc (.cells L1 5 (3, 4))).alloc (.cells #[.slice (some ⟨wz.heap.size, 0, none⟩) 3 3] 25)) := ((Below.refl _ _).alloc (Nat.le_refl _) _).alloc (by simp) _
    have HZA : Hold _ := ⟨HZ0.out.below hbA⟩
    have HbW : Hold (Below w.heap.size w ((wz.alloc (.cells L1 5 (3, 4))).alloc (.cells #[.slice (some ⟨wz.heap.size, 0, none⟩) 3 3] 25))) := ⟨bstepS (bstepS HB3.out hbz) hbA⟩
    have HT0 : Hold (Tabs w) := ⟨hT0⟩
    rw [hL1] at HP1
    subst hwz
    subst hL1
    rw [hzs] at HP1 HZA HbW
    rw [hz] at kc
    clear hT0 hbA hbz
    go_simp
    go_wp2_with fail
    refine (sum_calls _ _ _ _ _ (HT0.out.below HbW.out HT0.out.size) HP1.out).mono ?_
    rintro e w5 ⟨q1, rfl, hq1, hb5, hk5⟩
    rw [whole_one] at hk5
    have HB5 : Hold (Below w.heap.size w w5) := ⟨bstepS HbW.out hb5⟩
    have HZ5 : Hold _ := ⟨HZA.out.below hb5⟩
    have C10 : Hold _ := ⟨hk5.cell (i := 0) (x := 186) abc_sum.1⟩
    have C11 : Hold _ := ⟨hk5.cell (i := 31) (x := 173) abc_sum.2⟩
    have hq1l : q1 < w5.heap.size := hk5.lt
    have kd := fun (C : Array Value) (n c : Nat) => Lib.run_convert_bytes_const (P := Tryd.prog) w5 25 5 C n c Tryd.underlying25 Tryd.underlying5
    have HP2 : Hold _ := ⟨lit_parts w5 abcd (56, 57) (by decide) (by unfold Bytes8 abcd; decide)⟩
    have HbB : Hold (Below w5.heap.size w5 ((w5.alloc (.cells L2 5 (56, 57))).alloc (.cells #[.slice (some ⟨w5.heap.size, 0, none⟩) 56 56] 25))) := ⟨((Below.refl _ _).alloc (Nat.le_refl _) _).alloc (by simp) _⟩
    rw [hL2] at HP2
    subst hL2
    clear hk5 hb5 HZA HbW HP1 kc hmk HZ0 hzs HB3 hq1
    go_wp2_with fail
    refine (sum_calls _ _ _ _ _ (HT0.out.below (bstepS HB5.out HbB.out) HT0.out.size) HP2.out).mono ?_
    rintro e w6 ⟨q2, rfl, hq2, hb6, hk6⟩
    rw [whole_one] at hk6
    have HB6 : Hold (Below w.heap.size w w6) := ⟨bstepS (bstepS HB5.out HbB.out) hb6⟩
    have HZ6 : Hold _ := ⟨HZ5.out.below (bstepS HbB.out hb6)⟩
    have D10 : Hold _ := ⟨((bstepS HbB.out hb6).cell (p := ⟨q1, 0, none⟩) hq1l).trans C10.out⟩
    have D11 : Hold _ := ⟨((bstepS HbB.out hb6).cell (p := ⟨q1, 31, none⟩) hq1l).trans C11.out⟩
    have C20 : Hold _ := ⟨hk6.cell (i := 0) (x := 36) abcd_sum.1⟩
    have C21 : Hold _ := ⟨hk6.cell (i := 31) (x := 193) abcd_sum.2⟩
    have hq2l : q2 < w6.heap.size := hk6.lt
    have hq1m : q1 < w6.heap.size := Nat.lt_of_lt_of_le hq1l (bstepS HbB.out hb6).size
    have HT6 : Hold _ := ⟨HT0.out.below HB6.out HT0.out.size⟩
    clear hk6 hb6 HZ5 HbB HP2 kd HB5 hq2 C10 C11 hq1l
    obtain ⟨S, hS⟩ : ∃ S, strOf (sha (List.replicate k 0)) = S := ⟨_, rfl⟩
    have HS : Hold _ := ⟨hS⟩
    have h8z : Hold (Bytes8 (List.replicate k 0)) := ⟨fun x hx => by rw [List.eq_of_mem_replicate hx]; omega⟩
    clear hS
    go_wp2
    refine wp_region_duties (by kernel_rfl) (by kernel_rfl)
      [none, some (.bool true), some (.slice (some ⟨q1, 0, none⟩) 32 32), some (.int .i64 32), some (.bool true), some (.bool true), some (.bool true), some (.slice (some ⟨q1, 0, none⟩) 32 32), some (.pointer (some ⟨q1, 0, none⟩)), some (.int .u8 186), some (.bool true), some (.bool true), some (.bool true), some (.slice (some ⟨q1, 0, none⟩) 32 32), some (.pointer (some ⟨q1, 31, none⟩)), some (.int .u8 173), some (.bool true), some (.bool true), some (.bool true), some (.slice (some ⟨q2, 0, none⟩) 32 32), some (.int .i64 32), some (.bool true), some (.bool true), some (.bool true), some (.slice (some ⟨q2, 0, none⟩) 32 32), some (.pointer (some ⟨q2, 0, none⟩)), some (.int .u8 36), some (.bool true), some (.bool true), some (.bool true), some (.slice (some ⟨q2, 0, none⟩) 32 32), some (.pointer (some ⟨q2, 31, none⟩)), some (.int .u8 193), some (.bool true), some (.bool true), some (.bool true), some (.slice (some ⟨z, 0, none⟩) k k), none, none, some (.string S), some (.slice (some ⟨z, 0, none⟩) k k), none, some (.string S), some (.bool true), some (.bool true), some (.bool true)]
      [true, false, false, false, false, false, false, false, false, false, false, false, false, false, false, false, false, false, false, false, false, false, false, false, false, false, false, false, false, false, false, false, false, false, false, false, false, true, true, false, false, true, false, false, false, false] rfl
      (fun w1 w2 => Below w1.heap.size w1 w2) (fun _ w' => Below w6.heap.size w6 w')
      (fun i v w' => match i with
        | 0 => v = .bool true
        | 37 => PartsAre [⟨some ⟨z, 0, none⟩, k, k, List.replicate k 0⟩] v w'
        | 38 => SumIs (List.replicate k 0) v w'
        | 41 => OwnIs 0 (sha (List.replicate k 0)) v w'
        | _ => True)
      ?_ ((Below.refl _ _).drew) ?_ ?_
    · intro i v w1 w2 hf hb
      split at hf
      · exact hf
      · exact hf.below hb
      · exact hf.below hb
      · exact hf.below hb
      · trivial
    · simp only [Duties, Nat.reduceAdd]
      refine ⟨?_, ?_, ?_, ?_, ?_, ?_, ?_, ?_, ?_, ?_, ?_, ?_, ?_, ?_, ?_, ?_, ?_, ?_, ?_, ?_, ?_, ?_, ?_, ?_, ?_, ?_, ?_, ?_, ?_, ?_, ?_, ?_, ?_, ?_, ?_, ?_, ?_, ?_, ?_, ?_, ?_, ?_, ?_, ?_, ?_, ?_, trivial⟩
      case refine_1 =>
        intro D sp w' hD hW hdp hG
        (with_reducible refine asked_call (w1 := w') (f := 5) (args := #[]) ?_ ?_ ?_)
        · simp [Region.wanted, go_sem]
        · simp [go_sem]
        · refine (lives_calls _ rfl w' (HT6.out.below hG HT6.out.size)).mono ?_
          rintro e w5 ⟨rfl, hb⟩
          exact ⟨_, rfl, hb, rfl, bstepS hG hb⟩
      case refine_2 =>
        intro D sp w' hD hW hdp hG
        have hf : sp 0 = .bool true := (hdp 0 (List.mem_of_elem_eq_true (by kernel_rfl))).2
        (with_reducible refine asked_value (v := .bool true) (w1 := w') ?_ ?_ ⟨rfl, rfl⟩)
        · simp [Region.wanted, go_sem]
        · simp [execOp, Act.eval, Act.put, go_sem, hf]
      case refine_10 =>
        intro D sp w' hD hW hdp hG
        have k0 : w'.cell? ⟨q1, 0, none⟩ = some (.int .u8 186) := (hG.cell (p := ⟨q1, 0, none⟩) hq1m).trans D10.out
        (with_reducible refine asked_value (v := .int .u8 186) (w1 := w') ?_ ?_ ⟨rfl, rfl⟩)
        · simp [Region.wanted, yielded, Act.put, go_sem]
        · simp [execOp, Act.eval, Act.put, go_sem, k0]
      case refine_16 =>
        intro D sp w' hD hW hdp hG
        have k0 : w'.cell? ⟨q1, 31, none⟩ = some (.int .u8 173) := (hG.cell (p := ⟨q1, 31, none⟩) hq1m).trans D11.out
        (with_reducible refine asked_value (v := .int .u8 173) (w1 := w') ?_ ?_ ⟨rfl, rfl⟩)
        · simp [Region.wanted, yielded, Act.put, go_sem]
        · simp [execOp, Act.eval, Act.put, go_sem, k0]
      case refine_27 =>
        intro D sp w' hD hW hdp hG
        have k0 : w'.cell? ⟨q2, 0, none⟩ = some (.int .u8 36) := (hG.cell (p := ⟨q2, 0, none⟩) hq2l).trans C20.out
        (with_reducible refine asked_value (v := .int .u8 36) (w1 := w') ?_ ?_ ⟨rfl, rfl⟩)
        · simp [Region.wanted, yielded, Act.put, go_sem]
        · simp [execOp, Act.eval, Act.put, go_sem, k0]
      case refine_33 =>
        intro D sp w' hD hW hdp hG
        have k0 : w'.cell? ⟨q2, 31, none⟩ = some (.int .u8 193) := (hG.cell (p := ⟨q2, 31, none⟩) hq2l).trans C21.out
        (with_reducible refine asked_value (v := .int .u8 193) (w1 := w') ?_ ?_ ⟨rfl, rfl⟩)
        · simp [Region.wanted, yielded, Act.put, go_sem]
        · simp [execOp, Act.eval, Act.put, go_sem, k0]
      case refine_38 =>
        intro D sp w' hD hW hdp hG
        have hb : Below w'.heap.size w' (w'.alloc (.cells #[.slice (some ⟨z, 0, none⟩) k k] 25)) := (Below.refl _ _).alloc (Nat.le_refl _) _
        (with_reducible refine asked_value (v := .slice (some ⟨w'.heap.size, 0, none⟩) 1 1) (w1 := w'.alloc (.cells #[.slice (some ⟨z, 0, none⟩) k k] 25)) ?_ ?_ ⟨hb, PartsAre.mk1 w'.heap.size _ (parts1 w' ⟨some ⟨z, 0, none⟩, k, k, _⟩ ⟨HZ6.out.below hG, h8z.out⟩), bstepS hG hb⟩)
        · simp [Region.wanted, yielded, Act.put, go_sem]
        · simp [execOp, Act.eval, Act.put, go_sem]
      case refine_39 =>
        intro D sp w' hD hW hdp hG
        have hf : PartsAre [⟨some ⟨z, 0, none⟩, k, k, List.replicate k 0⟩] (sp 37) w' := (hdp 37 (List.mem_of_elem_eq_true (by kernel_rfl))).2
        (with_reducible refine hf.elim1 (fun q hv hp => ?_))
        clear hf
        (with_reducible refine asked_call (w1 := w') (f := 9) (args := #[.slice (some ⟨q, 0, none⟩) 1 1]) ?_ ?_ ?_)
        · simp [Region.wanted, yielded, Act.put, go_sem]
        · simp [Act.eval, Act.put, go_sem, hv]
        · refine (sum_calls _ _ _ _ _ (HT6.out.below hG HT6.out.size) hp).mono ?_
          rintro e w5 ⟨q, rfl, _, hb, hk⟩
          exact ⟨_, rfl, hb, SumIs.mk q w5 (by rw [whole_one] at hk; exact hk), bstepS hG hb⟩
      case refine_40 =>
        intro D sp w' hD hW hdp hG
        have hf : SumIs (List.replicate k 0) (sp 38) w' := (hdp 38 (List.mem_of_elem_eq_true (by kernel_rfl))).2
        (with_reducible refine hf.elim (fun q hv hr => ?_))
        clear hf
        have k0 := convert_row hr
        rw [HS.out] at k0
        (with_reducible refine asked_value (v := .string S) (w1 := w') ?_ ?_ ⟨rfl, rfl⟩)
        · simp [Region.wanted, yielded, Act.put, go_sem]
        · simp [execOp, Act.eval, Act.put, go_sem, hv, k0]
      case refine_42 =>
        intro D sp w' hD hW hdp hG
        (with_reducible refine asked_call (w1 := w') (f := 14) (args := #[.slice (some ⟨z, 0, none⟩) k k]) ?_ ?_ ?_)
        · simp [Region.wanted, yielded, Act.put, go_sem]
        · simp [Act.eval, Act.put, go_sem]
        · refine (refsum_calls w' (some ⟨z, 0, none⟩) k k (List.replicate k 0) (HZ6.out.below hG) h8z.out (fun h => nomatch h) (by omega)).mono ?_
          rintro e w5 ⟨v, rfl, ho, hb⟩
          exact ⟨_, rfl, hb, ho.zero, bstepS hG hb⟩
      case refine_43 =>
        intro D sp w' hD hW hdp hG
        have hf : OwnIs 0 (sha (List.replicate k 0)) (sp 41) w' := (hdp 41 (List.mem_of_elem_eq_true (by kernel_rfl))).2
        (with_reducible refine hf.elim (fun p' c' hv hr _ _ => ?_))
        clear hf
        have k0 := convert_in hr
        rw [HS.out] at k0
        (with_reducible refine asked_value (v := .string S) (w1 := w') ?_ ?_ ⟨rfl, rfl⟩)
        · simp [Region.wanted, yielded, Act.put, go_sem]
        · simp [execOp, Act.eval, Act.put, go_sem, hv, k0]
      all_goals
        intro D sp w' hD hW hdp hG
        simp [asked, Region.wanted, yielded, Oper.gives, execOp, Act.eval, Act.put, go_sem]
    · intro sp w' hsp hG
      clear hsp
      simp only [frameOf, Nat.reduceAdd]
      generalize sp 0 = u0
      generalize sp 37 = u37
      generalize sp 38 = u38
      generalize sp 41 = u41
      go_simp
      go_wp2
      go_ret
      exact ⟨rfl, bstepS HB6.out hG⟩
end Go.Proofs.YtgpkkcielpogoaaDoor
