/- A sector all of one byte: Plain; the chapter's example. -/
import Derived.Test.YtpodoleopebioaaSlI
import Derived.Test.YtpodoleopebioaaStr
namespace Go.Proofs.Ytpodoleopebioaa
open Go Go.RowKit Go.Maps Go.Proofs.Ytpodoleopebioaa.Flow
set_option maxRecDepth 100000

/-- Bytes of the call's own that are all one. -/
def PlainV (x : Nat) (v : Value) (w : World) : Prop := ∃ q, v = .slice (some ⟨q, 0, none⟩) 64 64 ∧ Blk w q 5 .u8 (plainN x)
theorem PlainV.later {x : Nat} {v : Value} {w w' : World} (h : PlainV x v w) (hb : Below w.heap.size w w') : PlainV x v w' := let ⟨q, h1, h2⟩ := h; ⟨q, h1, h2.below hb h2.lt⟩
theorem blk_row64 {w : World} {q : Nat} {t : TypeId} {xs : List Nat} (h : Blk w q t .u8 xs) (hl : xs.length = 64) : Row w .u8 (some ⟨q, 0, none⟩) 64 64 xs := h.row hl.symm (by omega) (by omega)
theorem row_in {w : World} {k : IntKind} {p : Option Addr} {n c : Nat} {xs : List Nat} (h : Row w k p n c xs) : RowIn w k p n c xs := ⟨h.len, h.cap, h.max, fun _ => h⟩
theorem convert_plain {x : Nat} {v : Value} {w : World} (h : PlainV x v w) : (convert 26 9 v).run Try.prog w = .ok (.string (strOf (plainN x))) w := by
  obtain ⟨q, rfl, h1⟩ := h
  exact convert_row (blk_row64 h1 (plainN_len x))

theorem plain_part {x k : Nat} (hk : k < 64) : (List.replicate k x ++ List.replicate (64 - k) 0).set k x = List.replicate (k + 1) x ++ List.replicate (64 - (k + 1)) 0 := by
  apply List.ext_getElem?
  intro j
  rw [List.getElem?_set]
  simp only [List.getElem?_append, List.length_replicate, List.getElem?_replicate, List.length_append]
  by_cases h1 : k = j
  · subst h1
    simp; omega
  · rw [if_neg h1]
    by_cases h2 : j < k
    · simp [h2, show j < k + 1 by omega]
    · simp [h2, show ¬ j < k + 1 by omega]
      split <;> split <;> first | rfl | omega

set_option maxHeartbeats 1000000 in
set_option maxRecDepth 100000 in
theorem plain_new (w : World) {x : Nat} (_hx : x < 256) : Calls Try.prog 13 #[.int .u8 (x : Nat)] w fun e w' => ∃ q, e = .returned (.slice (some ⟨q, 0, none⟩) 64 64) ∧ w.heap.size ≤ q ∧ Blk w' q 5 .u8 (plainN x) ∧ Below w.heap.size w w' := by
  have hmk : (Instr.makeSlice 26 (.int .i64 64) (.int .i64 64)).run Try.prog w = .ok (.slice (some ⟨w.heap.size, 0, none⟩) 64 64) (w.alloc (.cells (zeros .u8 64) 5)) := make_u8 64 (by omega) w
  have hb0 : Below w.heap.size w (w.alloc (.cells (zeros .u8 64) 5)) := (Below.refl _ _).alloc (Nat.le_refl _) _
  have hz0 := Blk.zeros w 5 .u8 64
  obtain ⟨w0, hw0⟩ : ∃ w0, w.alloc (.cells (zeros .u8 64) 5) = w0 := ⟨_, rfl⟩
  obtain ⟨q, hq⟩ : ∃ q, w.heap.size = q := ⟨_, rfl⟩
  rw [hw0] at hb0 hz0 hmk
  rw [hq] at hz0 hmk
  have HB0 : Hold _ := ⟨hb0⟩
  have HZ0 : Hold (Blk w0 q 5 .u8 (List.replicate 0 x ++ List.replicate (64 - 0) 0)) := ⟨hz0⟩
  have HQ : Hold _ := ⟨hq⟩
  clear hb0 hz0 hw0 hq
  go_enter Try.func13, Try.ntmps13
  go_wp2
  clear hmk
  go_loopw [4, 8] (fun _ iv wr => ∃ k : Nat, k ≤ 64 ∧ iv = .int .i64 k ∧ Hold (Blk wr q 5 .u8 (List.replicate k x ++ List.replicate (64 - k) 0)) ∧ Hold (Below w.heap.size w wr)) (fun _ iv _ => 64 - (intOf iv).toNat)
  case atStart => exact ⟨0, by omega, rfl, HZ0, HB0⟩
  case round =>
    obtain ⟨k, hk, rfl, HBk, HWk⟩ := hrel
    by_cases hkn : k < 64
    · have hkn' : (k : Int) < 64 := by omega
      obtain ⟨y, hy⟩ : ∃ y, (List.replicate k x ++ List.replicate (64 - k) 0)[k]? = some y := ⟨_, List.getElem?_eq_getElem (by simp; omega)⟩
      have ck := HBk.out.cell hy
      have fk := HBk.out.free k
      have HB2 : Hold (Blk (wr.setCell ⟨q, k, none⟩ (.int .u8 x)) q 5 .u8 (List.replicate (k + 1) x ++ List.replicate (64 - (k + 1)) 0)) := ⟨by rw [← plain_part hkn]; exact HBk.out.set k x⟩
      have HW2 : Hold (Below w.heap.size w (wr.setCell ⟨q, k, none⟩ (.int .u8 x))) := ⟨HWk.out.setCell (by rw [HQ.out]; exact Nat.le_refl _) _⟩
      clear hy
      go_wp2
      go_roundw
      case rel => exact ⟨k + 1, by omega, by go_num, HB2, HW2⟩
      case measure => simp [intOf]; omega
    · obtain rfl : k = 64 := by omega
      go_wp2
      go_ret
      exact ⟨q, rfl, by rw [HQ.out]; exact Nat.le_refl _, by have := HBk.out; simpa [plainN] using this, HWk.out⟩
theorem plain_calls (w : World) {x : Nat} (hx : x < 256) : Calls Try.prog 13 #[.int .u8 (x : Nat)] w fun e w' => ∃ u, e = .returned u ∧ PlainV x u w' ∧ Below w.heap.size w w' := by
  refine (plain_new w hx).mono ?_
  rintro e w1 ⟨q, rfl, _, h, hb⟩
  exact ⟨_, rfl, ⟨q, rfl, h⟩, hb⟩

/-- Bytes of one's own lie in none of a slab's blocks. -/
theorem fresh_ne {w : World} {b g m q : Nat} {S : SM} {xs : List Nat} (hq : Blk w q 5 .u8 xs) (h : SlabAt w b g m S) : q ≠ b ∧ q ≠ g ∧ q ≠ m := by
  unfold Blk at hq
  refine ⟨fun e => ?_, fun e => ?_, fun e => ?_⟩
  · rw [e, h.blk] at hq; simp only [Option.some.injEq, Obj.cells.injEq] at hq; exact absurd hq.2.1 (by decide)
  · have h2 := h.row; unfold Blk at h2; rw [e, h2] at hq; simp only [Option.some.injEq, Obj.cells.injEq] at hq; exact absurd hq.2.1 (by decide)
  · obtain ⟨es, cl, h1⟩ := h.ink.isMap; rw [e, h1] at hq; cases hq

/-- The chapter's example, over numbers. -/
def exA : SM := (SM.new 8).supply 3
def exB : SM := (exA.put 5 (plainN 5)).2
def exC : SM := (exB.put 2 (plainN 2)).2
def exD : SM := exC.burn.2
def exE : SM := exD.wake []
theorem ex_says : (exA.put 5 (plainN 5)).1 = 0 ∧ (exB.put 2 (plainN 2)).1 = 0 ∧ exC.burn.1 = 12 ∧ exE.reach 2 = 0 ∧ exE.reach 5 = 0 ∧ exE.shown 2 = plainN 2 ∧ exE.shown 5 = plainN 0 := by decide

set_option maxHeartbeats 4000000 in
set_option maxRecDepth 1000000 in
theorem lives15_calls (w : World) : Calls Try.prog 8 #[] w fun e w' => e = .returned (.bool true) ∧ Below w.heap.size w w' := by
  obtain ⟨x1, x2, x3, x4, x5, x6, x7⟩ := ex_says
  have X1 : Hold _ := ⟨x1⟩
  have X2 : Hold _ := ⟨x2⟩
  have X3 : Hold _ := ⟨x3⟩
  have X4 : Hold _ := ⟨x4⟩
  have X5 : Hold _ := ⟨x5⟩
  have X6 : Hold _ := ⟨x6⟩
  have X7 : Hold _ := ⟨x7⟩
  clear x1 x2 x3 x4 x5 x6 x7
  go_enter Try.func8, Try.ntmps8
  go_wp2_with fail
  refine (new_calls w 8).mono ?_
  rintro e w1 (⟨h9, _⟩ | ⟨_, _, b, g, m, rfl, hb, hg, hm, hs, hbl⟩)
  · exact absurd (by omega) h9
  have HN : Hold (w.heap.size ≤ b ∧ w.heap.size ≤ g ∧ w.heap.size ≤ m) := ⟨hb, hg, hm⟩
  have HB1 : Hold _ := ⟨hbl⟩
  have HS1 : Hold (SlabAt w1 b g m (SM.new 8)) := ⟨hs⟩
  clear hb hg hm hs hbl
  go_wp2_with fail
  refine (supply_calls HS1.out (by omega)).mono ?_
  rintro e w2 ⟨rfl, hs, ho⟩
  have HS2 : Hold (SlabAt w2 b g m exA) := ⟨hs⟩
  have HB2 : Hold (Below w.heap.size w w2) := ⟨HB1.out.trans (ho.below HB1.out.size HN.out.1 HN.out.2.1 HN.out.2.2)⟩
  clear hs ho
  go_wp2_with fail
  refine (plain_calls w2 (x := 5) (by omega)).mono ?_
  rintro e w3 ⟨_, rfl, ⟨q1, rfl, hq1⟩, hb3⟩
  have HS3 : Hold (SlabAt w3 b g m exA) := ⟨HS2.out.later hb3⟩
  have HB3 : Hold (Below w.heap.size w w3) := ⟨bstepS HB2.out hb3⟩
  have HQ1 : Hold _ := ⟨hq1⟩
  have HNE1 : Hold (∀ q, some (⟨q1, 0, none⟩ : Addr) = some q → q.block ≠ b ∧ q.block ≠ g ∧ q.block ≠ m) := ⟨fun q e => by cases e; have := HS2.out.lts; exact fresh_ne hq1 HS3.out⟩
  clear hq1 hb3
  go_wp2_with fail
  refine (ink_calls HS3.out 5 (row_in (blk_row64 HQ1.out (plainN_len 5))) (plainN_8 (by omega)) HNE1.out).mono ?_
  rintro e w4 ⟨rfl, hs, ho⟩
  rw [X1.out]
  have HS4 : Hold (SlabAt w4 b g m exB) := ⟨hs⟩
  have HB4 : Hold (Below w.heap.size w w4) := ⟨HB3.out.trans (ho.below HB3.out.size HN.out.1 HN.out.2.1 HN.out.2.2)⟩
  clear hs ho
  go_wp2_with fail
  refine (plain_calls w4 (x := 2) (by omega)).mono ?_
  rintro e w5 ⟨_, rfl, ⟨q2, rfl, hq2⟩, hb5⟩
  have HS5 : Hold (SlabAt w5 b g m exB) := ⟨HS4.out.later hb5⟩
  have HB5 : Hold (Below w.heap.size w w5) := ⟨bstepS HB4.out hb5⟩
  have HQ2 : Hold _ := ⟨hq2⟩
  have HNE2 : Hold (∀ q, some (⟨q2, 0, none⟩ : Addr) = some q → q.block ≠ b ∧ q.block ≠ g ∧ q.block ≠ m) := ⟨fun q e => by cases e; exact fresh_ne hq2 HS5.out⟩
  clear hq2 hb5
  go_wp2_with fail
  refine (ink_calls HS5.out 2 (row_in (blk_row64 HQ2.out (plainN_len 2))) (plainN_8 (by omega)) HNE2.out).mono ?_
  rintro e w6 ⟨rfl, hs, ho⟩
  rw [X2.out]
  have HS6 : Hold (SlabAt w6 b g m exC) := ⟨hs⟩
  have HB6 : Hold (Below w.heap.size w w6) := ⟨HB5.out.trans (ho.below HB5.out.size HN.out.1 HN.out.2.1 HN.out.2.2)⟩
  clear hs ho
  go_wp2_with fail
  refine (burn_calls HS6.out).mono ?_
  rintro e w7 ⟨rfl, hs, ho⟩
  rw [X3.out]
  have HS7 : Hold (SlabAt w7 b g m exD) := ⟨hs⟩
  have HB7 : Hold (Below w.heap.size w w7) := ⟨HB6.out.trans (ho.below HB6.out.size HN.out.1 HN.out.2.1 HN.out.2.2)⟩
  clear hs ho
  go_wp2_with fail
  refine (wake_calls HS7.out (ScarsIn.nil w7) (fun q hq => by cases hq)).mono ?_
  rintro e w8 ⟨rfl, hs, ho⟩
  have HS8 : Hold (SlabAt w8 b g m exE) := ⟨hs⟩
  have HB8 : Hold (Below w.heap.size w w8) := ⟨HB7.out.trans (ho.below HB7.out.size HN.out.1 HN.out.2.1 HN.out.2.2)⟩
  clear hs ho
  go_wp2_with fail
  refine (face_calls HS8.out 2).mono ?_
  rintro e wa (⟨h9, _⟩ | ⟨_, qa, rfl, _, hqa, hba⟩)
  · exact absurd X4.out h9
  rw [show Int.toNat 2 = 2 from rfl, X6.out] at hqa
  have HSa : Hold (SlabAt wa b g m exE) := ⟨HS8.out.later hba⟩
  have HBa : Hold (Below w.heap.size w wa) := ⟨bstepS HB8.out hba⟩
  have HQa : Hold _ := ⟨hqa⟩
  clear hqa hba
  go_wp2_with fail
  refine (face_calls HSa.out 5).mono ?_
  rintro e w9 (⟨h9, _⟩ | ⟨_, qb, rfl, _, hqb, hb9⟩)
  · exact absurd X5.out h9
  rw [show Int.toNat 5 = 5 from rfl, X7.out] at hqb
  have HB9 : Hold (Below w.heap.size w w9) := ⟨bstepS HBa.out hb9⟩
  have HCA : Hold (∀ w', Below w9.heap.size w9 w' → (convert 26 9 (.slice (some ⟨qa, 0, none⟩) 64 64)).run Try.prog w' = .ok (.string (strOf (plainN 2))) w') := ⟨fun w' h => by
    have h1 := HQa.out.below hb9 HQa.out.lt
    exact convert_row (blk_row64 (h1.below h h1.lt) (plainN_len 2))⟩
  have HCB : Hold (∀ w', Below w9.heap.size w9 w' → (convert 26 9 (.slice (some ⟨qb, 0, none⟩) 64 64)).run Try.prog w' = .ok (.string (strOf (plainN 0))) w') := ⟨fun w' h => convert_row (blk_row64 (hqb.below h hqb.lt) (plainN_len 0))⟩
  clear hqb hb9 HQa HQ1 HQ2 HNE1 HNE2
  go_wp2
  refine wp_region_duties (by kernel_rfl) (by kernel_rfl)
    [some (.int .i64 0), some (.bool true), some (.bool true), some (.int .i64 0), some (.bool true), some (.bool true), some (.bool true), some (.int .i64 12), some (.bool true), some (.bool true), some (.bool true), some (.int .i64 0), some (.bool true), some (.bool true), some (.bool true), some (.int .i64 0), some (.bool true), some (.bool true), some (.bool true), some (.slice (some ⟨qa, 0, none⟩) 64 64), some (.string (strOf (plainN 2))), none, some (.string (strOf (plainN 2))), some (.bool true), some (.bool true), some (.bool true), some (.slice (some ⟨qb, 0, none⟩) 64 64), some (.string (strOf (plainN 0))), none, some (.string (strOf (plainN 0))), some (.bool true), some (.bool true), some (.bool true)]
    [false, false, false, false, false, false, false, false, false, false, false, false, false, false, false, false, false, false, false, false, false, true, false, false, false, false, false, false, true, false, false, false, false] rfl
    (fun w1 w2 => Below w1.heap.size w1 w2)
    (fun _ w' => Below w9.heap.size w9 w')
    (fun i v w' => match i with
      | 21 => PlainV 2 v w'
      | 28 => PlainV 0 v w'
      | _ => True)
    ?_ (Below.refl _ _).drew ?_ ?_
  · intro i v w1 w2 hf hb
    split at hf
    · exact hf.later hb
    · exact hf.later hb
    · trivial
  · simp only [Duties, Nat.reduceAdd]
    refine ⟨?_, ?_, ?_, ?_, ?_, ?_, ?_, ?_, ?_, ?_, ?_, ?_, ?_, ?_, ?_, ?_, ?_, ?_, ?_, ?_, ?_, ?_, ?_, ?_, ?_, ?_, ?_, ?_, ?_, ?_, ?_, ?_, ?_, trivial⟩
    case refine_1 =>
      intro D sp w' hD hW hdp hbx'
      (with_reducible refine asked_value (w1 := w') (v := .int .i64 0) ?_ ?_ ?_)
      · first | (simp only [Region.wanted]; done) | simp [Region.wanted, yielded, Act.put, go_sem]
      · simp [execOp, Act.eval, go_sem]
      · exact ⟨rfl, rfl⟩
    case refine_2 =>
      intro D sp w' hD hW hdp hbx'
      (with_reducible refine asked_value (w1 := w') (v := .bool true) ?_ ?_ ?_)
      · first | (simp only [Region.wanted]; done) | simp [Region.wanted, yielded, Act.put, go_sem]
      · simp [execOp, Act.eval, Act.put, go_sem]
      · exact ⟨rfl, rfl⟩
    case refine_3 =>
      intro D sp w' hD hW hdp hbx'
      (with_reducible refine asked_value (w1 := w') (v := .bool true) ?_ ?_ ?_)
      · first | (simp only [Region.wanted]; done) | simp [Region.wanted, yielded, Act.put, go_sem]
      · simp [execOp, Act.eval, Act.put, go_sem]
      · exact ⟨rfl, rfl⟩
    case refine_4 =>
      intro D sp w' hD hW hdp hbx'
      (with_reducible refine asked_value (w1 := w') (v := .int .i64 0) ?_ ?_ ?_)
      · first | (simp only [Region.wanted]; done) | simp [Region.wanted, yielded, Act.put, go_sem]
      · simp [execOp, Act.eval, Act.put, go_sem]
      · exact ⟨rfl, rfl⟩
    case refine_5 =>
      intro D sp w' hD hW hdp hbx'
      (with_reducible refine asked_value (w1 := w') (v := .bool true) ?_ ?_ ?_)
      · first | (simp only [Region.wanted]; done) | simp [Region.wanted, yielded, Act.put, go_sem]
      · simp [execOp, Act.eval, Act.put, go_sem]
      · exact ⟨rfl, rfl⟩
    case refine_6 =>
      intro D sp w' hD hW hdp hbx'
      (with_reducible refine asked_value (w1 := w') (v := .bool true) ?_ ?_ ?_)
      · first | (simp only [Region.wanted]; done) | simp [Region.wanted, yielded, Act.put, go_sem]
      · simp [execOp, Act.eval, Act.put, go_sem]
      · exact ⟨rfl, rfl⟩
    case refine_7 =>
      intro D sp w' hD hW hdp hbx'
      (with_reducible refine asked_value (w1 := w') (v := .bool true) ?_ ?_ ?_)
      · first | (simp only [Region.wanted]; done) | simp [Region.wanted, yielded, Act.put, go_sem]
      · simp [execOp, Act.eval, Act.put, go_sem]
      · exact ⟨rfl, rfl⟩
    case refine_8 =>
      intro D sp w' hD hW hdp hbx'
      (with_reducible refine asked_value (w1 := w') (v := .int .i64 12) ?_ ?_ ?_)
      · first | (simp only [Region.wanted]; done) | simp [Region.wanted, yielded, Act.put, go_sem]
      · simp [execOp, Act.eval, Act.put, go_sem]
      · exact ⟨rfl, rfl⟩
    case refine_9 =>
      intro D sp w' hD hW hdp hbx'
      (with_reducible refine asked_value (w1 := w') (v := .bool true) ?_ ?_ ?_)
      · first | (simp only [Region.wanted]; done) | simp [Region.wanted, yielded, Act.put, go_sem]
      · simp [execOp, Act.eval, Act.put, go_sem]
      · exact ⟨rfl, rfl⟩
    case refine_10 =>
      intro D sp w' hD hW hdp hbx'
      (with_reducible refine asked_value (w1 := w') (v := .bool true) ?_ ?_ ?_)
      · first | (simp only [Region.wanted]; done) | simp [Region.wanted, yielded, Act.put, go_sem]
      · simp [execOp, Act.eval, Act.put, go_sem]
      · exact ⟨rfl, rfl⟩
    case refine_11 =>
      intro D sp w' hD hW hdp hbx'
      (with_reducible refine asked_value (w1 := w') (v := .bool true) ?_ ?_ ?_)
      · first | (simp only [Region.wanted]; done) | simp [Region.wanted, yielded, Act.put, go_sem]
      · simp [execOp, Act.eval, Act.put, go_sem]
      · exact ⟨rfl, rfl⟩
    case refine_12 =>
      intro D sp w' hD hW hdp hbx'
      (with_reducible refine asked_value (w1 := w') (v := .int .i64 0) ?_ ?_ ?_)
      · first | (simp only [Region.wanted]; done) | simp [Region.wanted, yielded, Act.put, go_sem]
      · simp [execOp, Act.eval, Act.put, go_sem]
      · exact ⟨rfl, rfl⟩
    case refine_13 =>
      intro D sp w' hD hW hdp hbx'
      (with_reducible refine asked_value (w1 := w') (v := .bool true) ?_ ?_ ?_)
      · first | (simp only [Region.wanted]; done) | simp [Region.wanted, yielded, Act.put, go_sem]
      · simp [execOp, Act.eval, Act.put, go_sem]
      · exact ⟨rfl, rfl⟩
    case refine_14 =>
      intro D sp w' hD hW hdp hbx'
      (with_reducible refine asked_value (w1 := w') (v := .bool true) ?_ ?_ ?_)
      · first | (simp only [Region.wanted]; done) | simp [Region.wanted, yielded, Act.put, go_sem]
      · simp [execOp, Act.eval, Act.put, go_sem]
      · exact ⟨rfl, rfl⟩
    case refine_15 =>
      intro D sp w' hD hW hdp hbx'
      (with_reducible refine asked_value (w1 := w') (v := .bool true) ?_ ?_ ?_)
      · first | (simp only [Region.wanted]; done) | simp [Region.wanted, yielded, Act.put, go_sem]
      · simp [execOp, Act.eval, Act.put, go_sem]
      · exact ⟨rfl, rfl⟩
    case refine_16 =>
      intro D sp w' hD hW hdp hbx'
      (with_reducible refine asked_value (w1 := w') (v := .int .i64 0) ?_ ?_ ?_)
      · first | (simp only [Region.wanted]; done) | simp [Region.wanted, yielded, Act.put, go_sem]
      · simp [execOp, Act.eval, Act.put, go_sem]
      · exact ⟨rfl, rfl⟩
    case refine_17 =>
      intro D sp w' hD hW hdp hbx'
      (with_reducible refine asked_value (w1 := w') (v := .bool true) ?_ ?_ ?_)
      · first | (simp only [Region.wanted]; done) | simp [Region.wanted, yielded, Act.put, go_sem]
      · simp [execOp, Act.eval, Act.put, go_sem]
      · exact ⟨rfl, rfl⟩
    case refine_18 =>
      intro D sp w' hD hW hdp hbx'
      (with_reducible refine asked_value (w1 := w') (v := .bool true) ?_ ?_ ?_)
      · first | (simp only [Region.wanted]; done) | simp [Region.wanted, yielded, Act.put, go_sem]
      · simp [execOp, Act.eval, Act.put, go_sem]
      · exact ⟨rfl, rfl⟩
    case refine_19 =>
      intro D sp w' hD hW hdp hbx'
      (with_reducible refine asked_value (w1 := w') (v := .bool true) ?_ ?_ ?_)
      · first | (simp only [Region.wanted]; done) | simp [Region.wanted, yielded, Act.put, go_sem]
      · simp [execOp, Act.eval, Act.put, go_sem]
      · exact ⟨rfl, rfl⟩
    case refine_20 =>
      intro D sp w' hD hW hdp hbx'
      (with_reducible refine asked_value (w1 := w') (v := .slice (some ⟨qa, 0, none⟩) 64 64) ?_ ?_ ?_)
      · first | (simp only [Region.wanted]; done) | simp [Region.wanted, yielded, Act.put, go_sem]
      · simp [execOp, Act.eval, Act.put, go_sem]
      · exact ⟨rfl, rfl⟩
    case refine_21 =>
      intro D sp w' hD hW hdp hbx'
      (with_reducible refine asked_value (w1 := w') (v := .string (strOf (plainN 2))) ?_ ?_ ?_)
      · first | (simp only [Region.wanted]; done) | simp [Region.wanted, yielded, Act.put, go_sem]
      · have cl := HCA.out w' hbx'
        simp [execOp, Act.eval, Act.put, go_sem, cl]
      · exact ⟨rfl, rfl⟩
    case refine_22 =>
      intro D sp w' hD hW hdp hbx'
      (with_reducible refine asked_call (w1 := w') (f := 13) (args := #[.int .u8 2]) ?_ ?_ ?_)
      · first | (simp only [Region.wanted]; done) | simp [Region.wanted, yielded, Act.put, go_sem]
      · simp [Act.eval, Act.put, go_sem]
      · refine (plain_calls w' (x := 2) (by omega)).mono ?_
        rintro en w9 ⟨u, rfl, hu, hb⟩
        exact ⟨u, rfl, hb, hu, bstepS hbx' hb⟩
    case refine_23 =>
      intro D sp w' hD hW hdp hbx'
      have k21 : PlainV 2 (sp 21) w' := (hdp 21 (List.mem_of_elem_eq_true (by kernel_rfl))).2
      (with_reducible refine asked_value (w1 := w') (v := .string (strOf (plainN 2))) ?_ ?_ ?_)
      · first | (simp only [Region.wanted]; done) | simp [Region.wanted, yielded, Act.put, go_sem]
      · have cl := convert_plain k21
        simp [execOp, Act.eval, Act.put, go_sem, cl]
      · exact ⟨rfl, rfl⟩
    case refine_24 =>
      intro D sp w' hD hW hdp hbx'
      (with_reducible refine asked_value (w1 := w') (v := .bool true) ?_ ?_ ?_)
      · first | (simp only [Region.wanted]; done) | simp [Region.wanted, yielded, Act.put, go_sem]
      · simp [execOp, Act.eval, Act.put, go_sem]
      · exact ⟨rfl, rfl⟩
    case refine_25 =>
      intro D sp w' hD hW hdp hbx'
      (with_reducible refine asked_value (w1 := w') (v := .bool true) ?_ ?_ ?_)
      · first | (simp only [Region.wanted]; done) | simp [Region.wanted, yielded, Act.put, go_sem]
      · simp [execOp, Act.eval, Act.put, go_sem]
      · exact ⟨rfl, rfl⟩
    case refine_26 =>
      intro D sp w' hD hW hdp hbx'
      (with_reducible refine asked_value (w1 := w') (v := .bool true) ?_ ?_ ?_)
      · first | (simp only [Region.wanted]; done) | simp [Region.wanted, yielded, Act.put, go_sem]
      · simp [execOp, Act.eval, Act.put, go_sem]
      · exact ⟨rfl, rfl⟩
    case refine_27 =>
      intro D sp w' hD hW hdp hbx'
      (with_reducible refine asked_value (w1 := w') (v := .slice (some ⟨qb, 0, none⟩) 64 64) ?_ ?_ ?_)
      · first | (simp only [Region.wanted]; done) | simp [Region.wanted, yielded, Act.put, go_sem]
      · simp [execOp, Act.eval, Act.put, go_sem]
      · exact ⟨rfl, rfl⟩
    case refine_28 =>
      intro D sp w' hD hW hdp hbx'
      (with_reducible refine asked_value (w1 := w') (v := .string (strOf (plainN 0))) ?_ ?_ ?_)
      · first | (simp only [Region.wanted]; done) | simp [Region.wanted, yielded, Act.put, go_sem]
      · have cl := HCB.out w' hbx'
        simp [execOp, Act.eval, Act.put, go_sem, cl]
      · exact ⟨rfl, rfl⟩
    case refine_29 =>
      intro D sp w' hD hW hdp hbx'
      (with_reducible refine asked_call (w1 := w') (f := 13) (args := #[.int .u8 0]) ?_ ?_ ?_)
      · first | (simp only [Region.wanted]; done) | simp [Region.wanted, yielded, Act.put, go_sem]
      · simp [Act.eval, Act.put, go_sem]
      · refine (plain_calls w' (x := 0) (by omega)).mono ?_
        rintro en w9 ⟨u, rfl, hu, hb⟩
        exact ⟨u, rfl, hb, hu, bstepS hbx' hb⟩
    case refine_30 =>
      intro D sp w' hD hW hdp hbx'
      have k28 : PlainV 0 (sp 28) w' := (hdp 28 (List.mem_of_elem_eq_true (by kernel_rfl))).2
      (with_reducible refine asked_value (w1 := w') (v := .string (strOf (plainN 0))) ?_ ?_ ?_)
      · first | (simp only [Region.wanted]; done) | simp [Region.wanted, yielded, Act.put, go_sem]
      · have cl := convert_plain k28
        simp [execOp, Act.eval, Act.put, go_sem, cl]
      · exact ⟨rfl, rfl⟩
    case refine_31 =>
      intro D sp w' hD hW hdp hbx'
      (with_reducible refine asked_value (w1 := w') (v := .bool true) ?_ ?_ ?_)
      · first | (simp only [Region.wanted]; done) | simp [Region.wanted, yielded, Act.put, go_sem]
      · simp [execOp, Act.eval, Act.put, go_sem]
      · exact ⟨rfl, rfl⟩
    case refine_32 =>
      intro D sp w' hD hW hdp hbx'
      (with_reducible refine asked_value (w1 := w') (v := .bool true) ?_ ?_ ?_)
      · first | (simp only [Region.wanted]; done) | simp [Region.wanted, yielded, Act.put, go_sem]
      · simp [execOp, Act.eval, Act.put, go_sem]
      · exact ⟨rfl, rfl⟩
    case refine_33 =>
      intro D sp w' hD hW hdp hbx'
      (with_reducible refine asked_value (w1 := w') (v := .bool true) ?_ ?_ ?_)
      · first | (simp only [Region.wanted]; done) | simp [Region.wanted, yielded, Act.put, go_sem]
      · simp [execOp, Act.eval, Act.put, go_sem]
      · exact ⟨rfl, rfl⟩
  · intro sp w10 hsp hbx'
    have HF : Hold (Below w.heap.size w w10) := ⟨bstepS HB9.out hbx'⟩
    clear hsp hbx'
    simp only [frameOf, Nat.reduceAdd]
    generalize sp 21 = y21 at *
    generalize sp 28 = y28 at *
    go_simp
    go_wp2
    go_ret
    exact ⟨rfl, HF.out⟩

end Go.Proofs.Ytpodoleopebioaa
