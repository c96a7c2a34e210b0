/- tag: the lowest bytes of a number; the ring. -/
import Derived.Test.YthpfpnialeoclaaTagF
namespace Go.Proofs.Ythpfpnialeoclaa
open Go Go.RowKit Go.Proofs.Ythpfpnialeoclaa.Flow

theorem leOf_bytesLE (N n : Nat) : leOf N n = bytesLE N n := rfl

set_option maxHeartbeats 1000000 in
set_option maxRecDepth 100000 in
theorem lowest_calls {w : World} {e N : Nat} {v : Value} (h : Fit e N v w) (he : e ≤ 100) (hN : N < B8 17) :
    Calls Try.prog 15 #[v] w (GivesOwn (bytesLE N 16) w) := by
  obtain ⟨p, n, c, rfl, h1, h2⟩ := fit_cases h
  have hbx := Box1.mk1 w (.slice p n c) 32
  have hnl := h1.len_le h2
  have hbl : blen N ≤ 1000000000 := Nat.le_trans (lim_blen h2) (by omega)
  have hsz : ¬ ((17 : Nat) : Int) < bsize N := by have := bsize_le.2 hN; omega
  clear h2 h
  have HN : Hold (bsize N ≤ 17) := ⟨bsize_le.2 hN⟩
  have HBX : Hold _ := ⟨hbx.bel⟩
  have HNA : Hold _ := ⟨h1.below hbx.bel⟩
  clear hN h1
  go_enter Try.func15, Try.ntmps15
  go_wp2_with fail
  refine (bytes_blk _ p n c N 17 HNA.out (by omega) hbl (by decide) (Int.not_lt.2 hsz)).mono ?_
  rintro en w1 ⟨g, rfl, hblk, hb1, hg⟩
  have hg' : w.heap.size < g := by have : w.heap.size + 1 ≤ g := by simpa using hg
                                   omega
  have ebo : beOf N 17 = [N / B8 16 % 256] ++ (leOf N 16).reverse := by rw [beOf, leOf_succ, List.reverse_append]; rfl
  rw [ebo] at hblk
  have HB : Hold _ := ⟨hblk⟩
  have HB1 : Hold _ := ⟨bstep HBX.out hb1⟩
  have hsz1 : w.heap.size ≤ w1.heap.size := HB1.out.size
  clear hblk hb1 ebo hsz
  go_wp2_with fail
  refine (reverse8_behind w1 g 1 16 16 _ [N / B8 16 % 256] (leOf N 16).reverse HB.out rfl (by rw [List.length_reverse, leOf_length]) (by decide)).mono ?_
  rintro en w2 ⟨⟨v2, rfl⟩, hblk, hbut⟩
  rw [List.reverse_reverse] at hblk
  have HB2 : Hold _ := ⟨hblk⟩
  have HBl : Hold (Below w.heap.size w w2) := ⟨HB1.out.trans (hbut.below (by omega) (by omega))⟩
  clear hblk hbut
  go_wp2
  go_ret
  refine ⟨_, rfl, ?_, HBl.out⟩
  have hl : (bytesLE N 16).length = 16 := bytesLE_length _ _
  have hrow : Row w2 .u8 (some ⟨g, 1, none⟩) 16 16 (bytesLE N 16) := ⟨hl.symm, Nat.le_refl _, by omega, .inr ⟨g, 1, rfl, HB2.out.lt, fun i x hx => HB2.out.cell (by rw [List.getElem?_append_right (by simp)]; simpa [leOf_bytesLE] using hx)⟩⟩
  have := OwnIs.of (lo := w.heap.size) (bs := bytesLE N 16) (some ⟨g, 1, none⟩) 16 w2 ⟨rfl, by rw [hl]; exact Nat.le_refl _, by omega, fun _ => by rw [hl]; exact hrow⟩ (fun q hq => by cases hq; exact Nat.le_of_lt hg') (fun h => nomatch h) (fun q hq => by cases hq; exact HB2.out.lt)
  rw [hl] at this
  exact this

/-- 2^130, as the program lays it. -/
def top17 : List Nat := List.replicate 16 0 ++ [4]

set_option maxHeartbeats 4000000 in
set_option maxRecDepth 1000000 in
theorem ring_calls (w : World) : Calls Try.prog 11 #[] w fun en w' => ∃ r, en = .returned (.pointer (some ⟨r, 0, none⟩)) ∧ Ring w' r pp 32 ∧ w.heap.size ≤ r ∧ Below w.heap.size w w' := by
  have hle : le top17 = 2 ^ 130 := by decide +kernel
  obtain ⟨T, hT⟩ : ∃ T, T = le top17 := ⟨_, rfl⟩
  have HT5 : Hold (T - 5 = pp) := ⟨by rw [hT, hle]; rfl⟩
  have HTge : Hold (5 ≤ T) := ⟨by rw [hT, hle]; decide⟩
  have hlen : top17.length = 17 := by decide
  have hrow := lit_row w top17 (by decide)
  rw [hlen] at hrow
  have HR : Hold _ := ⟨hrow⟩
  have h8 : Hold (Bytes8 top17) := ⟨by unfold Bytes8; decide⟩
  have hb0 : Below w.heap.size w (w.alloc (.cells (top17.map fun (x : Nat) => Value.int .u8 (x : Int)).toArray 5)) := (Below.refl _ _).alloc (Nat.le_refl _) _
  have HB0 : Hold _ := ⟨hb0⟩
  clear hle hrow hb0
  go_enter Try.func11, Try.ntmps11
  go_wp2_with fail
  refine calls_at (w1 := w.alloc (.cells (top17.map fun (x : Nat) => Value.int .u8 (x : Int)).toArray 5)) (by kernel_rfl) ?_
  refine (number_fit _ _ 17 17 top17 HR.out (fun h => nomatch h) h8.out (by decide) (by decide)).mono ?_
  rintro en w1 ⟨v1, rfl, hf1, hb1⟩
  rw [← hT] at hf1
  obtain ⟨pp1, np, cp, rfl, hn1, hl1⟩ := hf1
  have HB1 : Hold _ := ⟨bstep HB0.out hb1⟩
  have HL1 : Hold _ := ⟨hl1⟩
  have hb2 : Below w1.heap.size w1 (w1.alloc (.cells #[.slice pp1 np cp] 32)) := (Below.refl _ _).alloc (Nat.le_refl _) _
  have HB2 : Hold _ := ⟨bstep HB1.out hb2⟩
  have HN2 : Hold _ := ⟨hn1.below hb2⟩
  have HX2 : Hold _ := ⟨NatBox.made w1 (.slice pp1 np cp)⟩
  obtain ⟨B0, hB0⟩ : ∃ B0, w1.heap.size + 1 = B0 := ⟨_, rfl⟩
  have HB0' := Lib.hid hB0
  have hB0' : w1.heap.size + 1 ≤ B0 := Nat.le_of_eq hB0
  have hW2 : (w1.alloc (.cells #[.slice pp1 np cp] 32)).heap.size = w1.heap.size + 1 := by simp
  have HFT : Hold (Fit 32 T (.agg #[.slice pp1 np cp]) (w1.alloc (.cells #[.slice pp1 np cp] 32))) := ⟨Fit.of HN2.out HL1.out⟩
  have HW : Hold _ := ⟨hW2⟩
  clear hb1 hl1 hb2 hn1 hB0 hW2
  go_wp2
  refine wp_region_dutiesS (by kernel_rfl) (by kernel_rfl)
    [some (.agg #[.slice pp1 np cp]), none, none, none, none, some (.bool true), none, none, some (.bool true)]
    [false, true, true, true, true, false, true, true, false] rfl
    (fun w1 w2 => Keep B0 w1 w2)
    (fun D sp w' => Hold (Below B0 (w1.alloc (.cells #[.slice pp1 np cp] 32)) w') ∧ BoxG B0 (T - 5) 0 (D 6) false (D 7) false (sp 6) undef w')
    (fun i v w' => match i with
      | 1 => Fit 1 5 v w'
      | 2 | 3 => SubVal (T - 5) v w'
      | 4 => AggVal (T - 5) v w'
      | _ => True)
    ?_ ⟨⟨(Below.refl _ _).drew⟩, BoxG.start (by simpa using Nat.le_of_eq HB0'.out.symm)⟩ ?_ ?_
  · intro i v w1 w2 hf hb
    split at hf
    · exact Fit.keep hf hb
    · exact SubVal.keep hf hb
    · exact SubVal.keep hf hb
    · exact AggVal.keep hf hb
    · trivial
  · simp only [DutiesS, Nat.reduceAdd]
    refine ⟨?_, ?_, ?_, ?_, ?_, ?_, ?_, ?_, ?_, trivial⟩
    case refine_2 =>
      intro D sp w' hD hW hdp ⟨hbx', hg⟩
      (with_reducible refine asked_call (w1 := w') (f := 27) (args := #[.int .u64 5]) ?_ ?_ ?_)
      · simp only [Region.wanted]
      · simp [Act.eval, Act.put, go_sem]
      · refine (new_calls 5 w' (by decide)).mono ?_
        rintro e w5 ⟨p, n, c, rfl, hn, hb, _⟩
        exact ⟨_, rfl, Keep.of hb hg.size, Fit.of hn (by decide), ⟨hbx'.out.trans (hb.mono hg.size)⟩, by simpa [upd] using hg.later hb⟩
    case refine_3 =>
      intro D sp w' hD hW hdp ⟨hbx', hg⟩
      have k1 : Fit 1 5 (sp 1) w' := (hdp 1 (List.mem_of_elem_eq_true (by kernel_rfl))).2
      (with_reducible refine asked_call (w1 := w') (f := 26) (args := #[.agg #[.slice pp1 np cp], sp 1]) ?_ ?_ ?_)
      · simp only [Region.wanted]
      · simp [Act.eval, Act.put, go_sem]
      · refine (sub_exact (HFT.out.below (hbx'.out.mono (by rw [HW.out]; exact hB0'))) k1 HTge.out (by omega) (by omega)).mono ?_
        rintro e w5 ⟨u, rfl, hu, hb⟩
        exact ⟨u, rfl, Keep.of hb hg.size, hu, ⟨hbx'.out.trans (hb.mono hg.size)⟩, by simpa [upd] using hg.later hb⟩
    case refine_4 =>
      intro D sp w' hD hW hdp ⟨hbx', hg⟩
      have k4 : SubVal (T - 5) (sp 2) w' := (hdp 2 (List.mem_of_elem_eq_true (by kernel_rfl))).2
      (with_reducible refine asked_value (w1 := w') (v := sp 2) ?_ ?_ ?_)
      · simp only [Region.wanted]
      · simp [execOp, Act.eval, Act.put, go_sem]
      · exact ⟨Keep.same _ _, k4, hbx', by simpa [upd] using hg⟩
    case refine_5 =>
      intro D sp w' hD hW hdp ⟨hbx', hg⟩
      have hx : ∃ p n c, sp 3 = .tuple #[.agg #[.slice p n c], .bool true] ∧ NatAt w' p n c (T - 5) := (hdp 3 (List.mem_of_elem_eq_true (by kernel_rfl))).2
      (with_reducible refine Exists.elim hx fun p hx1 => ?_)
      (with_reducible refine Exists.elim hx1 fun n hx2 => ?_)
      (with_reducible refine Exists.elim hx2 fun c hx3 => ?_)
      have h1 := hx3.1
      (with_reducible refine asked_value (w1 := w') (v := .agg #[.slice p n c]) ?_ ?_ ?_)
      · simp only [Region.wanted]
      · simp [execOp, Act.eval, Act.put, go_sem, h1]
      · exact ⟨Keep.same _ _, ⟨p, n, c, rfl, hx3.2⟩, hbx', by simpa [upd] using hg⟩
    case refine_6 =>
      intro D sp w' hD hW hdp ⟨hbx', hg⟩
      have hx : ∃ p n c, sp 3 = .tuple #[.agg #[.slice p n c], .bool true] ∧ NatAt w' p n c (T - 5) := (hdp 3 (List.mem_of_elem_eq_true (by kernel_rfl))).2
      (with_reducible refine Exists.elim hx fun p hx1 => ?_)
      (with_reducible refine Exists.elim hx1 fun n hx2 => ?_)
      (with_reducible refine Exists.elim hx2 fun c hx3 => ?_)
      have h1 := hx3.1
      simp [asked, Region.wanted, Oper.gives, execOp, Act.eval, Act.put, go_sem, h1]
    case refine_7 =>
      intro D sp w' hD hW hdp ⟨hbx', hg⟩
      have h9 : D 7 = false := hW 7 (List.mem_of_elem_eq_true (by kernel_rfl))
      rw [hD, h9] at hg
      (with_reducible refine asked_value (w1 := w'.alloc (.cells #[.slice none 0 0] 32)) (v := .pointer (some ⟨w'.heap.size, 0, none⟩)) ?_ ?_ ?_)
      · simp only [Region.wanted]
      · simp [execOp, Act.eval, Act.put, go_sem]
      · have hb : Below w'.heap.size w' (w'.alloc (.cells #[.slice none 0 0] 32)) := (Below.refl _ _).alloc (Nat.le_refl _) _
        refine ⟨Keep.of hb hg.size, trivial, ⟨hbx'.out.trans (hb.mono hg.size)⟩, ?_⟩
        have h8 := hg.alloc1
        simpa [upd, h9] using h8
    case refine_8 =>
      intro D sp w' hD hW hdp ⟨hbx', hg⟩
      have hx : ∃ p n c, sp 4 = .agg #[.slice p n c] ∧ NatAt w' p n c (T - 5) := (hdp 4 (List.mem_of_elem_eq_true (by kernel_rfl))).2
      have h9 := (hdp 6 (List.mem_of_elem_eq_true (by kernel_rfl))).1
      rw [h9] at hg
      (with_reducible refine Exists.elim hx fun p hx1 => ?_)
      (with_reducible refine Exists.elim hx1 fun n hx2 => ?_)
      (with_reducible refine Exists.elim hx2 fun c hx3 => ?_)
      (with_reducible refine Exists.elim (hg.store1 hx3.2) fun b hy1 => ?_)
      (with_reducible refine Exists.elim hy1 fun q hy2 => ?_)
      (with_reducible refine Exists.elim hy2 fun m hy3 => ?_)
      (with_reducible refine Exists.elim hy3 fun d hy4 => ?_)
      have h1 := hx3.1
      have h3 := hy4.1
      have h4 := hy4.2.1
      have h5 := hy4.2.2.1
      have h6 := h5.cell
      have h7 := h5.free
      (with_reducible refine asked_skip (w1 := w'.setCell ⟨b, 0, none⟩ (.slice p n c)) ?_ ?_ ?_)
      · simp only [Region.wanted]
      · simp [execOp, Act.eval, Act.put, go_sem, h1, h3, h6, h7]
      · refine ⟨Keep.store h5 h4 _, trivial, ⟨hbx'.out.setCell h4 _⟩, ?_⟩
        have h8 := hy4.2.2.2
        simpa [upd, h9] using h8
    all_goals
      intro D sp w' hD hW hdp ⟨hbx', hg⟩
      have c1 := (HX2.out.below hbx'.out hB0').cell
      simp [asked, Region.wanted, Oper.gives, execOp, Act.eval, Act.put, go_sem, c1]
  · intro sp w7 hsp ⟨hbx2, hg⟩
    obtain ⟨b2, e2, hb2, pr, nr, cr, n2, hR1⟩ := hg.one rfl
    replace hR1 := hR1 rfl
    have n2c := n2.cell
    have HF7 : Hold (Fit 32 (T - 5) (.agg #[.slice pr nr cr]) w7) := ⟨Fit.of hR1 (Nat.lt_of_le_of_lt (Nat.sub_le _ _) HL1.out)⟩
    have HB7 : Hold (Below w.heap.size w w7) := ⟨HB2.out.trans (hbx2.out.mono (by have := HB1.out.size; omega))⟩
    clear hsp hg
    simp only [frameOf, Nat.reduceAdd]
    rw [e2]
    clear e2
    generalize sp 1 = u1 at *
    generalize sp 2 = u2 at *
    generalize sp 3 = u3 at *
    generalize sp 4 = u4 at *
    generalize sp 7 = u7 at *
    go_simp
    go_wp2_with fail
    refine (rngnew_fit HF7.out (by decide)).mono ?_
    rintro en w8 ⟨hb8, (⟨h2, _⟩ | ⟨_, r, rfl, hr, hge⟩)⟩
    · exfalso
      rw [HT5.out] at h2
      exact absurd h2 (by decide)
    · rw [HT5.out] at hr
      have HR8 : Hold _ := ⟨hr⟩
      have HB8 : Hold _ := ⟨bstep HB7.out hb8⟩
      have HG8 : Hold (w.heap.size ≤ r) := ⟨Nat.le_trans HB7.out.size hge⟩
      clear hr hb8 hge
      go_wp2
      go_ret
      exact ⟨_, rfl, HR8.out, HG8.out, HB8.out⟩

end Go.Proofs.Ythpfpnialeoclaa
