/- Of long division: its walk. -/
import Derived.Test.YtoleblefdmdbjaaDivH
namespace Go.Proofs.Ytoleblefdmdbjaa
open Go Go.RowKit Go.Proofs.Ytoleblefdmdbjaa.Flow

/-- Quotient and rest as rows of words. -/
def GivesLong (N D : Nat) (w : World) (e : Ending) (w' : World) : Prop := ∃ (p : Option Addr) (n : Nat) (Q : List Nat) (q : Option Addr) (m : Nat) (R : List Nat), e = .returned (.tuple #[.slice p n n, .slice q m m]) ∧
  Row w' .u32 p n n Q ∧ Words Q ∧ val Q = N / D ∧ Row w' .u32 q m m R ∧ Words R ∧ val R = N % D ∧ Below w.heap.size w w' ∧ New w.heap.size p ∧ New w.heap.size q

theorem bstep0 {w w1 w2 : World} (h : Below w.heap.size w w1) (k : Below w1.heap.size w1 w2) : Below w.heap.size w w2 := h.trans (k.mono h.size)

theorem mod_scale {N D s : Nat} : (N * 2 ^ s) % (D * 2 ^ s) / 2 ^ s = N % D := by
  rw [Nat.mul_mod_mul_right, Nat.mul_div_cancel _ (Nat.pow_pos (by omega))]
theorem div_scale {N D s : Nat} : (N * 2 ^ s) / (D * 2 ^ s) = N / D := Nat.mul_div_mul_right _ _ (Nat.pow_pos (by omega))

set_option maxHeartbeats 4000000 in
set_option maxRecDepth 100000 in
theorem divWords_calls (w : World) (pa : Option Addr) (na ca : Nat) (A : List Nat) (pb : Option Addr) (d cb : Nat) (W : List Nat)
    (hA : Row w .u32 pa na ca A) (wA : Words A) (hW : Row w .u32 pb (d + 1) cb W) (wW : Words W) (h0 : 0 < W.getD d 0) (hd : 1 ≤ d) (hle : d + 1 ≤ na) (hs : na < 900000) :
    Calls Try.prog 66 #[.slice pa na ca, .slice pb (d + 1) cb] w (GivesLong (val A) (val W) w) := by
  have HA := Lib.hid hA.len
  have HW := Lib.hid hW.len
  obtain ⟨t, ht⟩ : ∃ t, W.getD d 0 = t := ⟨_, rfl⟩
  rw [ht] at h0
  have ht4 : t < 4294967296 := by rw [← ht]; exact wW.get d
  have hbt : blen t ≤ 32 := (blen_le t 32).2 ht4
  have hbt0 := blen_pos h0
  obtain ⟨s, hsv⟩ : ∃ s, 32 - blen t = s := ⟨_, rfl⟩
  have hs32 : s < 32 := by omega
  have hst0 := LongSt.start wA HA.out.symm wW HW.out.symm ht h0 (by omega) hle (s := s)
  obtain ⟨hn1, hn2⟩ := norm_top wW HW.out.symm ht h0 (show s + blen t = 32 by omega)
  obtain ⟨N', hN'⟩ : ∃ x, val A * 2 ^ s = x := ⟨_, rfl⟩
  obtain ⟨D', hD'⟩ : ∃ x, val W * 2 ^ s = x := ⟨_, rfl⟩
  rw [hN', hD'] at hst0
  rw [hD'] at hn1 hn2
  obtain ⟨b, off, rfl, hb, hc⟩ := hW.pos (by omega)
  have hct := Row.getAt hc (by have := HW.out; omega) ht
  have HSV := Lib.hid hsv
  have HN' := Lib.hid hN'
  have HD' := Lib.hid hD'
  have HST0 := Lib.hid hst0
  have HN1 := Lib.hid hn1
  have HN2 := Lib.hid hn2
  clear hc ht hsv hN' hD' hst0 hn1 hn2
  have hmk := fun (w : World) => make_u32i (i := (na : Int) + 1 - ((d : Int) + 1)) (na + 1 - (d + 1)) (by omega) (by omega) w
  go_enter Try.func66, Try.ntmps66
  go_wp2_with fail
  refine (lz_calls t w ht4).mono ?_
  rintro e w1 ⟨rfl, rfl⟩
  rw [HSV.out]
  go_wp2_with fail
  refine (shiftedUp_calls w pa na ca A s hA wA (by omega) hs32).mono ?_
  rintro e w1 ⟨rfl, hbA, hb1⟩
  rw [HN'.out] at hbA
  go_wp2_with fail
  refine (shiftedUp_calls w1 _ (d + 1) cb W s (hW.below hb1) wW (by omega) hs32).mono ?_
  rintro e w2 ⟨rfl, hbW, hb2⟩
  rw [HD'.out] at hbW
  have hbA2 := hbA.below hb2 hbA.lt
  have hbw2 : Below w.heap.size w w2 := hb1.trans (hb2.mono hb1.size)
  have hg1 := hbA.lt
  have hg2 := hbW.lt
  go_wp2
  have hrowW : Row w2 .u32 (some ⟨w1.heap.size, 0, none⟩) (d + 1) (d + 1 + 1) ((wordsOf D' (d + 1 + 1)).take (d + 1)) := (hbW.row (by rw [wordsOf_length]) (Nat.le_refl _) (by omega)).take (d + 1) (by omega)
  obtain ⟨Wn, hWn⟩ : ∃ x, (wordsOf D' (d + 1 + 1)).take (d + 1) = x := ⟨_, rfl⟩
  have hWl : Wn.length = d + 1 := by rw [← hWn]; simp [wordsOf_length]
  have hWw : Words Wn := by rw [← hWn]; exact (wordsOf_words _ _).take _
  have hWv : val Wn = D' := by
    rw [← hWn]
    have e1 : (wordsOf D' (d + 1 + 1)).take (d + 1) = wordsOf D' (d + 1) := by
      rw [wordsOf_succ, List.take_append_of_le_length (by rw [wordsOf_length]; omega), List.take_of_length_le (by rw [wordsOf_length]; omega)]
    rw [e1, val_wordsOf_lt HN1.out]
  have hWt : 2147483648 ≤ Wn.getD d 0 := by
    rw [← digit Wn hWw d, hWv]
    have h1 : 2147483648 ≤ D' / B32 d := by rw [Nat.le_div_iff_mul_le (B32_pos d), Nat.mul_comm]; exact HN2.out
    have h2 : D' / B32 d < 4294967296 := by
      rw [Nat.div_lt_iff_lt_mul (B32_pos d)]
      have := HN1.out
      rw [B32_succ] at this; exact this
    rw [Nat.mod_eq_of_lt h2]; exact h1
  rw [hWn] at hrowW
  have HWL := Lib.hid hWl
  have HWV := Lib.hid hWv
  have HWT := Lib.hid hWt
  clear hWn hWl hWv hWt
  go_loopw [9] (fun i wr => ∃ (m : Nat) (X Q : List Nat), m ≤ na - d ∧ i = .int .i64 ((m : Int) - 1) ∧ LongSt N' D' (d + 1) na m X Q ∧ Blk wr w.heap.size 75 .u32 X ∧ Blk wr w2.heap.size 75 .u32 (List.replicate m 0 ++ Q) ∧ Row wr .u32 (some ⟨w1.heap.size, 0, none⟩) (d + 1) (d + 1 + 1) Wn ∧ Below w.heap.size w wr ∧ w2.heap.size < wr.heap.size) (fun i _ => (intOf i + 1).toNat)
  case atStart =>
    refine ⟨na - d, _, [], Nat.le_refl _, rfl, by have := HST0.out; rwa [show na + 1 - (d + 1) = na - d by omega] at this, hbA2.below ((Below.refl _ _).alloc (Nat.le_refl _) _) (by omega), by rw [List.append_nil]; exact Blk.zeros _ _ _ _, hrowW.below ((Below.refl _ _).alloc (Nat.le_refl _) _), hbw2.alloc hbw2.size _, by simp⟩
  case round =>
    obtain ⟨m, X, Q, hm, rfl, hst, hX, hQ, hrW, hbw, hsz⟩ := hrel
    cases m with
    | zero =>
      obtain ⟨hq, hr⟩ := hst.last
      have HST := Lib.hid hst
      have HQV := Lib.hid hq
      have HRV := Lib.hid hr
      clear hst hq hr
      have hlq : Q.length = na - d := by have := HST.out.lq; omega
      have HLQ := Lib.hid hlq
      clear hlq
      rw [List.replicate_zero, List.nil_append] at hQ
      go_wp2_with fail
      refine (shiftedDown_calls wr _ (na + 1) _ X s (hX.row HST.out.lx.symm (Nat.le_refl _) (by omega)) HST.out.wx (by omega) hs32).mono ?_
      rintro en w3 ⟨rfl, hb3, hbl⟩
      go_wp2
      go_ret2
      have hrv : val (wordsOf (val X / 2 ^ s) (na + 1)) = val A % val W := by
        rw [HRV.out, ← HN'.out, ← HD'.out, mod_scale]
        refine val_wordsOf_lt ?_
        have h1 : val A % val W ≤ val A := Nat.mod_le _ _
        have h2 := wA.lt
        rw [← HA.out] at h2
        have h3 : B32 na ≤ B32 (na + 1) := B32_mono (by omega)
        omega
      refine ⟨some ⟨w2.heap.size, 0, none⟩, na - d, Q, some ⟨wr.heap.size, 0, none⟩, na + 1, _, rfl, ?_, HST.out.wq, ?_, hb3.row (by rw [wordsOf_length]) (Nat.le_refl _) (by omega), wordsOf_words _ _, hrv, bstep0 hbw hbl, ?_, ?_⟩
      · exact (hQ.row HLQ.out.symm (Nat.le_refl _) (by omega)).below hbl
      · rw [HQV.out, ← HN'.out, ← HD'.out, div_scale]
      · intro a ha; cases ha; exact hbw2.size
      · intro a ha; cases ha; exact hbw.size
    | succ i =>
      obtain ⟨hRl, hst'⟩ := hst.step (Nat.le_of_lt HN1.out) (by omega)
      have e1 : (((i + 1 : Nat) : Int) - 1) = (i : Int) := by omega
      simp only [e1]
      clear e1
      have HST := Lib.hid hst
      have HST' := Lib.hid hst'
      clear hst hst'
      go_wp2_with fail
      refine (takeOut_calls wr w.heap.size i _ _ X (some ⟨w1.heap.size, 0, none⟩) (d + 1) (d + 1 + 1) Wn _ hX HST.out.wx hrW hWw (fun a ha => by cases ha; exact Nat.ne_of_gt hg1) (by omega) (by omega) (by omega) (by rw [HST.out.lx]; omega) (by omega) (by omega) HWT.out rfl (by rw [HWV.out]; exact hRl)).mono ?_
      rintro en w3 ⟨rfl, hX', hgr, hsz3⟩
      rw [HWV.out] at hX'
      rw [HWV.out]
      obtain ⟨R, hR⟩ : ∃ R, val ((X.drop i).take (d + 1 + 1)) = R := ⟨_, rfl⟩
      rw [hR] at hX' ⊢
      have HR := Lib.hid hR
      obtain ⟨z, hz⟩ : ∃ z, R / D' = z := ⟨_, rfl⟩
      rw [hz]
      have HZ := Lib.hid hz
      clear hR hz hX hRl
      have hQ3 : Blk w3 w2.heap.size 75 .u32 (List.replicate (i + 1) 0 ++ Q) := by
        unfold Blk at hQ ⊢
        rw [hgr.block _ hsz (fun e => by have := Option.some.inj e; omega)]; exact hQ
      have hcq : w3.cell? ⟨w2.heap.size, i, none⟩ = some (.int .u32 (0 : Nat)) := hQ3.cell (by rw [List.getElem?_append_left (by simp)]; simp)
      have hfq := hQ3.free i
      have hset := hQ3.set i z
      rw [List.set_append_left _ _ (by simp), List.replicate_succ', List.set_append_right _ _ (by simp)] at hset
      have HSET := Lib.hid hset
      have hrW3 := hrW.grown hgr (fun a ha => by cases ha; exact Nat.ne_of_gt hg1)
      have hbw3 : Below w.heap.size w w3 := hbw.grown hgr hbw.size (fun j hj => by cases hj; exact Nat.le_refl _)
      clear hset
      go_wp2
      go_roundw
      case rel =>
        refine ⟨i, _, z :: Q, by omega, rfl, by have := HST'.out; rw [HR.out, HZ.out] at this; exact this, ?_, ?_, hrW3.setCell (fun a ha => by cases ha; exact Nat.ne_of_lt hg2) _, hbw3.setCell (by have := hbw2.size; exact this) _, by simp; omega⟩
        · have e : (w3.setCell ⟨w2.heap.size, i, none⟩ (.int .u32 z)).heap[w.heap.size]? = w3.heap[w.heap.size]? := heap_setCell_other w3 ⟨w2.heap.size, i, none⟩ w.heap.size _ (fun e => by simp only at e; omega)
          unfold Blk at hX' ⊢
          rw [e]; exact hX'
        · have := HSET.out
          simpa using this
      case measure => simp [intOf]

end Go.Proofs.Ytoleblefdmdbjaa
