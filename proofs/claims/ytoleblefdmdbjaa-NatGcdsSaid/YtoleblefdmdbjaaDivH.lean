/- Of long division: all words of the quotient. -/
import Derived.Test.YtoleblefdmdbjaaDivG
namespace Go.Proofs.Ytoleblefdmdbjaa
open Go Go.RowKit Go.Proofs.Ytoleblefdmdbjaa.Flow

theorem val_cut (X : List Nat) (i : Nat) (h : i ≤ X.length) : val X = val (X.take i) + B32 i * val (X.drop i) := by
  conv => lhs; rw [← List.take_append_drop i X]
  rw [val_append, List.length_take, Nat.min_eq_left h]

/-- Where the division stands: m words of the quotient are still to come. -/
structure LongSt (N D nb na m : Nat) (X Q : List Nat) : Prop where
  lx : X.length = na + 1
  wx : Words X
  lq : Q.length + m = na + 1 - nb
  wq : Words Q
  lt : val (X.drop m) < D
  eq : N = val X + B32 m * (val Q * D)

theorem LongSt.step {N D nb na i : Nat} {X Q : List Nat} (h : LongSt N D nb na (i + 1) X Q) (hD : D ≤ B32 nb) (hi : i + 1 + nb ≤ na + 1) :
    val ((X.drop i).take (nb + 1)) < D * 4294967296 ∧ LongSt N D nb na i (Put X i (wordsOf (val ((X.drop i).take (nb + 1)) % D) (nb + 1))) (val ((X.drop i).take (nb + 1)) / D :: Q) := by
  have lx := h.lx
  have hD0 : 0 < D := Nat.lt_of_le_of_lt (Nat.zero_le _) h.lt
  obtain ⟨R, hR⟩ : ∃ R, val ((X.drop i).take (nb + 1)) = R := ⟨_, rfl⟩
  rw [hR]
  have hx := h.wx.get i
  have e1 : X.drop i = X.getD i 0 :: X.drop (i + 1) := by
    rw [List.drop_eq_getElem_cons (by omega), List.getD_eq_getElem?_getD]; simp [show i < X.length by omega]
  have e2 : val (X.drop i) = X.getD i 0 + 4294967296 * val (X.drop (i + 1)) := by rw [e1]; rfl
  have hlt : val (X.drop i) < D * 4294967296 := by
    have := h.lt
    rw [e2]; omega
  have e3 := val_cut (X.drop i) (nb + 1) (by rw [List.length_drop]; omega)
  rw [hR] at e3
  have hz : val ((X.drop i).drop (nb + 1)) = 0 := by
    rcases Nat.eq_zero_or_pos (val ((X.drop i).drop (nb + 1))) with h0 | h0
    · exact h0
    · exfalso
      have h1 := Nat.mul_le_mul_left (B32 (nb + 1)) h0
      rw [Nat.succ_eq_add_one, Nat.zero_add, Nat.mul_one, B32_succ] at h1
      rw [B32_succ] at e3
      omega
  rw [hz, Nat.mul_zero, Nat.add_zero] at e3
  have hRl : R < D * 4294967296 := by rw [← e3]; exact hlt
  have hq : R / D < 4294967296 := by rw [Nat.div_lt_iff_lt_mul hD0, Nat.mul_comm]; exact hRl
  have hr : R % D < D := Nat.mod_lt _ hD0
  have hrB : R % D < B32 (nb + 1) := by
    have : B32 nb ≤ B32 (nb + 1) := B32_mono (by omega)
    omega
  refine ⟨hRl, ?_⟩
  have hw : (wordsOf (R % D) (nb + 1)).length = nb + 1 := wordsOf_length _ _
  have hpl : i + (wordsOf (R % D) (nb + 1)).length ≤ X.length := by rw [hw]; omega
  have e4 : val ((Put X i (wordsOf (R % D) (nb + 1))).drop i) = R % D := by
    rw [Put.drop hpl, val_append, hw, ← List.drop_drop, hz, Nat.mul_zero, Nat.add_zero, val_wordsOf_lt hrB]
  have e5 : (Put X i (wordsOf (R % D) (nb + 1))).take i = X.take i := take_app (by omega)
  refine ⟨by rw [Put.length hpl, lx], Put.words h.wx (wordsOf_words _ _), by have := h.lq; simp; omega, ?_, by rw [e4]; exact hr, ?_⟩
  · intro z hz
    rcases List.mem_cons.1 hz with rfl | hz
    · exact hq
    · exact h.wq z hz
  · have e6 := val_cut X i (by omega)
    have e7 := val_cut (Put X i (wordsOf (R % D) (nb + 1))) i (by rw [Put.length hpl]; omega)
    rw [e5, e4] at e7
    rw [e3] at e6
    have e8 := h.eq
    rw [e8, e7, e6, B32_succ]
    have hdm := Nat.div_add_mod R D
    simp only [val]
    have e9 : B32 i * ((R / D + 4294967296 * val Q) * D) = B32 i * (D * (R / D)) + 4294967296 * B32 i * (val Q * D) := by
      rw [Nat.add_mul, Nat.mul_add]
      congr 1
      · rw [Nat.mul_comm (R / D) D]
      · ac_rfl
    have e10 : B32 i * R = B32 i * (D * (R / D)) + B32 i * (R % D) := by rw [← Nat.mul_add, hdm]
    rw [e9, e10]
    omega

theorem LongSt.last {N D nb na : Nat} {X Q : List Nat} (h : LongSt N D nb na 0 X Q) : val Q = N / D ∧ val X = N % D := by
  have h1 := h.lt
  rw [List.drop_zero] at h1
  have h2 := h.eq
  rw [B32_zero, Nat.one_mul] at h2
  have hD0 : 0 < D := Nat.lt_of_le_of_lt (Nat.zero_le _) h1
  constructor
  · rw [h2, Nat.add_mul_div_right _ _ hD0, Nat.div_eq_of_lt h1, Nat.zero_add]
  · rw [h2, Nat.add_mul_mod_self_right, Nat.mod_eq_of_lt h1]

/-- The divisor, its highest bit set. -/
theorem norm_top {W : List Nat} {d s t : Nat} (hW : Words W) (hl : W.length = d + 1) (ht : W.getD d 0 = t) (h0 : 0 < t) (hs : s + blen t = 32) :
    val W * 2 ^ s < B32 (d + 1) ∧ B32 d * 2147483648 ≤ val W * 2 ^ s := by
  have h4 : t < 4294967296 := by rw [← ht]; exact hW.get d
  have e := val_take_succ' W d
  rw [List.take_of_length_le (by omega), ht] at e
  have hlo : val (W.take d) < B32 d := by
    have := (hW.take d).lt
    rwa [List.length_take, Nat.min_eq_left (by omega)] at this
  have hb1 : t < 2 ^ blen t := blen_lt t
  have hb2 : 2 ^ (blen t - 1) ≤ t := by
    rcases Nat.lt_or_ge t (2 ^ (blen t - 1)) with h1 | h1
    · have := (blen_le t (blen t - 1)).2 h1
      have := blen_pos h0
      omega
    · exact h1
  have hp : 2 ^ blen t * 2 ^ s = 4294967296 := pow_split (by omega)
  constructor
  · have h5 : val W < B32 d * 2 ^ blen t := by
      rw [e]
      have := Nat.mul_le_mul_left (B32 d) (Nat.succ_le_of_lt hb1)
      rw [Nat.succ_eq_add_one, Nat.mul_add, Nat.mul_one] at this
      omega
    have h6 := Nat.mul_lt_mul_of_pos_right h5 (Nat.pow_pos (n := s) (show 0 < 2 by omega))
    rw [Nat.mul_assoc, hp] at h6
    rw [B32_succ, Nat.mul_comm]; rw [Nat.mul_comm (val W)] at h6; rw [Nat.mul_comm 4294967296]; exact h6
  · have h5 : B32 d * 2 ^ (blen t - 1) ≤ val W := by
      rw [e]
      exact Nat.le_trans (Nat.mul_le_mul_left (B32 d) hb2) (Nat.le_add_left _ _)
    have h6 := Nat.mul_le_mul_right (2 ^ s) h5
    have hp2 : 2 ^ (blen t - 1) * 2 ^ s = 2147483648 := by
      have hb := blen_pos h0
      rw [← Nat.pow_add, show blen t - 1 + s = 31 by omega]
    rw [Nat.mul_assoc, hp2] at h6
    exact h6

theorem LongSt.start {A W : List Nat} {d na s t : Nat} (hA : Words A) (hAl : A.length = na) (hW : Words W) (hl : W.length = d + 1) (ht : W.getD d 0 = t) (h0 : 0 < t) (hs : s + blen t = 32) (hle : d + 1 ≤ na) :
    LongSt (val A * 2 ^ s) (val W * 2 ^ s) (d + 1) na (na + 1 - (d + 1)) (wordsOf (val A * 2 ^ s) (na + 1)) [] := by
  have hN : val A * 2 ^ s < B32 na * 2 ^ s := by
    have := hA.lt
    rw [hAl] at this
    exact Nat.mul_lt_mul_of_pos_right this (Nat.pow_pos (by omega))
  have hs31 : s ≤ 31 := by have := blen_pos h0; omega
  have hp31 : 2 ^ s ≤ 2147483648 := Nat.pow_le_pow_right (show 0 < 2 by omega) hs31
  have hNB : val A * 2 ^ s < B32 (na + 1) := by
    rw [B32_succ, Nat.mul_comm 4294967296]
    exact Nat.lt_of_lt_of_le hN (Nat.mul_le_mul_left _ (by omega))
  obtain ⟨_, htop⟩ := norm_top hW hl ht h0 hs
  refine ⟨wordsOf_length _ _, wordsOf_words _ _, by simp, Words.nil, ?_, ?_⟩
  · have e := val_cut (wordsOf (val A * 2 ^ s) (na + 1)) (na + 1 - (d + 1)) (by rw [wordsOf_length]; omega)
    rw [val_wordsOf_lt hNB] at e
    obtain ⟨z, hz⟩ : ∃ z, val ((wordsOf (val A * 2 ^ s) (na + 1)).drop (na + 1 - (d + 1))) = z := ⟨_, rfl⟩
    rw [hz] at e ⊢
    refine Nat.lt_of_lt_of_le ?_ htop
    have e2 : B32 na = B32 (na + 1 - (d + 1)) * B32 d := by rw [← B32_add]; congr 1; omega
    have h1 : B32 (na + 1 - (d + 1)) * z < B32 (na + 1 - (d + 1)) * (B32 d * 2147483648) := by
      have h3 : B32 na * 2 ^ s ≤ B32 (na + 1 - (d + 1)) * (B32 d * 2147483648) := by
        rw [e2, Nat.mul_assoc]
        exact Nat.mul_le_mul_left _ (Nat.mul_le_mul_left _ hp31)
      omega
    exact Nat.lt_of_mul_lt_mul_left h1
  · simp [val, val_wordsOf_lt hNB]

end Go.Proofs.Ytoleblefdmdbjaa
