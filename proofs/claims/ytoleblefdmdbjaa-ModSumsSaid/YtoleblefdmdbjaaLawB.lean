/- The second layer's small functions: rings, numbers, what lives. -/
import Derived.Test.YtoleblefdmdbjaaExp
namespace Go.Proofs.Ytoleblefdmdbjaa
open Go Go.RowKit Go.Proofs.Ytoleblefdmdbjaa.Flow

theorem fit_nil (w : World) : Fit 0 0 (.agg #[.slice none 0 0]) w := Fit.of (NatAt.nil w) (by decide)

set_option maxHeartbeats 1000000 in
theorem inv_nil {w : World} {v : Value} {e N : Nat} (h : Fit e N v w) :
    Calls Try.prog 44 #[.pointer none, v] w fun en w' => en = .returned (.tuple #[.agg #[.slice none 0 0], .int .i64 1]) ∧ Below w.heap.size w w' := by
  obtain ⟨pa, na, ca, rfl, h1, h2⟩ := fit_cases h
  have hbx := NB2.mk2 w (.slice pa na ca) (.slice none 0 0)
  have c1 := hbx.b1.cell
  have f1 := hbx.b1.free
  go_enter Try.func44, Try.ntmps44
  go_wp2
  exact bodyPost_ret (v := .tuple #[.agg #[.slice none 0 0], .int .i64 1]) (by simp [results, Try.results44, go_sem, c1]) rfl ⟨rfl, hbx.bel⟩

set_option maxHeartbeats 1000000 in
theorem of_nil {w : World} {v : Value} {e N : Nat} (h : Fit e N v w) :
    Calls Try.prog 45 #[.pointer none, v] w fun en w' => en = .returned (.agg #[.slice none 0 0]) ∧ Below w.heap.size w w' := by
  obtain ⟨pa, na, ca, rfl, h1, h2⟩ := fit_cases h
  have hbx := NB2.mk2 w (.slice pa na ca) (.slice none 0 0)
  have c1 := hbx.b1.cell
  have f1 := hbx.b1.free
  go_enter Try.func45, Try.ntmps45
  go_wp2
  exact bodyPost_ret (v := .agg #[.slice none 0 0]) (by simp [results, Try.results45, go_sem, c1]) rfl ⟨rfl, hbx.bel⟩

set_option maxHeartbeats 1000000 in
theorem modulus_nil (w : World) :
    Calls Try.prog 46 #[.pointer none] w fun en w' => en = .returned (.agg #[.slice none 0 0]) ∧ Below w.heap.size w w' := by
  have hb1 := NatBox.made w (.slice none 0 0)
  have c1 := hb1.cell
  have f1 := hb1.free
  have hbel : Below w.heap.size w (w.alloc (.cells #[.slice none 0 0] 26)) := (Below.refl _ _).alloc (Nat.le_refl _) _
  go_enter Try.func46, Try.ntmps46
  go_wp2
  exact bodyPost_ret (v := .agg #[.slice none 0 0]) (by simp [results, Try.results46, go_sem, c1]) rfl ⟨rfl, hbel⟩

/-- A number of at most 24 bytes. -/
def numC (bs : List Nat) : Nat := be (bs.take 24)
theorem numC_lt {bs : List Nat} (h : Bytes8 bs) : numC bs < B32 6 := by
  unfold numC be
  have h1 := (h.take 24).reverse.lt
  have h2 : B8 (bs.take 24).reverse.length ≤ B8 (4 * 6) := B8_mono (by simp; omega)
  rw [B8_four] at h2
  omega

theorem cut_in {w : World} {p : Option Addr} {n c : Nat} {X : List Nat} (hX : RowIn w .u8 p n c X) : ∃ n1, n1 ≤ 24 ∧ n1 ≤ n ∧ RowIn w .u8 p n1 c (X.take 24) ∧ (if (24 : Int) < n then 24 else (n : Int)) = n1 := by
  rcases Nat.lt_or_ge 24 n with h | h
  · exact ⟨24, by omega, by omega, hX.take 24 (by omega), by rw [if_pos (by omega)]; rfl⟩
  · exact ⟨n, h, Nat.le_refl _, by rw [List.take_of_length_le (by rw [← hX.len]; exact h)]; exact hX, by rw [if_neg (by omega)]⟩

theorem num_cut_fit {w : World} {p : Option Addr} {n c : Nat} {X : List Nat} (h : RowIn w .u8 p n c (X.take 24)) (hb8 : Bytes8 X) :
    Calls Try.prog 21 #[.slice p n c] w fun en w' => ∃ q m d, en = .returned (.agg #[.slice q m d]) ∧ Fit 6 (numC X) (.agg #[.slice q m d]) w' ∧ Below w.heap.size w w' := by
  refine (num_calls w p n c (X.take 24) h (hb8.take 24)).mono ?_
  rintro en w' ⟨q, m, d, rfl, hn, hb, _⟩
  rw [List.take_take, Nat.min_eq_right (by omega)] at hn
  exact ⟨q, m, d, rfl, Fit.of hn (numC_lt hb8), hb⟩

theorem of_cut_fit {w : World} {p : Option Addr} {n c : Nat} {X : List Nat} (h : RowIn w .u8 p n c (X.take 24)) (hn : n ≤ 24) (hb8 : Bytes8 X) :
    Calls Try.prog 55 #[.slice p n c] w fun en w' => ∃ q m d, en = .returned (.slice q m d) ∧ BitsAt w' q m d (numC X) ∧ Below w.heap.size w w' := by
  refine (of_calls w p n c (X.take 24) h (hb8.take 24) (by omega)).mono ?_
  rintro en w' ⟨q, m, d, rfl, hn, hb, _⟩
  exact ⟨q, m, d, rfl, hn, hb⟩

def GivesLRing (N : Nat) (w : World) (en : Ending) (w' : World) : Prop :=
  ∃ rp q m d, en = .returned (.tuple #[.pointer rp, .slice q m d]) ∧ BitsAt w' q m d N ∧ Below w.heap.size w w' ∧ ((N < 2 ∧ rp = none) ∨ (2 ≤ N ∧ ∃ r, rp = some ⟨r, 0, none⟩ ∧ Ring w' r N 6))

set_option maxHeartbeats 1000000 in
theorem lring_fit {w : World} {p : Option Addr} {n c : Nat} {X : List Nat} (hX : RowIn w .u8 p n c X) (hb8 : Bytes8 X) :
    Calls Try.prog 41 #[.slice p n c] w (GivesLRing (numC X) w) := by
  have hcap := hX.cap
  have hmax := hX.max
  obtain ⟨n1, h1, h2, h3, h4⟩ := cut_in hX
  have hc1 : n1 ≤ c := by omega
  clear hX
  by_cases hn : 24 < n
  · have e : n1 = 24 := by rw [if_pos (by omega)] at h4; omega
    subst e
    clear h4
    go_enter Try.func41, Try.ntmps41
    go_wp2_with fail
    refine (num_cut_fit h3 hb8).mono ?_
    rintro en w1 ⟨q, m, d, rfl, hA, hb⟩
    go_wp2_with fail
    refine (rngnew_fit hA (by omega)).mono ?_
    rintro en w2 ⟨hb2, hcase⟩
    have hb12 := bstep hb hb2
    rcases hcase with ⟨hlt, rfl⟩ | ⟨hge, r, rfl, hR, _⟩
    · have HLT := Lib.hid hlt
      clear hlt
      go_wp2_with fail
      refine (of_cut_fit (h3.below hb12) (by omega) hb8).mono ?_
      rintro en w3 ⟨q3, m3, d3, rfl, hP, hb3⟩
      go_wp2
      go_ret2
      exact ⟨_, q3, m3, d3, rfl, hP, bstep hb12 hb3, .inl ⟨HLT.out, rfl⟩⟩
    · have HGE := Lib.hid hge
      clear hge
      go_wp2_with fail
      refine (of_cut_fit (h3.below hb12) (by omega) hb8).mono ?_
      rintro en w3 ⟨q3, m3, d3, rfl, hP, hb3⟩
      go_wp2
      go_ret2
      exact ⟨_, q3, m3, d3, rfl, hP, bstep hb12 hb3, .inr ⟨HGE.out, r, rfl, hR.below hb3⟩⟩
  · have e : n1 = n := by rw [if_neg (by omega)] at h4; omega
    subst e
    clear h4
    go_enter Try.func41, Try.ntmps41
    go_wp2_with fail
    refine (num_cut_fit h3 hb8).mono ?_
    rintro en w1 ⟨q, m, d, rfl, hA, hb⟩
    go_wp2_with fail
    refine (rngnew_fit hA (by omega)).mono ?_
    rintro en w2 ⟨hb2, hcase⟩
    have hb12 := bstep hb hb2
    rcases hcase with ⟨hlt, rfl⟩ | ⟨hge, r, rfl, hR, _⟩
    · have HLT := Lib.hid hlt
      clear hlt
      go_wp2_with fail
      refine (of_cut_fit (h3.below hb12) (by omega) hb8).mono ?_
      rintro en w3 ⟨q3, m3, d3, rfl, hP, hb3⟩
      go_wp2
      go_ret2
      exact ⟨_, q3, m3, d3, rfl, hP, bstep hb12 hb3, .inl ⟨HLT.out, rfl⟩⟩
    · have HGE := Lib.hid hge
      clear hge
      go_wp2_with fail
      refine (of_cut_fit (h3.below hb12) (by omega) hb8).mono ?_
      rintro en w3 ⟨q3, m3, d3, rfl, hP, hb3⟩
      go_wp2
      go_ret2
      exact ⟨_, q3, m3, d3, rfl, hP, bstep hb12 hb3, .inr ⟨HGE.out, r, rfl, hR.below hb3⟩⟩

theorem BRow.setCell_box {w : World} {p : Option Addr} {n c b m d : Nat} {q : Option Addr} {xs : List Bool} (h : BRow w p n c xs) (hb : NatBox w b (.slice q m d)) (v : Value) : BRow (w.setCell ⟨b, 0, none⟩ v) p n c xs := by
  refine ⟨h.len, h.cap, h.max, ?_⟩
  rcases h.at_ with h1 | ⟨b', off, h1, h2, h3⟩
  · exact .inl h1
  · refine .inr ⟨b', off, h1, by simpa using h2, fun i x hx => ?_⟩
    have h4 := h3 i x hx
    have hne : b' ≠ b := by
      intro e
      subst e
      unfold NatBox at hb
      rcases Nat.eq_zero_or_pos (off + i) with h0 | h0
      · rw [h0] at h4; simp [World.cell?, hb] at h4
      · obtain ⟨j, hj⟩ : ∃ j, off + i = j + 1 := ⟨off + i - 1, by omega⟩
        rw [hj] at h4
        simp [World.cell?, hb] at h4
    rw [World.cell?_setCell_other _ _ _ _ (fun e => hne (by have := congrArg Addr.block e; simpa using this.symm))]
    exact h4

def GivesLNum (N : Nat) (w : World) (en : Ending) (w' : World) : Prop :=
  ∃ p n c q m d, en = .returned (.tuple #[.agg #[.slice p n c], .slice q m d]) ∧ Fit 6 N (.agg #[.slice p n c]) w' ∧ BitsAt w' q m d N ∧ Below w.heap.size w w'

set_option maxHeartbeats 1000000 in
theorem lnum_fit {w : World} {p : Option Addr} {n c : Nat} {X : List Nat} (hX : RowIn w .u8 p n c X) (hb8 : Bytes8 X) :
    Calls Try.prog 42 #[.slice p n c] w (GivesLNum (numC X) w) := by
  have hcap := hX.cap
  have hmax := hX.max
  obtain ⟨n1, h1, h2, h3, h4⟩ := cut_in hX
  have hc1 : n1 ≤ c := by omega
  have hb1 := NatBox.made w (.slice none 0 0)
  have hbel : Below w.heap.size w (w.alloc (.cells #[.slice none 0 0] 26)) := (Below.refl _ _).alloc (Nat.le_refl _) _
  clear hX
  by_cases hn : 24 < n
  · have e : n1 = 24 := by rw [if_pos (by omega)] at h4; omega
    subst e
    clear h4
    go_enter Try.func42, Try.ntmps42
    go_wp2_with fail
    refine (num_cut_fit (h3.below hbel) hb8).mono ?_
    rintro en w1 ⟨q, m, d, rfl, hA, hb⟩
    have hbw := bstep hbel hb
    go_wp2_with fail
    refine (of_cut_fit (h3.below hbw) (by omega) hb8).mono ?_
    rintro en w2 ⟨q3, m3, d3, rfl, hP, hb3⟩
    have hbn := (hb1.below hb hb1.lt).below hb3 (Nat.lt_of_lt_of_le hb1.lt hb.size)
    have k1 := hbn.cell
    have k2 := hbn.free
    replace hA := hA.below hb3
    obtain ⟨_, _, _, he, a1, a2⟩ := hA
    cases he
    have hz := hbn.lt
    go_wp2
    exact bodyPost_ret (v := .tuple #[.agg #[.slice q m d], .slice q3 m3 d3]) (by simp [results, Try.results42, go_sem, k1]) rfl ⟨q, m, d, q3, m3, d3, rfl, Fit.of (a1.store hbn _) a2, BRow.setCell_box hP hbn _, (bstep hbw hb3).setCell (Nat.le_refl _) _⟩
  · have e : n1 = n := by rw [if_neg (by omega)] at h4; omega
    subst e
    clear h4
    go_enter Try.func42, Try.ntmps42
    go_wp2_with fail
    refine (num_cut_fit (h3.below hbel) hb8).mono ?_
    rintro en w1 ⟨q, m, d, rfl, hA, hb⟩
    have hbw := bstep hbel hb
    go_wp2_with fail
    refine (of_cut_fit (h3.below hbw) (by omega) hb8).mono ?_
    rintro en w2 ⟨q3, m3, d3, rfl, hP, hb3⟩
    have hbn := (hb1.below hb hb1.lt).below hb3 (Nat.lt_of_lt_of_le hb1.lt hb.size)
    have k1 := hbn.cell
    have k2 := hbn.free
    replace hA := hA.below hb3
    obtain ⟨_, _, _, he, a1, a2⟩ := hA
    cases he
    have hz := hbn.lt
    go_wp2
    exact bodyPost_ret (v := .tuple #[.agg #[.slice q m d], .slice q3 m3 d3]) (by simp [results, Try.results42, go_sem, k1]) rfl ⟨q, m, d, q3, m3, d3, rfl, Fit.of (a1.store hbn _) a2, BRow.setCell_box hP hbn _, (bstep hbw hb3).setCell (Nat.le_refl _) _⟩

end Go.Proofs.Ytoleblefdmdbjaa
