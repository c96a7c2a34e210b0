/- Division, whole. -/
import Derived.Test.YtoleblefdmdbjaaDivI
namespace Go.Proofs.Ytoleblefdmdbjaa
open Go Go.RowKit Go.Proofs.Ytoleblefdmdbjaa.Flow

theorem trim_new {B : Nat} {p q : Option Addr} (hp : p = none ∨ p = q) (hq : New B q) : New B p := by
  rcases hp with rfl | rfl
  · exact New.none _
  · exact hq

set_option maxHeartbeats 2000000 in
set_option maxRecDepth 100000 in
theorem div_long (w : World) (pa : Option Addr) (na ca N : Nat) (pb : Option Addr) (d cb M : Nat) (hA : NatAt w pa na ca N) (hB : NatAt w pb (d + 1) cb M) (hd : 1 ≤ d) (hs : na < 900000) (hsb : d < 900000) (hle : M ≤ N) :
    Calls Try.prog 32 #[.agg #[.slice pa na ca], .agg #[.slice pb (d + 1) cb]] w (GivesDiv N M w) := by
  have hbx := Boxes4.mk4 w (.slice pa na ca) (.slice pb (d + 1) cb) (.slice none 0 0) (.slice none 0 0) 26 26 26 26
  have hdn : d + 1 ≤ na := by
    rcases Nat.lt_or_ge na (d + 1) with h | h
    · have := hA.len_lt hB h; omega
    · exact h
  have hM : M ≠ 0 := fun h => by have := hB.zero.2 h; omega
  have HM := Lib.hid hM
  have hdz : decide (d + 1 = 0) = false := by simp
  have hcm : decide (cmpI N M < 0) = false := by
    have : ¬ cmpI N M < 0 := by unfold cmpI; rw [if_neg (by omega)]; split <;> omega
    simpa using this
  have HCM := Lib.hid hcm
  obtain ⟨A, a1, a2, a3, a4⟩ := hA.ex
  obtain ⟨W, b1, b2, b3, b4⟩ := hB.ex
  have htop : 0 < W.getD d 0 := by
    have hl := b1.len
    rcases Nat.eq_zero_or_pos (W.getD d 0) with h0 | h0
    · exfalso
      refine b3 ?_
      rw [List.getLast?_eq_getElem?, ← hl, Nat.add_sub_cancel]
      rw [List.getD_eq_getElem?_getD] at h0
      rw [List.getElem?_eq_getElem (by omega)] at h0 ⊢
      simp only [Option.getD_some] at h0
      rw [h0]
    · exact h0
  have HAV := Lib.hid a4
  have HBV := Lib.hid b4
  clear hM hcm a4 b4 b3
  go_enter Try.func32, Try.ntmps32
  go_wp2_with fail
  refine (zero_calls _ _ _ _).mono ?_
  rintro e w1 ⟨rfl, hb1⟩
  have hbx1 := hbx.later hb1
  have c0 := hbx1.c0
  have c1 := hbx1.c1
  rw [hdz]
  go_wp2_with fail
  refine (cmp_calls _ pa _ na ca _ _ cb _ (hA.below hbx1.bel) (hB.below hbx1.bel) (by omega) (by omega)).mono ?_
  rintro e w2 ⟨rfl, hb2⟩
  have hbx2 := hbx1.later hb2
  have hcm := HCM.out
  clear c0 c1
  have c0 := hbx2.c0
  have c1 := hbx2.c1
  have hd1 : ((d : Int) + 1 == 1) = false := by rw [beq_eq_false_iff_ne]; omega
  go_wp2_with fail
  refine (divWords_calls w2 pa na ca A pb d cb W (a1.below hbx2.bel) a2 (b1.below hbx2.bel) b2 htop hd hdn hs).mono ?_
  rintro e w3 ⟨p, n, Q, q, m, R, rfl, hQ, wQ, vQ, hR, wR, vR, hb3, hp, hq⟩
  have HVQ := Lib.hid vQ
  have HVR := Lib.hid vR
  have hbx3 := hbx2.later hb3
  clear hcm c0 c1 vQ vR
  go_wp2_with fail
  refine (trimmed_calls w3 p n n Q hQ wQ).mono ?_
  rintro e w4 ⟨p1, n1, c1, rfl, hn1, hb4, hp1⟩
  have hbx4 := hbx3.later hb4
  go_wp2_with fail
  refine (trimmed_calls w4 q m m R (hR.below hb4) wR).mono ?_
  rintro e w5 ⟨p2, n2, c2', rfl, hn2, hb5, hp2⟩
  have hbx5 := hbx4.later hb5
  replace hn1 := hn1.below hb5
  have c2 := hbx5.c2
  have c3 := hbx5.c3
  have f2 := hbx5.f2
  have f3 := hbx5.f3
  have hz5 := hbx5.size
  have hz2 := hbx2.size
  have hP1 : New w2.heap.size p1 := trim_new hp1 hp
  have hP2 : New w2.heap.size p2 := trim_new hp2 hq
  go_wp2
  refine bodyPost_ret (v := .tuple #[.agg #[.slice p1 n1 c1], .agg #[.slice p2 n2 c2'], .int .i64 0]) (by simp [results, Try.results32, go_sem, c2, c3]) rfl ⟨p1, n1, c1, p2, n2, c2', by simp [HM.out], ?_, ?_, ?_, hP1.mono (by omega), hP2.mono (by omega)⟩
  · rw [HVQ.out, HAV.out, HBV.out] at hn1
    exact (hn1.setCell (a := ⟨w.heap.size + 1 + 1, 0, none⟩) (hP1.ne (show w.heap.size + 1 + 1 < w2.heap.size by omega)) _).setCell (a := ⟨w.heap.size + 1 + 1 + 1, 0, none⟩) (hP1.ne (show w.heap.size + 1 + 1 + 1 < w2.heap.size by omega)) _
  · rw [if_neg HM.out]
    rw [HVR.out, HAV.out, HBV.out] at hn2
    exact (hn2.setCell (a := ⟨w.heap.size + 1 + 1, 0, none⟩) (hP2.ne (show w.heap.size + 1 + 1 < w2.heap.size by omega)) _).setCell (a := ⟨w.heap.size + 1 + 1 + 1, 0, none⟩) (hP2.ne (show w.heap.size + 1 + 1 + 1 < w2.heap.size by omega)) _
  · exact (hbx5.bel.setCell (by simp; omega) _).setCell (by simp; omega) _

theorem div_calls (w : World) (pa : Option Addr) (na ca N : Nat) (pb : Option Addr) (nb cb M : Nat) (hA : NatAt w pa na ca N) (hB : NatAt w pb nb cb M) (hs : na < 900000) (hsb : nb < 900000) :
    Calls Try.prog 32 #[.agg #[.slice pa na ca], .agg #[.slice pb nb cb]] w (GivesDiv N M w) := by
  rcases Nat.lt_or_ge N M with h | h
  · exact div_short w pa na ca N pb nb cb M hA hB (by omega) (by omega) (.inr h)
  · rcases Nat.lt_or_ge nb 2 with h2 | h2
    · exact div_short w pa na ca N pb nb cb M hA hB (by omega) (by omega) (.inl (by omega))
    · obtain ⟨d, rfl⟩ : ∃ d, nb = d + 1 := ⟨nb - 1, by omega⟩
      exact div_long w pa na ca N pb d cb M hA hB (by omega) hs (by omega) h

end Go.Proofs.Ytoleblefdmdbjaa
