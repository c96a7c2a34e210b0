/- The document's New of a group: the walk. -/
import Derived.Test.YtcbhgfiafamflaaGreatDoorGrpE
set_option maxRecDepth 1000000
set_option maxHeartbeats 16000000
namespace Go.Proofs.YtcbhgfiafamflaaGreatDoor
open Go Go.RowKit Go.Proofs.YtcbhgfiafamflaaGreatDoor.Flow
theorem cmpI_le0 {a b : Nat} (h : a ≤ b) : cmpI a b ≤ 0 := by
 rcases Nat.lt_or_ge a b with h1 | h1
 ·rw [cmpI_lt h1]; decide
 ·rw [Nat.le_antisymm h h1, cmpI_self]; decide
theorem cmpI_ge0 {a b : Nat} (h : b ≤ a) : 0 ≤ cmpI a b := by
 rcases Nat.lt_or_ge b a with h1 | h1
 ·rw [cmpI_gt h1]; decide
 ·rw [Nat.le_antisymm h1 h, cmpI_self]; decide
theorem BitsAt.nil0 (w : World) : BitsAt w Option.none 0 0 0 := ⟨rfl, Nat.le_refl _, by omega, .inl ⟨rfl, rfl, rfl⟩⟩
theorem firstH_step (f : Nat → Nat) {j : Nat} (hj : j < 256) : firstH f (256 - j) j = if 1 < f j then some (f j) else firstH f (256 - (j + 1)) (j + 1) := by
 rw [show 256 - j = (256 - (j + 1)) + 1 by omega]
 rfl
theorem Box4.set3 {t : TypeId} {w : World} {b : Nat} {v0 v1 v2 v3 : Value} (h : Box4 t w b v0 v1 v2 v3) (u : Value) : Box4 t (w.setCell ⟨b, 3, Option.none⟩ u) b v0 v1 v2 u := ⟨by
 have := h.at_
 simp [World.setCell, Array.getElem?_modify, this]⟩
theorem part_nil (w : World) : PartOk w ⟨Option.none, 0, 0, []⟩ := ⟨⟨rfl, Nat.le_refl _, (by decide : (0 : Nat) ≤ 9223372036854775807), fun h => absurd h (Nat.lt_irrefl 0)⟩, fun x hx => by cases hx⟩
theorem blen_small {a k : Nat} (h : a < 2 ^ k) : blen a ≤ k := (blen_le a k).2 h
def NewOut (P Q G : Nat) (r : Nat × Nat) (w : World) (e : Ending) (w' : World) : Prop :=
 ∃ x y z : Option Addr × Nat × Nat, ∃ u : Option Addr × Nat × Nat, e = .returned (.tuple #[.agg #[.slice x.1 x.2.1 x.2.2, .slice y.1 y.2.1 y.2.2, .slice z.1 z.2.1 z.2.2, .slice u.1 u.2.1 u.2.2], .int .i64 (r.1 : Nat)]) ∧
  (r.1 = 0 → BitsAt w' x.1 x.2.1 x.2.2 P ∧ BitsAt w' y.1 y.2.1 y.2.2 Q ∧ BitsAt w' z.1 z.2.1 z.2.2 G ∧ BitsAt w' u.1 u.2.1 u.2.2 r.2) ∧ Below w.heap.size w w'
open Classical in
theorem dnew_calls (w : World) (pP : Option Addr) (nP cP P : Nat) (pQ : Option Addr) (nQ cQ Q : Nat) (pG : Option Addr) (nG cG G : Nat) (ps : Option Addr) (ns cs : Nat) (seed : List Nat) (pl : Option Addr) (nl cl : Nat) (l : List StepN)
  (hP : BitsAt w pP nP cP P) (hQ : BitsAt w pQ nQ cQ Q) (hG : BitsAt w pG nG cG G) (hs : PartOk w ⟨ps, ns, cs, seed⟩) (zs : ps = none → cs = 0) (hns : ns ≤ 1000) (hl : SList w pl nl cl l)
  (lP : blen P ≤ 1100) (lQ : blen Q ≤ 1100) (lG : blen G ≤ 1100) (lL : FewB l) (hnl : nl ≤ 1000) :
  Calls Tryz.prog 10 #[.slice pP nP cP, .slice pQ nQ cQ, .slice pG nG cG, .slice ps ns cs, .slice pl nl cl] w (NewOut P Q G (newSpec P Q G seed l) w) := by
 obtain ⟨R, hR⟩ : ∃ R, newSpec P Q G seed l = R := ⟨_, rfl⟩
 have HR0 : Hold _ := ⟨hR⟩
 rw [hR]
 clear hR
 have hbx : Below w.heap.size w (w.alloc (.cells #[.slice none 0 0, .slice none 0 0, .slice none 0 0, .slice none 0 0] 51)) := bal
 have HBX : Hold _ := ⟨Box4.made 51 w (.slice none 0 0) (.slice none 0 0) (.slice none 0 0) (.slice none 0 0)⟩
 obtain ⟨wa, hwa⟩ : ∃ wa, w.alloc (.cells #[.slice none 0 0, .slice none 0 0, .slice none 0 0, .slice none 0 0] 51) = wa := ⟨_, rfl⟩
 rw [hwa] at hbx HBX
 have HB : Hold _ := ⟨hbx⟩
 have HP : Hold _ := ⟨hP.below hbx⟩
 have HQ : Hold _ := ⟨hQ.below hbx⟩
 have HG : Hold _ := ⟨hG.below hbx⟩
 have HSd : Hold _ := ⟨hs.below hbx⟩
 have HZS : Hold _ := ⟨zs⟩
 have HL : Hold _ := ⟨hl.below hbx⟩
 have HLL : Hold _ := ⟨lL⟩
 clear hP hQ hG hs zs hl lL hbx
 go_enter Tryz.func10, Tryz.ntmps10
 go_wp2_with fail
 refine (small_calls 1 wa (by decide)).mono ?_
 rintro en w1 ⟨p1, n1, c1, rfl, hn1, hb1, _⟩
 have HN1 : Hold _ := ⟨hn1⟩
 have HB1 : Hold _ := ⟨hb1⟩
 clear hn1 hb1
 obtain ⟨S1, hS1⟩ : ∃ X, decide (Told P l) = X := ⟨_, rfl⟩
 have HS1 : Hold _ := ⟨hS1⟩
 clear hS1
 go_wp2_with fail
 refine (dprime_calls w1 pP nP cP P pl nl cl l (HP.out.below HB1.out) (HL.out.below HB1.out) lP HLL.out hnl).mono ?_
 rintro en w2 ⟨rfl, hb2⟩
 rw [HS1.out]
 have HB2 : Hold _ := ⟨bstep HB1.out hb2⟩
 have HN2 : Hold _ := ⟨HN1.out.below hb2⟩
 clear hb2
 cases S1 with
 | false =>
  have HS : Hold (R = (8, 0)) := ⟨by rw [← HR0.out]; exact if_neg fun h => of_decide_eq_false HS1.out h.1⟩
  have hbx9 := HBX.out.below HB2.out HBX.out.lt
  have g0 := hbx9.cells.1
  have g1 := hbx9.cells.2.1
  have g2 := hbx9.cells.2.2.1
  have g3 := hbx9.cells.2.2.2
  have f0 := hbx9.free
  go_wp2
  obtain ⟨wf, hwf⟩ : ∃ wf, wf = (((w2.setCell ⟨w.heap.size, 0, none⟩ (.slice none 0 0)).setCell ⟨w.heap.size, 1, none⟩ (.slice none 0 0)).setCell ⟨w.heap.size, 2, none⟩ (.slice none 0 0)).setCell ⟨w.heap.size, 3, none⟩ (.slice none 0 0) := ⟨_, rfl⟩
  have hst := four_stores hbx9 hwf
  have e0 := hst.1.cells.1
  have e1 := hst.1.cells.2.1
  have e2 := hst.1.cells.2.2.1
  have e3 := hst.1.cells.2.2.2
  have hbf := hst.2.2 w.heap.size w (bstep HB.out HB2.out) (Nat.le_refl _)
  rw [← hwf]
  refine bodyPost_ret (v := .tuple #[.agg #[.slice none 0 0, .slice none 0 0, .slice none 0 0, .slice none 0 0], .int .i64 8]) (by simp [results, Tryz.results10, go_sem, e0, e1, e2, e3]) rfl ⟨(none, 0, 0), (none, 0, 0), (none, 0, 0), (none, 0, 0), by rw [HS.out]; rfl, ?_, hbf⟩
  intro h0
  rw [HS.out] at h0
  exact absurd h0 (by decide)
 | true =>
  have HTP : Hold (Told P l) := ⟨of_decide_eq_true HS1.out⟩
  obtain ⟨S2, hS2⟩ : ∃ X, decide (Told Q l) = X := ⟨_, rfl⟩
  have HS2 : Hold _ := ⟨hS2⟩
  clear hS2
  go_wp2_with fail
  refine (dprime_calls w2 pQ nQ cQ Q pl nl cl l (HQ.out.below HB2.out) (HL.out.below HB2.out) lQ HLL.out hnl).mono ?_
  rintro en w3 ⟨rfl, hb3⟩
  rw [HS2.out]
  have HB3 : Hold _ := ⟨bstep HB2.out hb3⟩
  have HN3 : Hold _ := ⟨HN2.out.below hb3⟩
  clear hb3
  cases S2 with
  | false =>
   have HS : Hold (R = (8, 0)) := ⟨by rw [← HR0.out]; exact if_neg fun h => of_decide_eq_false HS2.out h.2⟩
   have hbx9 := HBX.out.below HB3.out HBX.out.lt
   have g0 := hbx9.cells.1
   have g1 := hbx9.cells.2.1
   have g2 := hbx9.cells.2.2.1
   have g3 := hbx9.cells.2.2.2
   have f0 := hbx9.free
   go_wp2
   obtain ⟨wf, hwf⟩ : ∃ wf, wf = (((w3.setCell ⟨w.heap.size, 0, none⟩ (.slice none 0 0)).setCell ⟨w.heap.size, 1, none⟩ (.slice none 0 0)).setCell ⟨w.heap.size, 2, none⟩ (.slice none 0 0)).setCell ⟨w.heap.size, 3, none⟩ (.slice none 0 0) := ⟨_, rfl⟩
   have hst := four_stores hbx9 hwf
   have e0 := hst.1.cells.1
   have e1 := hst.1.cells.2.1
   have e2 := hst.1.cells.2.2.1
   have e3 := hst.1.cells.2.2.2
   have hbf := hst.2.2 w.heap.size w (bstep HB.out HB3.out) (Nat.le_refl _)
   rw [← hwf]
   refine bodyPost_ret (v := .tuple #[.agg #[.slice none 0 0, .slice none 0 0, .slice none 0 0, .slice none 0 0], .int .i64 8]) (by simp [results, Tryz.results10, go_sem, e0, e1, e2, e3]) rfl ⟨(none, 0, 0), (none, 0, 0), (none, 0, 0), (none, 0, 0), by rw [HS.out]; rfl, ?_, hbf⟩
   intro h0
   rw [HS.out] at h0
   exact absurd h0 (by decide)
  | true =>
   have HTQ : Hold (Told Q l) := ⟨of_decide_eq_true HS2.out⟩
   have HP2 : Hold (2 ≤ P) := ⟨(told_prime HTP.out).1⟩
   have HQ2 : Hold (2 ≤ Q) := ⟨(told_prime HTQ.out).1⟩
   have HR1 : Hold ((if RightG P Q G then match firstH (fun c => hNum seed P c ^ ((P - 1) / Q) % P) 256 0 with | some h => (0, h) | none => (6, 0) else (1, 0)) = R) := ⟨by rw [← HR0.out]; exact (if_pos ⟨HTP.out, HTQ.out⟩).symm⟩
   go_wp2_with fail
   refine (rsub_fit (RBits.of (HP.out.below HB3.out)) (RBits.of HN3.out) (by omega) (by have := HP2.out; omega)).mono ?_
   rintro en w4 ⟨_, rfl, ⟨p4, n4, c4, rfl, h4⟩, hb4⟩
   have HB4 : Hold _ := ⟨bstep HB3.out hb4⟩
   have HN4 : Hold _ := ⟨HN3.out.below hb4⟩
   have H4 : Hold _ := ⟨h4⟩
   clear hb4 h4
   go_wp2_with fail
   refine (rdiv_fit (RBits.of H4.out) (RBits.of (HQ.out.below HB4.out)) (by have : blen (P - 1) ≤ blen P := blen_mono (Nat.sub_le _ _); omega) (by omega) (by have := HQ2.out; omega)).mono ?_
   rintro en w5 ⟨pt, nt, ct, pr, nr, cr, rfl, ht, hr, hb5⟩
   have HB5 : Hold _ := ⟨bstep HB4.out hb5⟩
   have HN5 : Hold _ := ⟨HN4.out.below hb5⟩
   have HT5 : Hold _ := ⟨ht⟩
   have HNr : Hold (nr = blen ((P - 1) % Q)) := ⟨bits_len hr⟩
   have hnrm := Nat.le_trans hr.cap hr.max
   clear hb5 ht hr
   by_cases hrem : (P - 1) % Q = 0
   ·have hnr : nr = 0 := by rw [HNr.out, hrem]; rfl
    have HRem : Hold _ := ⟨hrem⟩
    subst hnr
    clear hrem
    go_wp2_with fail
    refine (small_calls 64 w5 (by decide)).mono ?_
    rintro en w6 ⟨p6, n6, c6, rfl, hn6, hb6, _⟩
    have HB6 : Hold _ := ⟨bstep HB5.out hb6⟩
    have HN6 : Hold _ := ⟨HN5.out.below hb6⟩
    have HT6 : Hold _ := ⟨HT5.out.below hb6⟩
    have H6 : Hold _ := ⟨hn6⟩
    clear hb6 hn6
    go_wp2_with fail
    refine (rcmp_fit (RBits.of (HQ.out.below HB6.out)) (RBits.of H6.out) (by omega) (Nat.le_trans (blen_small (k := 7) (by decide)) (by decide))).mono ?_
    rintro en w7 ⟨_, rfl, rfl, hb7⟩
    have HB7 : Hold _ := ⟨bstep HB6.out hb7⟩
    have HN7 : Hold _ := ⟨HN6.out.below hb7⟩
    have HT7 : Hold _ := ⟨HT6.out.below hb7⟩
    obtain ⟨K1, hK1⟩ : ∃ K, cmpI Q 64 = K := ⟨_, rfl⟩
    rw [hK1]
    have HK1 : Hold _ := ⟨hK1⟩
    clear hb7 hK1
    by_cases hq : Q ≤ 64
    ·have hk : K1 ≤ 0 := by rw [← HK1.out]; exact cmpI_le0 hq
     have HS : Hold (R = (1, 0)) := ⟨by rw [← HR1.out]; exact if_neg fun h => by have := h.2.1; omega⟩
     clear hq
     have hbx9 := HBX.out.below HB7.out HBX.out.lt
     have g0 := hbx9.cells.1
     have g1 := hbx9.cells.2.1
     have g2 := hbx9.cells.2.2.1
     have g3 := hbx9.cells.2.2.2
     have f0 := hbx9.free
     go_wp2
     obtain ⟨wf, hwf⟩ : ∃ wf, wf = (((w7.setCell ⟨w.heap.size, 0, none⟩ (.slice none 0 0)).setCell ⟨w.heap.size, 1, none⟩ (.slice none 0 0)).setCell ⟨w.heap.size, 2, none⟩ (.slice none 0 0)).setCell ⟨w.heap.size, 3, none⟩ (.slice none 0 0) := ⟨_, rfl⟩
     have hst := four_stores hbx9 hwf
     have e0 := hst.1.cells.1
     have e1 := hst.1.cells.2.1
     have e2 := hst.1.cells.2.2.1
     have e3 := hst.1.cells.2.2.2
     have hbf := hst.2.2 w.heap.size w (bstep HB.out HB7.out) (Nat.le_refl _)
     rw [← hwf]
     refine bodyPost_ret (v := .tuple #[.agg #[.slice none 0 0, .slice none 0 0, .slice none 0 0, .slice none 0 0], .int .i64 1]) (by simp [results, Tryz.results10, go_sem, e0, e1, e2, e3]) rfl ⟨(none, 0, 0), (none, 0, 0), (none, 0, 0), (none, 0, 0), by rw [HS.out]; rfl, ?_, hbf⟩
     intro h0
     rw [HS.out] at h0
     exact absurd h0 (by decide)
    have hk1 : ¬ K1 ≤ 0 := by rw [← HK1.out, cmpI_gt (by omega)]; decide
    have HQ64 : Hold (64 < Q) := ⟨by omega⟩
    clear hq
    go_wp2_with fail
    refine (rcmp_fit (RBits.of (HG.out.below HB7.out)) (RBits.of HN7.out) (by omega) (Nat.le_trans (blen_small (k := 1) (by decide)) (by decide))).mono ?_
    rintro en w8 ⟨_, rfl, rfl, hb8⟩
    have HB8 : Hold _ := ⟨bstep HB7.out hb8⟩
    have HN8 : Hold _ := ⟨HN7.out.below hb8⟩
    have HT8 : Hold _ := ⟨HT7.out.below hb8⟩
    obtain ⟨K2, hK2⟩ : ∃ K, cmpI G 1 = K := ⟨_, rfl⟩
    rw [hK2]
    have HK2 : Hold _ := ⟨hK2⟩
    clear hb8 hK2
    by_cases hg : G ≤ 1
    ·have hk : K2 ≤ 0 := by rw [← HK2.out]; exact cmpI_le0 hg
     have HS : Hold (R = (1, 0)) := ⟨by rw [← HR1.out]; exact if_neg fun h => by have := h.2.2.1; omega⟩
     clear hg
     have hbx9 := HBX.out.below HB8.out HBX.out.lt
     have g0 := hbx9.cells.1
     have g1 := hbx9.cells.2.1
     have g2 := hbx9.cells.2.2.1
     have g3 := hbx9.cells.2.2.2
     have f0 := hbx9.free
     go_wp2
     obtain ⟨wf, hwf⟩ : ∃ wf, wf = (((w8.setCell ⟨w.heap.size, 0, none⟩ (.slice none 0 0)).setCell ⟨w.heap.size, 1, none⟩ (.slice none 0 0)).setCell ⟨w.heap.size, 2, none⟩ (.slice none 0 0)).setCell ⟨w.heap.size, 3, none⟩ (.slice none 0 0) := ⟨_, rfl⟩
     have hst := four_stores hbx9 hwf
     have e0 := hst.1.cells.1
     have e1 := hst.1.cells.2.1
     have e2 := hst.1.cells.2.2.1
     have e3 := hst.1.cells.2.2.2
     have hbf := hst.2.2 w.heap.size w (bstep HB.out HB8.out) (Nat.le_refl _)
     rw [← hwf]
     refine bodyPost_ret (v := .tuple #[.agg #[.slice none 0 0, .slice none 0 0, .slice none 0 0, .slice none 0 0], .int .i64 1]) (by simp [results, Tryz.results10, go_sem, e0, e1, e2, e3]) rfl ⟨(none, 0, 0), (none, 0, 0), (none, 0, 0), (none, 0, 0), by rw [HS.out]; rfl, ?_, hbf⟩
     intro h0
     rw [HS.out] at h0
     exact absurd h0 (by decide)
    have hk2 : ¬ K2 ≤ 0 := by rw [← HK2.out, cmpI_gt (by omega)]; decide
    have HG1 : Hold (1 < G) := ⟨by omega⟩
    clear hg
    go_wp2_with fail
    refine (rcmp_fit (RBits.of (HG.out.below HB8.out)) (RBits.of (HP.out.below HB8.out)) (by omega) (by omega)).mono ?_
    rintro en w9 ⟨_, rfl, rfl, hb9⟩
    have HB9 : Hold _ := ⟨bstep HB8.out hb9⟩
    have HN9 : Hold _ := ⟨HN8.out.below hb9⟩
    have HT9 : Hold _ := ⟨HT8.out.below hb9⟩
    obtain ⟨K3, hK3⟩ : ∃ K, cmpI G P = K := ⟨_, rfl⟩
    rw [hK3]
    have HK3 : Hold _ := ⟨hK3⟩
    clear hb9 hK3
    by_cases hgp : P ≤ G
    ·have hk : 0 ≤ K3 := by rw [← HK3.out]; exact cmpI_ge0 hgp
     have HS : Hold (R = (1, 0)) := ⟨by rw [← HR1.out]; exact if_neg fun h => by have := h.2.2.2.1; omega⟩
     clear hgp
     have hbx9 := HBX.out.below HB9.out HBX.out.lt
     have g0 := hbx9.cells.1
     have g1 := hbx9.cells.2.1
     have g2 := hbx9.cells.2.2.1
     have g3 := hbx9.cells.2.2.2
     have f0 := hbx9.free
     go_wp2
     obtain ⟨wf, hwf⟩ : ∃ wf, wf = (((w9.setCell ⟨w.heap.size, 0, none⟩ (.slice none 0 0)).setCell ⟨w.heap.size, 1, none⟩ (.slice none 0 0)).setCell ⟨w.heap.size, 2, none⟩ (.slice none 0 0)).setCell ⟨w.heap.size, 3, none⟩ (.slice none 0 0) := ⟨_, rfl⟩
     have hst := four_stores hbx9 hwf
     have e0 := hst.1.cells.1
     have e1 := hst.1.cells.2.1
     have e2 := hst.1.cells.2.2.1
     have e3 := hst.1.cells.2.2.2
     have hbf := hst.2.2 w.heap.size w (bstep HB.out HB9.out) (Nat.le_refl _)
     rw [← hwf]
     refine bodyPost_ret (v := .tuple #[.agg #[.slice none 0 0, .slice none 0 0, .slice none 0 0, .slice none 0 0], .int .i64 1]) (by simp [results, Tryz.results10, go_sem, e0, e1, e2, e3]) rfl ⟨(none, 0, 0), (none, 0, 0), (none, 0, 0), (none, 0, 0), by rw [HS.out]; rfl, ?_, hbf⟩
     intro h0
     rw [HS.out] at h0
     exact absurd h0 (by decide)
    have hk3 : ¬ 0 ≤ K3 := by rw [← HK3.out, cmpI_lt (by omega)]; decide
    have HGP : Hold (G < P) := ⟨by omega⟩
    clear hgp
    have hb0 : Below w9.heap.size w9 (w9.alloc (.cells #[.slice pP nP cP, .slice pQ nQ cQ, .slice pG nG cG, .slice none 0 0] 51)) := bal
    have hX0 := Box4.made 51 w9 (.slice pP nP cP) (.slice pQ nQ cQ) (.slice pG nG cG) (.slice none 0 0)
    obtain ⟨w0, hw0⟩ : ∃ w0, w9.alloc (.cells #[.slice pP nP cP, .slice pQ nQ cQ, .slice pG nG cG, .slice none 0 0] 51) = w0 := ⟨_, rfl⟩
    rw [hw0] at hb0 hX0
    have y0 := hX0.cells.1
    have y1 := hX0.cells.2.1
    have y2 := hX0.cells.2.2.1
    have y3 := hX0.cells.2.2.2
    have yf := hX0.free
    have hba : Below w9.heap.size w9 (w0.setCell ⟨w9.heap.size, 3, none⟩ (.slice none 0 0)) := hb0.setCell (Nat.le_refl _) _
    have HX15 : Hold (Box4 51 (w0.setCell ⟨w9.heap.size, 3, none⟩ (.slice none 0 0)) w9.heap.size (.slice pP nP cP) (.slice pQ nQ cQ) (.slice pG nG cG) (.slice none 0 0)) := ⟨⟨by
     have := hX0.at_
     simp [World.setCell, Array.getElem?_modify, this]⟩⟩
    obtain ⟨wb, hwb⟩ : ∃ wb, w0.setCell ⟨w9.heap.size, 3, none⟩ (.slice none 0 0) = wb := ⟨_, rfl⟩
    rw [hwb] at hba HX15
    clear hb0 hX0
    have HBb : Hold _ := ⟨bstep HB9.out hba⟩
    have HNb : Hold _ := ⟨HN9.out.below hba⟩
    have HTb : Hold _ := ⟨HT9.out.below hba⟩
    have HRef : Hold (RefVal P Q G 0 (.agg #[.slice pP nP cP, .slice pQ nQ cQ, .slice pG nG cG, .slice none 0 0]) wb) := ⟨⟨pP, nP, cP, pQ, nQ, cQ, pG, nG, cG, none, 0, 0, rfl, HP.out.below HBb.out, HQ.out.below HBb.out, HG.out.below HBb.out, BitsAt.nil0 wb⟩⟩
    have z0 := HX15.out.cells.1
    have z1 := HX15.out.cells.2.1
    have z2 := HX15.out.cells.2.2.1
    have z3 := HX15.out.cells.2.2.2
    have zf := HX15.out.free
    clear hba
    obtain ⟨S3, hS3⟩ : ∃ X, decide (0 < G ∧ G < P ∧ G ^ Q % P = 1) = X := ⟨_, rfl⟩
    have HS3 : Hold _ := ⟨hS3⟩
    clear hS3
    go_wp2_with fail
    refine (dmember_calls HRef.out (HG.out.below HBb.out) (by omega) (by omega) (by omega) (by have := HP2.out; omega)).mono ?_
    rintro en wc ⟨rfl, hbc⟩
    rw [HS3.out]
    have HBc : Hold _ := ⟨bstep HBb.out hbc⟩
    have HNc : Hold _ := ⟨HNb.out.below hbc⟩
    have HTc : Hold _ := ⟨HTb.out.below hbc⟩
    have HX15c : Hold _ := ⟨HX15.out.below hbc HX15.out.lt⟩
    have HRefc : Hold _ := ⟨HRef.out.below hbc⟩
    clear hbc z0 z1 z2 z3 zf y0 y1 y2 y3 yf
    cases S3 with
    | false =>
     have HS : Hold (R = (1, 0)) := ⟨by
      rw [← HR1.out]
      exact if_neg fun h => of_decide_eq_false HS3.out ⟨by have := h.2.2.1; omega, h.2.2.2.1, h.2.2.2.2⟩⟩
     have hbx9 := HBX.out.below HBc.out HBX.out.lt
     have g0 := hbx9.cells.1
     have g1 := hbx9.cells.2.1
     have g2 := hbx9.cells.2.2.1
     have g3 := hbx9.cells.2.2.2
     have f0 := hbx9.free
     go_wp2
     obtain ⟨wf, hwf⟩ : ∃ wf, wf = (((wc.setCell ⟨w.heap.size, 0, none⟩ (.slice none 0 0)).setCell ⟨w.heap.size, 1, none⟩ (.slice none 0 0)).setCell ⟨w.heap.size, 2, none⟩ (.slice none 0 0)).setCell ⟨w.heap.size, 3, none⟩ (.slice none 0 0) := ⟨_, rfl⟩
     have hst := four_stores hbx9 hwf
     have e0 := hst.1.cells.1
     have e1 := hst.1.cells.2.1
     have e2 := hst.1.cells.2.2.1
     have e3 := hst.1.cells.2.2.2
     have hbf := hst.2.2 w.heap.size w (bstep HB.out HBc.out) (Nat.le_refl _)
     rw [← hwf]
     refine bodyPost_ret (v := .tuple #[.agg #[.slice none 0 0, .slice none 0 0, .slice none 0 0, .slice none 0 0], .int .i64 1]) (by simp [results, Tryz.results10, go_sem, e0, e1, e2, e3]) rfl ⟨(none, 0, 0), (none, 0, 0), (none, 0, 0), (none, 0, 0), by rw [HS.out]; rfl, ?_, hbf⟩
     intro h0
     rw [HS.out] at h0
     exact absurd h0 (by decide)
    | true =>
     have HRi : Hold (RightG P Q G) := ⟨⟨HRem.out, HQ64.out, HG1.out, HGP.out, (of_decide_eq_true HS3.out).2.2⟩⟩
     have HR2 : Hold ((match firstH (fun c => hNum seed P c ^ ((P - 1) / Q) % P) 256 0 with | some h => (0, h) | none => (6, 0)) = R) := ⟨by rw [← HR1.out]; exact (if_pos HRi.out).symm⟩
     have HT9l : Hold (w9.heap.size < wc.heap.size) := ⟨HX15c.out.lt⟩
     go_wp2
     go_loopw [16, 17, 18] (fun cv _ _ wr => ∃ k : Nat, k ≤ 256 ∧ cv = .int .i64 k ∧ Hold (Below wc.heap.size wc wr) ∧ Hold (firstH (fun c => hNum seed P c ^ ((P - 1) / Q) % P) 256 0 = firstH (fun c => hNum seed P c ^ ((P - 1) / Q) % P) (256 - k) k)) (fun cv _ _ _ => 256 - (intOf cv).toNat)
     case atStart => exact ⟨0, by omega, rfl, ⟨Below.refl _ _⟩, ⟨rfl⟩⟩
     case round =>
      obtain ⟨k, hk, rfl, HBr, HF⟩ := hrel
      by_cases hkn : k < 256
      ·have hkn' : (k : Int) < 256 := by omega
       have hcv : IntKind.u8.wrap ((k : Nat) : Int) = k := IntWalk.u8_in _ (by omega)
       have hX15r := HX15c.out.below HBr.out HX15c.out.lt
       have HBcr : Hold _ := ⟨bstep HBc.out HBr.out⟩
       have hrow := lit_row wr [104, k] (by simp)
       have hb1 : Below wr.heap.size wr (wr.alloc (.cells #[.int .u8 (104 : Nat), .int .u8 (k : Nat)] 5)) := bal
       have hrow' : RowIn (wr.alloc (.cells #[.int .u8 (104 : Nat), .int .u8 (k : Nat)] 5)) .u8 (some ⟨wr.heap.size, 0, none⟩) 2 2 [104, k] := hrow
       obtain ⟨wd, hwd⟩ : ∃ wd, wr.alloc (.cells #[.int .u8 (104 : Nat), .int .u8 (k : Nat)] 5) = wd := ⟨_, rfl⟩
       rw [hwd] at hb1 hrow'
       have hwd' : wr.alloc (.cells #[.int .u8 104, .int .u8 (k : Nat)] 5) = wd := hwd
       have HRow : Hold (PartOk wd ⟨some ⟨wr.heap.size, 0, none⟩, 2, 2, [104, k]⟩) := ⟨⟨hrow', fun x hx => by simp at hx; omega⟩⟩
       have HBd : Hold _ := ⟨bstep HBcr.out hb1⟩
       have HX15d : Hold _ := ⟨hX15r.below hb1 hX15r.lt⟩
       have HRefd : Hold _ := ⟨(HRefc.out.below HBr.out).below hb1⟩
       have HTd : Hold _ := ⟨(HTc.out.below HBr.out).below hb1⟩
       have HNd : Hold _ := ⟨(HNc.out.below HBr.out).below hb1⟩
       have HBrd : Hold _ := ⟨bstep HBr.out hb1⟩
       have z0 := HX15d.out.cells.1
       have z1 := HX15d.out.cells.2.1
       have z2 := HX15d.out.cells.2.2.1
       have z3 := HX15d.out.cells.2.2.2
       clear hrow hrow' hb1 hwd hX15r
       go_wp2_with fail
       refine (dsize_calls HRefd.out (by omega)).mono ?_
       rintro en we ⟨rfl, hbe⟩
       have HBe : Hold _ := ⟨bstep HBd.out hbe⟩
       have HX15e : Hold _ := ⟨HX15d.out.below hbe HX15d.out.lt⟩
       have HRowe : Hold _ := ⟨HRow.out.below hbe⟩
       have HTe : Hold _ := ⟨HTd.out.below hbe⟩
       have HNe : Hold _ := ⟨HNd.out.below hbe⟩
       have HBce : Hold _ := ⟨bstep HBrd.out hbe⟩
       have HSz : Hold (bsize P ≤ 200) := ⟨by unfold bsize; omega⟩
       obtain ⟨sz, hsz⟩ : ∃ sz, bsize P = sz := ⟨_, rfl⟩
       rw [hsz] at HSz
       rw [hsz]
       have HSzE : Hold _ := ⟨hsz⟩
       have hsz2 : sz ≤ 200 := HSz.out
       obtain ⟨n8, hn8⟩ : ∃ n8, sz + 8 = n8 := ⟨_, rfl⟩
       have hadd : ((sz : Int) + 8) = ((n8 : Nat) : Int) := by rw [← hn8]; simp
       have hn8l : n8 ≤ 208 := by omega
       have HN8 : Hold (bsize P + 8 = n8) := ⟨by rw [HSzE.out]; exact hn8⟩
       obtain ⟨XB, hXB⟩ : ∃ XB, (exps (hmac [] seed) [104, k] ((n8 + 31) / 32)).take n8 = XB := ⟨_, rfl⟩
       have HXB : Hold _ := ⟨hXB⟩
       have hXl : XB.length = n8 := by rw [← hXB, List.length_take, exps_length]; omega
       have HXl : Hold _ := ⟨hXl⟩
       have HX8 : Hold (Bytes8 XB) := ⟨by rw [← hXB]; exact (exps_bytes _ _ _).take n8⟩
       have HNum : Hold (be XB = hNum seed P k) := ⟨by unfold hNum; rw [HN8.out, hXB]⟩
       have HDer : Hold _ := ⟨refderive_calls we none 0 0 [] ps ns cs seed (some ⟨wr.heap.size, 0, none⟩) 2 2 [104, k] n8 (part_nil we) (fun _ => rfl) (HSd.out.below HBe.out) HZS.out HRowe.out (fun h => by cases h) (by omega) hns (by omega) (by omega)⟩
       rw [hXB] at HDer
       clear hsz hbe z0 z1 z2 z3 hn8 hXB hXl
       go_wp2_with fail
       refine HDer.out.mono ?_
       rintro en wf ⟨v, rfl, ho, hbf⟩
       refine ho.elim (fun pv cv hv hr _ _ => ?_)
       clear ho
       subst hv
       rw [HXl.out] at hr ⊢
       have HRv : Hold _ := ⟨hr⟩
       have HBf : Hold _ := ⟨bstep HBe.out hbf⟩
       have HX15f : Hold _ := ⟨HX15e.out.below hbf HX15e.out.lt⟩
       have HTf : Hold _ := ⟨HTe.out.below hbf⟩
       have HNf : Hold _ := ⟨HNe.out.below hbf⟩
       have HBcf : Hold _ := ⟨bstep HBce.out hbf⟩
       clear hr hbf HDer hadd
       go_wp2_with fail
       refine (of_calls wf pv n8 cv XB HRv.out HX8.out (by omega)).mono ?_
       rintro en wg ⟨pw, nw, cw, rfl, hbw, hbg, _⟩
       rw [HNum.out] at hbw
       have HW : Hold _ := ⟨hbw⟩
       have HBg : Hold _ := ⟨bstep HBf.out hbg⟩
       have HX15g : Hold _ := ⟨HX15f.out.below hbg HX15f.out.lt⟩
       have HTg : Hold _ := ⟨HTf.out.below hbg⟩
       have HNg : Hold _ := ⟨HNf.out.below hbg⟩
       have HBcg : Hold _ := ⟨bstep HBcf.out hbg⟩
       have hlw : blen (hNum seed P k) ≤ 100000 := by
        rw [← HNum.out]
        have := be_blen HX8.out
        rw [HXl.out] at this
        omega
       have hlt : blen ((P - 1) / Q) ≤ 100000 := by
        have h1 : blen ((P - 1) / Q) ≤ blen P := blen_mono (Nat.le_trans (Nat.div_le_self _ _) (Nat.sub_le _ _))
        omega
       obtain ⟨Y, hY⟩ : ∃ Y, hNum seed P k ^ ((P - 1) / Q) % P = Y := ⟨_, rfl⟩
       have HY : Hold _ := ⟨hY⟩
       have HYl : Hold (blen Y ≤ 1100) := ⟨by rw [← hY]; exact Nat.le_trans (blen_mono (Nat.le_of_lt (Nat.mod_lt _ (by have := HP2.out; omega)))) lP⟩
       have HExp : Hold _ := ⟨dexp_fit (RBits.of HW.out) (RBits.of HTg.out) (RBits.of (HP.out.below HBg.out)) hlw hlt (by omega) (by have := HP2.out; omega)⟩
       rw [hY] at HExp
       clear hbw hbg hlw hlt hY
       go_wp2_with fail
       refine HExp.out.mono ?_
       rintro en wh ⟨_, rfl, ⟨px, nx, cx, rfl, hx⟩, hbh⟩
       have HYx : Hold _ := ⟨hx⟩
       have HBh : Hold _ := ⟨bstep HBg.out hbh⟩
       have HX15h : Hold _ := ⟨HX15g.out.below hbh HX15g.out.lt⟩
       have HNh : Hold _ := ⟨HNg.out.below hbh⟩
       have HBch : Hold _ := ⟨bstep HBcg.out hbh⟩
       clear hx hbh HExp
       go_wp2_with fail
       refine (rcmp_fit (RBits.of HYx.out) (RBits.of HNh.out) (by have := HYl.out; omega) (Nat.le_trans (blen_small (k := 1) (by decide)) (by decide))).mono ?_
       rintro en wi ⟨_, rfl, rfl, hbi⟩
       have HBi : Hold _ := ⟨bstep HBh.out hbi⟩
       have HBci : Hold _ := ⟨bstep HBch.out hbi⟩
       have HX15i : Hold _ := ⟨HX15h.out.below hbi HX15h.out.lt⟩
       have HYi : Hold _ := ⟨HYx.out.below hbi⟩
       obtain ⟨K4, hK4⟩ : ∃ K, cmpI Y 1 = K := ⟨_, rfl⟩
       rw [hK4]
       have HK4 : Hold _ := ⟨hK4⟩
       have HFs : Hold _ := ⟨firstH_step (fun c => hNum seed P c ^ ((P - 1) / Q) % P) hkn⟩
       clear hbi hK4
       by_cases hY1 : 1 < Y
       ·have hk4 : (0 : Int) < K4 := by rw [← HK4.out, cmpI_gt hY1]; decide
        have HS : Hold (R = (0, Y)) := ⟨by
         rw [← HR2.out, HF.out, HFs.out]
         have : 1 < (fun c => hNum seed P c ^ ((P - 1) / Q) % P) k := by rw [show (fun c => hNum seed P c ^ ((P - 1) / Q) % P) k = Y from HY.out]; exact hY1
         rw [if_pos this, HY.out]⟩
        have z0 := HX15i.out.cells.1
        have z1 := HX15i.out.cells.2.1
        have z2 := HX15i.out.cells.2.2.1
        have z3 := HX15i.out.cells.2.2.2
        have zf := HX15i.out.free
        have hne : w.heap.size ≠ w9.heap.size := by
         have h1 := HBX.out.lt
         have h2 := HB9.out.size
         omega
        have hX1 := HX15i.out.set3 (.slice px nx cx)
        have hB1 : Box4 51 (wi.setCell ⟨w9.heap.size, 3, none⟩ (.slice px nx cx)) w.heap.size (.slice none 0 0) (.slice none 0 0) (.slice none 0 0) (.slice none 0 0) := (HBX.out.below HBi.out HBX.out.lt).agree (bad := fun g => g = w9.heap.size) (.set _ _ _ _ rfl) hne
        have hk1 : KeptS wi (wi.setCell ⟨w9.heap.size, 3, none⟩ (.slice px nx cx)) := KeptS.set z3 _
        have hb1 : Below w.heap.size w (wi.setCell ⟨w9.heap.size, 3, none⟩ (.slice px nx cx)) := (bstep HB.out HBi.out).setCell (by
         have h1 := HBX.out.lt
         have h2 := HB9.out.size
         show w.heap.size ≤ w9.heap.size
         omega) _
        obtain ⟨wj, hwj⟩ : ∃ wj, wi.setCell ⟨w9.heap.size, 3, none⟩ (.slice px nx cx) = wj := ⟨_, rfl⟩
        rw [hwj] at hX1 hB1 hk1 hb1
        have y0 := hX1.cells.1
        have y1 := hX1.cells.2.1
        have y2 := hX1.cells.2.2.1
        have y3 := hX1.cells.2.2.2
        have g0 := hB1.cells.1
        have g1 := hB1.cells.2.1
        have g2 := hB1.cells.2.2.1
        have g3 := hB1.cells.2.2.2
        have f0 := hB1.free
        clear hY1
        go_wp2
        obtain ⟨wz, hwz⟩ : ∃ wz, wz = (((wj.setCell ⟨w.heap.size, 0, none⟩ (.slice pP nP cP)).setCell ⟨w.heap.size, 1, none⟩ (.slice pQ nQ cQ)).setCell ⟨w.heap.size, 2, none⟩ (.slice pG nG cG)).setCell ⟨w.heap.size, 3, none⟩ (.slice px nx cx) := ⟨_, rfl⟩
        have hk2 : KeptS wj wz := by rw [hwz]; exact kept_four (x0 := (none, 0, 0)) (x1 := (none, 0, 0)) (x2 := (none, 0, 0)) (x3 := (none, 0, 0)) hB1 _ _ _ _
        have hst := four_stores hB1 hwz
        have e0 := hst.1.cells.1
        have e1 := hst.1.cells.2.1
        have e2 := hst.1.cells.2.2.1
        have e3 := hst.1.cells.2.2.2
        have hbz := hst.2.2 w.heap.size w hb1 (Nat.le_refl _)
        have hkz := hk1.trans hk2
        rw [← hwz]
        refine bodyPost_ret (v := .tuple #[.agg #[.slice pP nP cP, .slice pQ nQ cQ, .slice pG nG cG, .slice px nx cx], .int .i64 0]) (by simp [results, Tryz.results10, go_sem, e0, e1, e2, e3]) rfl ⟨(pP, nP, cP), (pQ, nQ, cQ), (pG, nG, cG), (px, nx, cx), by rw [HS.out]; rfl, ?_, hbz⟩
        intro _
        rw [HS.out]
        exact ⟨bitsLike.kept (HP.out.below HBi.out) hkz, bitsLike.kept (HQ.out.below HBi.out) hkz, bitsLike.kept (HG.out.below HBi.out) hkz, bitsLike.kept HYi.out hkz⟩
       ·have hk4 : ¬ (0 : Int) < K4 := by rw [← HK4.out]; have := cmpI_le0 (show Y ≤ 1 by omega); omega
        have HF' : Hold (firstH (fun c => hNum seed P c ^ ((P - 1) / Q) % P) 256 0 = firstH (fun c => hNum seed P c ^ ((P - 1) / Q) % P) (256 - (k + 1)) (k + 1)) := ⟨by
         rw [HF.out, HFs.out, if_neg]
         rw [HY.out]
         exact hY1⟩
        clear hY1
        go_wp2
        go_roundw
        case rel => exact ⟨k + 1, by omega, by go_num, HBci, HF'⟩
        case measure => simp [intOf]; omega
      ·obtain rfl : k = 256 := by omega
       have hkn' : ¬ (256 : Int) < 256 := by omega
       have HS : Hold (R = (6, 0)) := ⟨by
        rw [← HR2.out, HF.out]
        rfl⟩
       have HBz : Hold _ := ⟨bstep HBc.out HBr.out⟩
       have hbx9 := HBX.out.below HBz.out HBX.out.lt
       have g0 := hbx9.cells.1
       have g1 := hbx9.cells.2.1
       have g2 := hbx9.cells.2.2.1
       have g3 := hbx9.cells.2.2.2
       have f0 := hbx9.free
       go_wp2
       obtain ⟨wf, hwf⟩ : ∃ wf, wf = (((wr.setCell ⟨w.heap.size, 0, none⟩ (.slice none 0 0)).setCell ⟨w.heap.size, 1, none⟩ (.slice none 0 0)).setCell ⟨w.heap.size, 2, none⟩ (.slice none 0 0)).setCell ⟨w.heap.size, 3, none⟩ (.slice none 0 0) := ⟨_, rfl⟩
       have hst := four_stores hbx9 hwf
       have e0 := hst.1.cells.1
       have e1 := hst.1.cells.2.1
       have e2 := hst.1.cells.2.2.1
       have e3 := hst.1.cells.2.2.2
       have hbf := hst.2.2 w.heap.size w (bstep HB.out HBz.out) (Nat.le_refl _)
       rw [← hwf]
       refine bodyPost_ret (v := .tuple #[.agg #[.slice none 0 0, .slice none 0 0, .slice none 0 0, .slice none 0 0], .int .i64 6]) (by simp [results, Tryz.results10, go_sem, e0, e1, e2, e3]) rfl ⟨(none, 0, 0), (none, 0, 0), (none, 0, 0), (none, 0, 0), by rw [HS.out]; rfl, ?_, hbf⟩
       intro h0
       rw [HS.out] at h0
       exact absurd h0 (by decide)
   ·have hnr : (0 : Int) < nr := by
     have := blen_pos (show 0 < (P - 1) % Q by omega)
     have := HNr.out
     omega
    have HS : Hold (R = (1, 0)) := ⟨by rw [← HR1.out]; exact if_neg fun h => hrem h.1⟩
    clear hrem
    have hbx9 := HBX.out.below HB5.out HBX.out.lt
    have g0 := hbx9.cells.1
    have g1 := hbx9.cells.2.1
    have g2 := hbx9.cells.2.2.1
    have g3 := hbx9.cells.2.2.2
    have f0 := hbx9.free
    go_wp2
    obtain ⟨wf, hwf⟩ : ∃ wf, wf = (((w5.setCell ⟨w.heap.size, 0, none⟩ (.slice none 0 0)).setCell ⟨w.heap.size, 1, none⟩ (.slice none 0 0)).setCell ⟨w.heap.size, 2, none⟩ (.slice none 0 0)).setCell ⟨w.heap.size, 3, none⟩ (.slice none 0 0) := ⟨_, rfl⟩
    have hst := four_stores hbx9 hwf
    have e0 := hst.1.cells.1
    have e1 := hst.1.cells.2.1
    have e2 := hst.1.cells.2.2.1
    have e3 := hst.1.cells.2.2.2
    have hbf := hst.2.2 w.heap.size w (bstep HB.out HB5.out) (Nat.le_refl _)
    rw [← hwf]
    refine bodyPost_ret (v := .tuple #[.agg #[.slice none 0 0, .slice none 0 0, .slice none 0 0, .slice none 0 0], .int .i64 1]) (by simp [results, Tryz.results10, go_sem, e0, e1, e2, e3]) rfl ⟨(none, 0, 0), (none, 0, 0), (none, 0, 0), (none, 0, 0), by rw [HS.out]; rfl, ?_, hbf⟩
    intro h0
    rw [HS.out] at h0
    exact absurd h0 (by decide)
end Go.Proofs.YtcbhgfiafamflaaGreatDoor
