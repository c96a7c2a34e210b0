/- Of long division: one word of the quotient. -/
import Derived.Test.YtoleblefdmdbjaaDivC
namespace Go.Proofs.Ytoleblefdmdbjaa
open Go Go.RowKit Go.Proofs.Ytoleblefdmdbjaa.Flow

theorem Blk.rowAt {w : World} {g : Nat} {e : TypeId} {k : IntKind} {xs : List Nat} (h : Blk w g e k xs) {o n c : Nat} (hn : o + n ≤ xs.length) (hc : n ≤ c) (hm : c ≤ 9223372036854775807) : Row w k (some ⟨g, o, none⟩) n c ((xs.drop o).take n) :=
  ⟨by simp; omega, hc, hm, .inr ⟨g, o, rfl, h.lt, fun i x hx => by
    rw [List.getElem?_take] at hx
    split at hx
    · rw [List.getElem?_drop] at hx
      exact h.cell hx
    · cases hx⟩⟩

theorem Blk.drewN {w : World} {g : Nat} {e : TypeId} {k : IntKind} {xs : List Nat} (h : Blk w g e k xs) (n : Nat) : Blk (w.drewN n) g e k xs := h
theorem grownBy_drewN (w : World) (n : Nat) (r : Option Nat) : w.grownBy (w.drewN n) r := ⟨rfl, rfl, rfl, Nat.le_refl _, fun _ _ _ => rfl⟩

theorem val_three (X : List Nat) (j : Nat) : val (X.take (j + 3)) = val (X.take j) + B32 j * (X.getD j 0 + 4294967296 * X.getD (j + 1) 0 + 4294967296 * (4294967296 * X.getD (j + 2) 0)) := by
  rw [val_take_succ', val_take_succ', val_take_succ', B32_succ (j + 1), B32_succ j, Nat.mul_add, Nat.mul_add]
  have e1 : 4294967296 * B32 j * X.getD (j + 1) 0 = B32 j * (4294967296 * X.getD (j + 1) 0) := by ac_rfl
  have e2 : 4294967296 * (4294967296 * B32 j) * X.getD (j + 2) 0 = B32 j * (4294967296 * (4294967296 * X.getD (j + 2) 0)) := by ac_rfl
  rw [e1, e2]; omega

theorem val_two' (X : List Nat) (j : Nat) : val (X.take (j + 2)) = val (X.take j) + B32 j * (X.getD j 0 + 4294967296 * X.getD (j + 1) 0) := by
  rw [val_take_succ', val_take_succ', B32_succ, Nat.mul_add]
  have e1 : 4294967296 * B32 j * X.getD (j + 1) 0 = B32 j * (4294967296 * X.getD (j + 1) 0) := by ac_rfl
  rw [e1]; omega

theorem Guess.mk' {X W : List Nat} {j : Nat} (hX : Words X) (hW : Words W) (lX : X.length = j + 3) (lW : W.length = j + 2) (htop : 2147483648 ≤ W.getD (j + 1) 0) (hR : val X < val W * 4294967296) :
    Guess (W.getD (j + 1) 0) (W.getD j 0) (X.getD (j + 2) 0) (X.getD (j + 1) 0) (X.getD j 0) (B32 j) (val W) (val X) := by
  have eX := val_three X j
  rw [List.take_of_length_le (by omega)] at eX
  have eW := val_two' W j
  rw [List.take_of_length_le (by omega)] at eW
  have bX : val (X.take j) < B32 j := by
    have := (hX.take j).lt
    rwa [List.length_take, Nat.min_eq_left (by omega)] at this
  have bW : val (W.take j) < B32 j := by
    have := (hW.take j).lt
    rwa [List.length_take, Nat.min_eq_left (by omega)] at this
  refine ⟨htop, hW.get _, hW.get _, hX.get _, hX.get _, hX.get _, ?_, ?_, ?_, ?_, hR⟩
  · rw [eW, Nat.mul_comm (B32 j)]
    refine Nat.le_trans (Nat.mul_le_mul_right (B32 j) ?_) (Nat.le_add_left _ _)
    omega
  · rw [eW, Nat.add_mul (W.getD (j + 1) 0 * 4294967296 + W.getD j 0) 1, Nat.one_mul]
    rw [show W.getD j 0 + 4294967296 * W.getD (j + 1) 0 = W.getD (j + 1) 0 * 4294967296 + W.getD j 0 by omega, Nat.mul_comm (B32 j)]
    omega
  · rw [eX, Nat.mul_comm (B32 j)]
    refine Nat.le_trans (Nat.mul_le_mul_right (B32 j) ?_) (Nat.le_add_left _ _)
    omega
  · rw [eX, Nat.add_mul ((X.getD (j + 2) 0 * 4294967296 + X.getD (j + 1) 0) * 4294967296 + X.getD j 0) 1, Nat.one_mul]
    rw [show X.getD j 0 + 4294967296 * X.getD (j + 1) 0 + 4294967296 * (4294967296 * X.getD (j + 2) 0) = (X.getD (j + 2) 0 * 4294967296 + X.getD (j + 1) 0) * 4294967296 + X.getD j 0 by omega, Nat.mul_comm (B32 j)]
    omega

theorem GivesTake.drawn {S : List Nat} {y : Nat} {xs : List Nat} {o g : Nat} {e : TypeId} {w : World} {n : Nat} {en : Ending} {w' : World} (h : GivesTake S y xs o g e (w.drewN n) en w') : GivesTake S y xs o g e w en w' :=
  ⟨h.1, h.2.1, grownBy_trans (grownBy_drewN w n _) h.2.2.1, h.2.2.2⟩

theorem take_app {xs Y Z : List Nat} {o : Nat} (ho : o ≤ xs.length) : (xs.take o ++ Y ++ Z).take o = xs.take o := by
  rw [List.append_assoc, List.take_append_of_le_length (by simp; omega), List.take_take, Nat.min_self]
theorem drop_app {xs Y Z : List Nat} {o : Nat} (ho : o ≤ xs.length) : (xs.take o ++ Y ++ Z).drop o = Y ++ Z := by
  rw [List.append_assoc, List.drop_append, List.drop_of_length_le (by simp; omega), List.nil_append]
  rw [show o - (xs.take o).length = 0 by simp; omega, List.drop_zero]

/-- How a row of words goes on from place o: those of S, then the others. -/
def Put (xs : List Nat) (o : Nat) (S : List Nat) : List Nat := xs.take o ++ S ++ xs.drop (o + S.length)
theorem Put.length {xs S : List Nat} {o : Nat} (h : o + S.length ≤ xs.length) : (Put xs o S).length = xs.length := by simp [Put]; omega
theorem Put.words {xs S : List Nat} {o : Nat} (h : Words xs) (k : Words S) : Words (Put xs o S) := ((h.take _).append k).append (h.drop _)
theorem Put.put {xs S T : List Nat} {o : Nat} (ho : o + S.length ≤ xs.length) (hl : S.length = T.length) : Put (Put xs o S) o T = Put xs o T := by
  unfold Put
  rw [take_app (by omega)]
  congr 1
  rw [← List.drop_drop, drop_app (by omega), ← hl, List.drop_left]
theorem Put.drop {xs S : List Nat} {o : Nat} (ho : o + S.length ≤ xs.length) : (Put xs o S).drop o = S ++ xs.drop (o + S.length) := drop_app (by omega)

/-- What one word of the quotient leaves. -/
def GivesOut (R D d : Nat) (xs : List Nat) (o g : Nat) (e : TypeId) (w : World) (en : Ending) (w' : World) : Prop :=
  en = .returned (.int .u32 (R / D : Nat)) ∧ Blk w' g e .u32 (Put xs o (wordsOf (R % D) (d + 1))) ∧ w.grownBy w' (some g) ∧ w'.heap.size = w.heap.size

set_option maxHeartbeats 4000000 in
set_option maxRecDepth 100000 in
theorem takeOut_calls (w : World) (g o n c : Nat) (xs : List Nat) (q : Option Addr) (d e : Nat) (W : List Nat) (R : Nat)
    (hg : Blk w g 75 .u32 xs) (hx : Words xs) (hW : Row w .u32 q d e W) (wW : Words W) (hq : ∀ a, q = some a → a.block ≠ g) (hd : 2 ≤ d) (hlim : d < 1000000) (hn : n = d + 1) (ho : o + n ≤ xs.length) (hc : n ≤ c) (hc2 : c < 9223372036854)
    (htop : 2147483648 ≤ W.getD (d - 1) 0) (hR : val ((xs.drop o).take (d + 1)) = R) (hlt : R < val W * 4294967296) :
    Calls Try.prog 79 #[.slice (some ⟨g, o, none⟩) n c, .slice q d e] w (GivesOut R (val W) d xs o g 75 w) := by
  subst hn
  have lW := hW.len
  obtain ⟨j, rfl⟩ : ∃ j, d = j + 2 := ⟨d - 2, by omega⟩
  have hrow := hg.rowAt ho hc (by omega)
  obtain ⟨X, hX⟩ : ∃ X, (xs.drop o).take (j + 2 + 1) = X := ⟨_, rfl⟩
  rw [hX] at hrow hR
  have wX : Words X := by rw [← hX]; exact (hx.drop o).take _
  have lX : X.length = j + 3 := by rw [← hX]; simp; omega
  have hgs := Guess.mk' (j := j) wX wW lX lW.symm htop (by rw [hR]; exact hlt)
  rw [hR] at hgs
  have hD0 := hgs.D0
  have hDd : val W ≤ B32 (j + 2) := Nat.le_of_lt (by have := wW.lt; rwa [← lW] at this)
  have hq32 := hgs.q_lt
  -- the rest: its low words, and the highest
  obtain ⟨top, htp⟩ : ∃ top, xs.getD (o + (j + 2)) 0 = top := ⟨_, rfl⟩
  have htop32 : top < 4294967296 := by rw [← htp]; exact hx.get _
  have hXg : ∀ i, i < j + 3 → X.getD i 0 = xs.getD (o + i) 0 := fun i hi => by
    rw [← hX, List.getD_eq_getElem?_getD, List.getElem?_take, if_pos (by omega), List.getElem?_drop, ← List.getD_eq_getElem?_getD]
  have hRl : R = val ((xs.drop o).take (j + 2)) + B32 (j + 2) * top := by
    rw [← hR, ← hX, val_take_succ', ← htp]
    congr 2
    rw [List.getD_eq_getElem?_getD, List.getElem?_drop, ← List.getD_eq_getElem?_getD]
  have HGS := Lib.hid hgs
  have HLW := Lib.hid lW
  have HRL := Lib.hid hRl
  have HTP := Lib.hid htp
  have HLX := Lib.hid lX
  have HD0 := Lib.hid hD0
  have HDd := Lib.hid hDd
  have htop' := Lib.hid htop
  clear hX hgs lW lX hRl hXg htp hD0 hDd htop hR hlt
  obtain ⟨D, hD⟩ : ∃ D, val W = D := ⟨_, rfl⟩
  have HVD := Lib.hid hD
  clear hD
  go_enter Try.func79, Try.ntmps79
  go_wp2_with fail
  refine (guess_calls w _ _ c X q (j + 2) e W _ _ _ _ _ _ _ _ hrow hW (by omega) (by omega) (by omega) rfl rfl rfl rfl rfl HGS.out).mono ?_
  rintro en w1 ⟨a, nd, rfl, ha1, ha2, ha3, rfl⟩
  have hgd := hg.drewN nd
  have hWd : Row (w.drewN nd) .u32 q (j + 2) e W := hW.below (below_drewN (Below.refl _ _) nd)
  go_wp2_with fail
  refine (subProduct_calls (w.drewN nd) g o _ c xs q (j + 2) e W a hgd hx hWd wW ha3 hq (by omega) (by omega) (by omega) hc hc2).mono ?_
  rintro en w2 ⟨rfl, hb2, hgr2, hsz2⟩
  have hst := subGo_st wW (hx.drop o) ha3 W.length
  rw [← HLW.out] at hst hb2 ⊢
  obtain ⟨S, hS⟩ : ∃ S, (subGo W (xs.drop o) a (j + 2)).1 = S := ⟨_, rfl⟩
  obtain ⟨y, hy⟩ : ∃ y, (subGo W (xs.drop o) a (j + 2)).2 = y := ⟨_, rfl⟩
  rw [hS] at hst hb2
  rw [hy] at hst ⊢
  have hSl := hst.len
  rw [hSl] at hb2
  have hSb := hst.words.lt
  rw [hSl] at hSb
  have heq := hst.eq
  rw [List.take_of_length_le (Nat.le_of_eq HLW.out.symm)] at heq
  have hmid := fun u => Blk.mid hb2 hSl (by omega) u
  have hct := (hmid 0).1
  rw [HTP.out] at hct
  have hft := hb2.free (o + (j + 2))
  have HM := Lib.hid (fun u => (hmid u).2)
  have HSL := Lib.hid hSl
  have HSB := Lib.hid hSb
  have HEQ := Lib.hid heq
  have HSW := Lib.hid hst.words
  have hy32 := hst.owed
  clear hmid hst hS hy heq hSl hSb
  by_cases hov : a = R / val W
  · obtain ⟨hyt, hSv⟩ := digit_right HRL.out hov (by rw [HEQ.out]) HSB.out HD0.out HDd.out
    subst hyt
    have hov2 := Lib.hid hov
    have hSv2 := Lib.hid hSv
    clear hov hSv
    go_wp2
    go_ret
    refine ⟨congrArg (fun z : Nat => Ending.returned (.int .u32 z)) hov2.out, ?_, grownBy_trans (grownBy_trans (grownBy_drewN w nd _) hgr2) (grownBy_setCell _ _ _ _), by simpa using hsz2⟩
    have h7 := HM.out 0
    have e7 : S ++ [0] = wordsOf (R % val W) (j + 2 + 1) := by
      refine eq_wordsOf (by simp [HSL.out]) (HSW.out.snoc (by omega)) ?_
      rw [val_snoc, Nat.mul_zero, Nat.add_zero, hSv2.out]
    rw [e7] at h7
    unfold Put
    rw [wordsOf_length]
    exact h7
  · have hov' : a = R / val W + 1 := by generalize R / val W = z at *; omega
    obtain ⟨hyt, hSv⟩ := digit_over HRL.out hov' (by rw [HEQ.out]) HSB.out HD0.out HDd.out
    have hov2 := Lib.hid hov'
    have hSv2 := Lib.hid hSv
    have ha0 : 1 ≤ a := by rw [hov']; exact Nat.le_add_left 1 _
    have hyt2 : top < y := by omega
    have HYT := Lib.hid hyt
    have hb3 : Blk (w2.setCell ⟨g, o + (j + 2), none⟩ (.int .u32 4294967295)) g 75 .u32 (xs.take o ++ (S ++ [4294967295]) ++ xs.drop (o + (j + 2 + 1))) := HM.out 4294967295
    have ey : ((top : Int) - y) % 4294967296 = 4294967295 := by omega
    obtain ⟨xs2, hxs2⟩ : ∃ xs2, xs.take o ++ (S ++ [4294967295]) ++ xs.drop (o + (j + 2 + 1)) = xs2 := ⟨_, rfl⟩
    have hp2 : xs2 = Put xs o (S ++ [4294967295]) := by
      rw [← hxs2]; unfold Put; simp [HSL.out]
    rw [hxs2] at hb3
    have wx2 : Words xs2 := by rw [hp2]; exact Put.words hx (HSW.out.snoc (by omega))
    have lx2 : xs2.length = xs.length := by rw [hp2]; exact Put.length (by simp [HSL.out]; omega)
    have dx2 : xs2.drop o = S ++ 4294967295 :: xs.drop (o + (j + 2 + 1)) := by
      rw [hp2, Put.drop (by simp [HSL.out]; omega)]; simp [HSL.out]
    have HDX := Lib.hid dx2
    have HP2 := Lib.hid hp2
    have HLX2 := Lib.hid lx2
    have HY2 := Lib.hid ey
    clear hov hov' hSv hyt hxs2 hp2 dx2 lx2 ey
    go_wp2
    rw [HY2.out]
    obtain ⟨w3, hw3⟩ : ∃ w3, w2.setCell ⟨g, o + (j + 2), none⟩ (.int .u32 4294967295) = w3 := ⟨_, rfl⟩
    have hg3 : w.grownBy w3 (some g) := by rw [← hw3]; exact grownBy_trans (grownBy_trans (grownBy_drewN w nd _) hgr2) (grownBy_setCell _ _ _ _)
    have hs3 : w3.heap.size = w.heap.size := by rw [← hw3]; simpa using hsz2
    rw [hw3] at hb3 ⊢
    have HS3 := Lib.hid hs3
    clear hw3 hs3
    have hr7 : Hid (wordsOf (R % val W) (j + 2) ++ [0] = wordsOf (R % val W) (j + 2 + 1)) := Lib.hid (by
      have hlt9 : R % val W < B32 (j + 2) := Nat.lt_of_lt_of_le (Nat.mod_lt _ HD0.out) HDd.out
      refine eq_wordsOf (by simp [wordsOf_length]) ((wordsOf_words _ _).snoc (by omega)) ?_
      rw [val_snoc, Nat.mul_zero, Nat.add_zero, val_wordsOf_lt hlt9])
    have hl2 : o + (j + 2) < xs2.length := by rw [HLX2.out]; omega
    have i2 : 0 ≤ (j : Int) + 2 := by omega
    have i3 : (j : Int) + 2 < (j : Int) + 2 + 1 := by omega
    have i4 : ((j : Int) + 2).toNat = j + 2 := by omega
    have HC : Hid (∀ (b : Bool) (w' : World), Blk w' g 75 .u32 (if b then Put xs2 o (wordsOf (R % val W) (j + 2)) else xs2) → w'.cell? ⟨g, o + (j + 2), none⟩ = some (.int .u32 4294967295)) := Lib.hid (by
      intro b w' hblk
      have e1 : (Put xs2 o (wordsOf (R % val W) (j + 2)))[o + (j + 2)]? = some 4294967295 := by
        rw [← List.getElem?_drop, Put.drop (by rw [wordsOf_length]; omega), List.getElem?_append_right (by rw [wordsOf_length]; omega), wordsOf_length, Nat.sub_self, ← List.drop_drop, HDX.out, List.drop_append, ]
        rw [List.drop_of_length_le (by rw [HSL.out]; omega), HSL.out, Nat.sub_self]; rfl
      have e2 : xs2[o + (j + 2)]? = some 4294967295 := by
        rw [← List.getElem?_drop, HDX.out, List.getElem?_append_right (by rw [HSL.out]; omega), HSL.out, Nat.sub_self]; rfl
      cases b with
      | true => simp only [if_true] at hblk; exact hblk.cell e1
      | false => simp only [Bool.false_eq_true, if_false] at hblk; exact hblk.cell e2)
    have HF : Hid (∀ w' : World, Blk w' g 75 .u32 (Put xs2 o (wordsOf (R % val W) (j + 2))) → w'.cell? ⟨g, o + (j + 2), none⟩ = some (.int .u32 (xs2.getD (o + (j + 2)) 0 : Nat)) ∧ Blk (w'.setCell ⟨g, o + (j + 2), none⟩ (.int .u32 0)) g 75 .u32 (Put xs o (wordsOf (R % val W) (j + 2 + 1)))) := Lib.hid (by
      intro w' hblk
      have hb5 : Blk w' g 75 .u32 (xs2.take o ++ wordsOf (R % val W) (j + 2) ++ xs2.drop (o + (j + 2))) := by
        unfold Put at hblk; rw [wordsOf_length] at hblk; exact hblk
      have hm := Blk.mid hb5 (wordsOf_length _ _) hl2 0
      refine ⟨hm.1, ?_⟩
      have e9 : xs2.take o ++ (wordsOf (R % val W) (j + 2) ++ [0]) ++ xs2.drop (o + (j + 2 + 1)) = Put xs o (wordsOf (R % val W) (j + 2 + 1)) := by
        rw [hr7.out, ← Put.put (S := S ++ [4294967295]) (by simp [HSL.out]; omega) (by simp [HSL.out, wordsOf_length]), ← HP2.out]
        unfold Put
        rw [wordsOf_length]
      rw [← e9]
      exact hm.2)
    have HT : Hid (∀ (w' w4 : World) (en : Ending) (T : List Nat) (cy : Nat), GivesTake T cy xs2 o g 75 w' en w4 → SumSt (xs2.drop o) W W.length T cy → en = .returned (.int .u32 1) ∧ Blk w4 g 75 .u32 (Put xs2 o (wordsOf (R % val W) (j + 2))) ∧ w'.grownBy w4 (some g) ∧ w4.heap.size = w'.heap.size) := Lib.hid (by
      rintro w' w4 en T cy ⟨he, hb4, hg4, hs4⟩ hst
      have lT : T.length = j + 2 := by rw [hst.len]; exact HLW.out.symm
      have hsum := hst.eq
      rw [← HLW.out, HDX.out, List.take_append_of_le_length (by rw [HSL.out]; omega), List.take_of_length_le (by rw [HSL.out]; omega), List.take_of_length_le (by rw [← HLW.out]; omega), hSv2.out] at hsum
      have hTb := hst.words.lt
      rw [lT] at hTb
      have hlt9 : R % val W < B32 (j + 2) := Nat.lt_of_lt_of_le (Nat.mod_lt _ HD0.out) HDd.out
      have hcy := hst.carry
      have hcy1 : cy = 1 := by
        rcases Nat.eq_zero_or_pos cy with h0 | h0
        · rw [h0] at hsum; omega
        · omega
      subst hcy1
      have hT : T = wordsOf (R % val W) (j + 2) := eq_wordsOf lT hst.words (by omega)
      refine ⟨he, ?_, hg4, hs4⟩
      unfold Put
      rw [← hT]
      exact hb4)
    have k0 : IntKind.u32.wrap 4294967296 = 0 := by decide
    refine wp_region_duties (by kernel_rfl) (by kernel_rfl)
      [some (.slice (some ⟨g, o, none⟩) (j + 2 + 1) c), some (.int .i64 ((j : Int) + 2)), some (.pointer (some ⟨g, o + (j + 2), none⟩)), some (.int .u32 4294967295), some (.slice (some ⟨g, o, none⟩) (j + 2 + 1) c), some (.slice q (j + 2) e), none, some (.int .u32 0), some (.pointer (some ⟨g, o + (j + 2), none⟩)), none]
      [false, false, false, false, false, false, true, false, false, true] rfl
      (fun _ _ => True)
      (fun D w' => w.grownBy w' (some g) ∧ w'.heap.size ≤ w.heap.size ∧ Blk w' g 75 .u32 (if D 9 then Put xs o (wordsOf (R % val W) (j + 2 + 1)) else if D 6 then Put xs2 o (wordsOf (R % val W) (j + 2)) else xs2))
      (fun i v _ => i = 6 → v = .int .u32 1)
      (fun _ _ _ _ h _ => h) ⟨grownBy_trans hg3 (grownBy_drewN _ 1 _), Nat.le_of_eq HS3.out, hb3⟩ ?_ ?_
    · simp only [Duties, Nat.reduceAdd]
      refine ⟨?_, ?_, ?_, ?_, ?_, ?_, ?_, ?_, ?_, ?_, trivial⟩
      case refine_4 =>
        intro D sp w' hD hW1 hdp ⟨hgr, hsz, hblk⟩
        have h9 : D 9 = false := hW1 9 (List.mem_of_elem_eq_true (by kernel_rfl))
        rw [h9] at hblk
        simp only [Bool.false_eq_true, if_false] at hblk
        have hcl := HC.out _ w' hblk
        simp [asked, Region.wanted, Oper.gives, execOp, Act.eval, Act.put, go_sem, hcl]
      case refine_7 =>
        intro D sp w' hD hW1 hdp ⟨hgr, hsz, hblk⟩
        have h9 : D 9 = false := hW1 9 (List.mem_of_elem_eq_true (by kernel_rfl))
        rw [h9, hD] at hblk
        simp only [Bool.false_eq_true, if_false] at hblk
        (with_reducible refine asked_call (w1 := w') (f := 90) (args := #[.slice (some ⟨g, o, none⟩) (j + 2 + 1) c, .slice q (j + 2) e]) ?_ ?_ ?_)
        · simp only [Region.wanted]
        · simp [Act.eval, Act.put, go_sem]
        · refine (addBack_calls w' g o _ c xs2 q (j + 2) e W hblk wx2 (hW.grown hgr hq) wW hq (by omega) (by omega) (by omega)).mono ?_
          rintro en w4 ⟨T, cy, hgt, hst⟩
          have h8 := HT.out _ _ _ _ _ hgt hst
          refine ⟨_, h8.1, trivial, fun _ => rfl, grownBy_trans hgr h8.2.2.1, (by rw [h8.2.2.2]; exact hsz), ?_⟩
          simp only [h9, Bool.false_or, decide_true, Bool.or_true, if_true]
          exact h8.2.1
      case refine_8 =>
        intro D sp w' hD hW1 hdp ⟨hgr, hsz, hblk⟩
        have k6 : sp 6 = .int .u32 1 := (hdp 6 (List.mem_of_elem_eq_true (by kernel_rfl))).2 rfl
        simp [asked, Region.wanted, Oper.gives, execOp, Act.eval, Act.put, go_sem, k6, k0]
      case refine_10 =>
        intro D sp w' hD hW1 hdp ⟨hgr, hsz, hblk⟩
        have h6 := (hdp 6 (List.mem_of_elem_eq_true (by kernel_rfl))).1
        rw [h6, hD] at hblk
        simp only [Bool.false_eq_true, if_false, if_true] at hblk
        have h8 := HF.out w' hblk
        have hcl := h8.1
        have hfr := hblk.free (o + (j + 2))
        (with_reducible refine asked_skip (w1 := w'.setCell ⟨g, o + (j + 2), none⟩ (.int .u32 0)) ?_ ?_ ?_)
        · simp only [Region.wanted]
        · simp [execOp, Act.eval, Act.put, go_sem, hcl, hfr]
        · refine ⟨trivial, (fun h => by simp at h), grownBy_trans hgr (grownBy_setCell _ _ _ _), by simpa using hsz, ?_⟩
          simp only [decide_true, Bool.or_true, if_true]
          exact h8.2
      all_goals
        intro D sp w' hD hW1 hdp ⟨hgr, hsz, hblk⟩
        simp [asked, Region.wanted, Oper.gives, execOp, Act.eval, Act.put, go_sem, i2, i3, i4]
    · intro sp w' hsp ⟨hgr, hsz, hblk⟩
      have hblk2 : Blk w' g 75 .u32 (Put xs o (wordsOf (R % val W) (j + 2 + 1))) := hblk
      clear hblk hsp
      simp only [frameOf, Nat.reduceAdd]
      generalize sp 6 = u6 at *
      generalize sp 9 = u9 at *
      go_simp
      go_wp2
      go_ret
      refine ⟨congrArg (fun z : Int => Ending.returned (.int .u32 z)) (by have := hov2.out; generalize R / val W = z at *; omega), hblk2, hgr, Nat.le_antisymm hsz hgr.size⟩

end Go.Proofs.Ytoleblefdmdbjaa
