/- SlabScars, whole. -/
import Derived.Test.YtpodoleopebioaaSlCnt
namespace Go.Proofs.Ytpodoleopebioaa
open Go Go.RowKit Go.Maps Go.Proofs.Ytpodoleopebioaa.Flow
set_option maxRecDepth 100000

/-- An operation that its guard passes over. -/
theorem asked_past {P : Program} {o : Oper} {ops : Array Oper} {a : Act} {w : World} {K : Value → World → Prop}
    (hw : Region.wanted o (yielded ops a.tmps) = false) (hk : K undef w) : asked P o ops a w K := by
  unfold asked
  rw [if_neg (by rw [hw]; exact Bool.false_ne_true)]
  exact hk

theorem blk_oth {w w' : World} {b g m q : Nat} {t : TypeId} {xs : List Nat} (h : Blk w q t .u8 xs) (ho : Oth b g m w w') (hn : q ≠ b ∧ q ≠ g ∧ q ≠ m) : Blk w' q t .u8 xs := by
  unfold Blk
  rw [ho.at_ h.lt hn.1 hn.2.1 hn.2.2]
  exact h

/-- An endless slab is inked. -/
theorem put_endless {S : SM} (hs : S.sup = -1) {k : Nat} (hk : k < S.n) {x : List Nat} (hx : x.length = 64) : S.put (k : Nat) x = (0, S.inkAt k x) := by
  have hr : S.reach (k : Nat) = 0 := by
    unfold SM.reach
    rw [hs, if_neg (by decide), if_neg (by omega)]
  unfold SM.put
  rw [hr, if_neg (by decide), if_neg (by omega), Int.toNat_natCast]
theorem inkAt_sup {S : SM} (hs : S.sup = -1) (k : Nat) (x : List Nat) : (S.inkAt k x).sup = -1 := by
  show (if S.sup = -1 then -1 else S.sup - 1) = -1
  rw [if_pos hs]
/-- .. is burnt. -/
theorem burn_endless {S : SM} (hs : S.sup = -1) : S.burn.2.sup = -1 ∧ S.burn.2.n = S.n ∧ (∀ j, S.burn.2.bur j = if j ∈ S.inked then S.shown j else S.bur j) ∧ (∀ j, S.burn.2.ink j = if j ∈ S.inked then none else S.ink j) := by
  have hb : S.burns S.inked.length = S.inked.length := by unfold SM.burns; rw [if_pos hs]
  unfold SM.burn
  rw [hs, if_neg (by decide)]
  obtain ⟨h1, h2, h3, h4⟩ := SM.burnL_at S.inked S (SM.inked_nodup S) (by omega)
  rw [hb, List.take_length] at h1 h2
  rw [hs, if_pos rfl] at h4
  exact ⟨h4, h3, h1, h2⟩

/-- What was inked and burnt, and inked anew. -/
def scA (a o x : Nat) : SM := ((((SM.new 16).put (a : Nat) (plainN x)).2.put (o : Nat) (plainN x)).2).burn.2
def scB (a o x y : Nat) : SM := ((scA a o x).put (a : Nat) (plainN y)).2
theorem scA_says {a o x : Nat} (ha : a < 16) (ho : o < 16) : (scA a o x).sup = -1 ∧ (scA a o x).n = 16 ∧ (scA a o x).bur a = plainN x ∧ (scA a o x).bur o = plainN x ∧ ∀ j, (scA a o x).ink j = none := by
  have e1 := put_endless (S := SM.new 16) rfl ha (plainN_len x)
  have s1 := inkAt_sup (S := SM.new 16) rfl a (plainN x)
  have e2 := put_endless (S := (SM.new 16).inkAt a (plainN x)) s1 ho (plainN_len x)
  have s2 := inkAt_sup s1 o (plainN x)
  unfold scA
  rw [e1, e2]
  obtain ⟨h1, h2, h3, h4⟩ := burn_endless s2
  have hin : ∀ j, (((SM.new 16).inkAt a (plainN x)).inkAt o (plainN x)).ink j = if j = o then some (plainN x) else if j = a then some (plainN x) else none := fun j => rfl
  have hmem : ∀ j, j < 16 → (j = o ∨ j = a) → j ∈ (((SM.new 16).inkAt a (plainN x)).inkAt o (plainN x)).inked := fun j hj h => by
    refine SM.mem_inked.2 ⟨hj, ?_⟩
    rw [hin j]
    by_cases h9 : j = o
    · rw [if_pos h9]; rfl
    · rw [if_neg h9, if_pos (h.resolve_left h9)]; rfl
  have hsh : ∀ j, (j = o ∨ j = a) → (((SM.new 16).inkAt a (plainN x)).inkAt o (plainN x)).shown j = plainN x := fun j h => by
    unfold SM.shown
    rw [hin j]
    by_cases h9 : j = o
    · rw [if_pos h9]; rfl
    · rw [if_neg h9, if_pos (h.resolve_left h9)]; rfl
  refine ⟨h1, h2, ?_, ?_, fun j => ?_⟩
  · rw [h3 a, if_pos (hmem a ha (.inr rfl)), hsh a (.inr rfl)]
  · rw [h3 o, if_pos (hmem o ho (.inl rfl)), hsh o (.inl rfl)]
  · rw [h4 j]
    by_cases h9 : j = o ∨ j = a
    · rw [if_pos (hmem j (by omega) h9)]
    · have : (((SM.new 16).inkAt a (plainN x)).inkAt o (plainN x)).ink j = none := by rw [hin j, if_neg (fun e => h9 (.inl e)), if_neg (fun e => h9 (.inr e))]
      rw [this]; split <;> rfl
theorem scB_says {a o x y : Nat} (ha : a < 16) (ho : o < 16) : (scB a o x y).sup = -1 ∧ (scB a o x y).n = 16 ∧ (scB a o x y).bur = (scA a o x).bur ∧ ∀ j, (scB a o x y).ink j = if j = a then some (plainN y) else none := by
  obtain ⟨h1, h2, _, _, h5⟩ := scA_says (x := x) ha ho
  unfold scB
  rw [put_endless h1 (by omega) (plainN_len y)]
  refine ⟨inkAt_sup h1 _ _, h2, rfl, fun j => ?_⟩
  show (if j = a then some (plainN y) else (scA a o x).ink j) = _
  rw [h5 j]
/-- What shows behind the waking. -/
theorem sc_scarred {a o x y : Nat} (ha : a < 16) (ho : o < 16) (bs : List Nat) : ((scB a o x y).wake [((a : Nat), bs), ((o : Nat), plainN 77), ((a : Nat), bs)]).shown a = fitN bs ∧ (o ≠ a → ((scB a o x y).wake [((a : Nat), bs), ((o : Nat), plainN 77), ((a : Nat), bs)]).shown o = plainN x) := by
  obtain ⟨_, _, h3, h4⟩ := scB_says (x := x) (y := y) ha ho
  obtain ⟨_, _, _, g4, _⟩ := scA_says (x := x) ha ho
  constructor
  · show (scB a o x y).wakes _ a = _
    unfold SM.wakes SM.lastOf
    rw [h4 a, if_pos rfl]
    simp
  · intro hne
    show (scB a o x y).wakes _ o = _
    unfold SM.wakes
    rw [h4 o, if_neg hne, h3]
    exact g4
theorem sc_plain {a o x y : Nat} (ha : a < 16) (ho : o < 16) : ((scB a o x y).wake []).shown a = plainN x ∧ ((scB a o x y).wake []).shown o = plainN x := by
  obtain ⟨_, _, h3, _⟩ := scB_says (x := x) (y := y) ha ho
  obtain ⟨_, _, g3, g4, _⟩ := scA_says (x := x) ha ho
  rw [wake_nil]
  constructor
  · show (scB a o x y).bur a = _
    rw [h3]; exact g3
  · show (scB a o x y).bur o = _
    rw [h3]; exact g4
theorem wake_reach {S : SM} (l : List (Int × List Nat)) {k : Nat} (hk : k < S.n) : (S.wake l).reach (k : Nat) = 0 := by
  show (if (-1 : Int) = 0 then (12 : Int) else if (k : Int) < 0 ∨ ((S.n : Nat) : Int) ≤ (k : Int) then 2 else 0) = 0
  rw [if_neg (by decide), if_neg (by omega)]
theorem wake_inked (S : SM) (l : List (Int × List Nat)) : (S.wake l).inked = [] := by
  unfold SM.inked
  exact List.filter_eq_nil_iff.2 (fun k _ h => by cases h)

set_option maxHeartbeats 4000000 in
set_option maxRecDepth 1000000 in
theorem sscars_calls (w : World) (s t : Int) {x y : Nat} (hx : x < 256) (hy : y < 256) (sc : Bool) {p : Option Addr} {n c : Nat} {bs : List Nat} (hp : RowIn w .u8 p n c bs) (h8 : Bytes8 bs) :
    Calls Try.prog 6 #[.int .i64 s, .int .i64 t, .int .u8 (x : Nat), .int .u8 (y : Nat), .bool sc, .slice p n c] w fun e w' => e = .returned (.bool true) ∧ Below w.heap.size w w' := by
  obtain ⟨a, hsa, ha16⟩ := rest_is3 s 16 (by omega)
  obtain ⟨o, hto, ho16⟩ := rest_is3 t 16 (by omega)
  have hu1 := wrap_pos s
  have hu2 := wrap_pos t
  replace hsa : IntKind.u64.wrap s % 16 = (a : Int) := hsa
  replace hto : IntKind.u64.wrap t % 16 = (o : Int) := hto
  have HAO : Hold (a < 16 ∧ o < 16) := ⟨ha16, ho16⟩
  have HX : Hold _ := ⟨hx⟩
  have HY : Hold _ := ⟨hy⟩
  have HP : Hold _ := ⟨hp⟩
  have H8 : Hold _ := ⟨h8⟩
  clear ha16 ho16 hx hy hp h8
  go_enter Try.func6, Try.ntmps6
  go_wp2_with fail
  refine (new_calls w 16).mono ?_
  rintro e w1 (⟨h9, _⟩ | ⟨_, _, b, g, m, rfl, hb, hg, hm, hs, hbl⟩)
  · exact absurd (by omega) h9
  have HN : Hold (w.heap.size ≤ b ∧ w.heap.size ≤ g ∧ w.heap.size ≤ m) := ⟨hb, hg, hm⟩
  have HB1 : Hold _ := ⟨hbl⟩
  have HS1 : Hold (SlabAt w1 b g m (SM.new 16)) := ⟨hs⟩
  clear hb hg hm hs hbl
  go_wp2_with fail
  refine (lives15_calls w1).mono ?_
  rintro e w2 ⟨rfl, hb2⟩
  have HS2 : Hold (SlabAt w2 b g m (SM.new 16)) := ⟨HS1.out.later hb2⟩
  have HB2 : Hold (Below w.heap.size w w2) := ⟨bstepS HB1.out hb2⟩
  clear hb2
  have hmx := HP.out.max
  have hcp := HP.out.cap
  by_cases hn : 1000 < n
  · have hn' : (1000 : Int) < n := by omega
    clear hsa hto hu1 hu2
    go_wp2_with fail
    refine (lives15_calls w2).mono ?_
    rintro e w3 ⟨rfl, hb3⟩
    have HB3 : Hold (Below w.heap.size w w3) := ⟨bstepS HB2.out hb3⟩
    clear hb3
    go_wp2
    go_ret
    exact ⟨rfl, HB3.out⟩
  have hn' : ¬ (1000 : Int) < n := by omega
  go_wp2_with fail
  refine (plain_calls w2 (x := x) HX.out).mono ?_
  rintro e w3a ⟨_, rfl, ⟨q3, rfl, hq⟩, hbq⟩
  have HS3a : Hold (SlabAt w3a b g m (SM.new 16)) := ⟨HS2.out.later hbq⟩
  have HB3a : Hold (Below w.heap.size w w3a) := ⟨bstepS HB2.out hbq⟩
  have HNE3 : Hold (∀ a, some (⟨q3, 0, none⟩ : Addr) = some a → a.block ≠ b ∧ a.block ≠ g ∧ a.block ≠ m) := ⟨fun a e => by cases e; exact fresh_ne hq HS3a.out⟩
  have HQ3 : Hold _ := ⟨hq⟩
  clear hq hbq
  go_wp2_with fail
  refine (ink_calls HS3a.out (a : Nat) (row_in (blk_row64 HQ3.out (plainN_len x))) (plainN_8 HX.out) HNE3.out).mono ?_
  rintro e w3b ⟨rfl, hs, ho⟩
  have HS3b : Hold (SlabAt w3b b g m ((SM.new 16).put (a : Nat) (plainN x)).2) := ⟨hs⟩
  have HB3b : Hold (Below w.heap.size w w3b) := ⟨HB3a.out.trans (ho.below HB3a.out.size HN.out.1 HN.out.2.1 HN.out.2.2)⟩
  clear hs ho
  clear hsa hto hu1 hu2
  go_wp2_with fail
  refine (plain_calls w3b (x := x) HX.out).mono ?_
  rintro e w4a ⟨_, rfl, ⟨q4, rfl, hq⟩, hbq⟩
  have HS4a : Hold (SlabAt w4a b g m ((SM.new 16).put (a : Nat) (plainN x)).2) := ⟨HS3b.out.later hbq⟩
  have HB4a : Hold (Below w.heap.size w w4a) := ⟨bstepS HB3b.out hbq⟩
  have HNE4 : Hold (∀ a, some (⟨q4, 0, none⟩ : Addr) = some a → a.block ≠ b ∧ a.block ≠ g ∧ a.block ≠ m) := ⟨fun a e => by cases e; exact fresh_ne hq HS4a.out⟩
  have HQ4 : Hold _ := ⟨hq⟩
  clear hq hbq
  go_wp2_with fail
  refine (ink_calls HS4a.out (o : Nat) (row_in (blk_row64 HQ4.out (plainN_len x))) (plainN_8 HX.out) HNE4.out).mono ?_
  rintro e w4b ⟨rfl, hs, ho⟩
  have HS4b : Hold (SlabAt w4b b g m (((SM.new 16).put (a : Nat) (plainN x)).2.put (o : Nat) (plainN x)).2) := ⟨hs⟩
  have HB4b : Hold (Below w.heap.size w w4b) := ⟨HB4a.out.trans (ho.below HB4a.out.size HN.out.1 HN.out.2.1 HN.out.2.2)⟩
  clear hs ho
  go_wp2_with fail
  refine (burn_calls HS4b.out).mono ?_
  rintro e w5b ⟨rfl, hs, ho⟩
  have HS5b : Hold (SlabAt w5b b g m (scA a o x)) := ⟨hs⟩
  have HB5b : Hold (Below w.heap.size w w5b) := ⟨HB4b.out.trans (ho.below HB4b.out.size HN.out.1 HN.out.2.1 HN.out.2.2)⟩
  clear hs ho
  go_wp2_with fail
  refine (plain_calls w5b (x := y) HY.out).mono ?_
  rintro e w6a ⟨_, rfl, ⟨q6, rfl, hq⟩, hbq⟩
  have HS6a : Hold (SlabAt w6a b g m (scA a o x)) := ⟨HS5b.out.later hbq⟩
  have HB6a : Hold (Below w.heap.size w w6a) := ⟨bstepS HB5b.out hbq⟩
  have HNE6 : Hold (∀ a, some (⟨q6, 0, none⟩ : Addr) = some a → a.block ≠ b ∧ a.block ≠ g ∧ a.block ≠ m) := ⟨fun a e => by cases e; exact fresh_ne hq HS6a.out⟩
  have HQ6 : Hold _ := ⟨hq⟩
  clear hq hbq
  go_wp2_with fail
  refine (ink_calls HS6a.out (a : Nat) (row_in (blk_row64 HQ6.out (plainN_len y))) (plainN_8 HY.out) HNE6.out).mono ?_
  rintro e w6b ⟨rfl, hs, ho⟩
  have HS6b : Hold (SlabAt w6b b g m (scB a o x y)) := ⟨hs⟩
  have HB6b : Hold (Below w.heap.size w w6b) := ⟨HB6a.out.trans (ho.below HB6a.out.size HN.out.1 HN.out.2.1 HN.out.2.2)⟩
  clear hs ho
  go_wp2_with fail
  refine (plain_calls w6b (x := x) HX.out).mono ?_
  rintro e w7 ⟨_, rfl, ⟨q7, rfl, hq7⟩, hb7⟩
  have HS7 : Hold (SlabAt w7 b g m (scB a o x y)) := ⟨HS6b.out.later hb7⟩
  have HB7 : Hold (Below w.heap.size w w7) := ⟨bstepS HB6b.out hb7⟩
  have HQ7 : Hold _ := ⟨hq7⟩
  have HP7 : Hold _ := ⟨HP.out.below HB7.out⟩
  clear hq7 hb7
  cases sc with
  | true =>
    go_wp2_with fail
    refine (plain_at w7 (z := 77) (x := 77) (by omega) (by omega)).mono ?_
    rintro e w8 ⟨_, rfl, ⟨q8, rfl, hq8⟩, hb8⟩
    have HS8 : Hold (SlabAt w8 b g m (scB a o x y)) := ⟨HS7.out.later hb8⟩
    have HB8 : Hold (Below w.heap.size w w8) := ⟨bstepS HB7.out hb8⟩
    have HL8 : Hold (ScarsIn (w8.alloc (.cells #[.int .i64 (a : Nat), .slice p n c, .int .i64 (o : Nat), .slice (some ⟨q8, 0, none⟩) 64 64, .int .i64 (a : Nat), .slice p n c] 58)) (some ⟨w8.heap.size, 0, none⟩) 3 3 [((a : Nat), bs), ((o : Nat), plainN 77), ((a : Nat), bs)] [(p, n, c), (some ⟨q8, 0, none⟩, 64, 64), (p, n, c)]) := ⟨by
      have hbn : Below w8.heap.size w8 (w8.alloc (.cells #[.int .i64 (a : Nat), .slice p n c, .int .i64 (o : Nat), .slice (some ⟨q8, 0, none⟩) 64 64, .int .i64 (a : Nat), .slice p n c] 58)) := (Below.refl _ _).alloc (Nat.le_refl _) _
      have hb : (w8.alloc (.cells #[.int .i64 (a : Nat), .slice p n c, .int .i64 (o : Nat), .slice (some ⟨q8, 0, none⟩) 64 64, .int .i64 (a : Nat), .slice p n c] 58)).heap[w8.heap.size]? = some (.cells #[.int .i64 (a : Nat), .slice p n c, .int .i64 (o : Nat), .slice (some ⟨q8, 0, none⟩) 64 64, .int .i64 (a : Nat), .slice p n c] 58 (0, 0)) := heap_alloc_new _ _
      have hr1 := (HP.out.below HB8.out).below hbn
      have hr2 := row_in (blk_row64 (hq8.below hbn hq8.lt) (plainN_len 77))
      have hwa := wf_at (n := 16) (k := (a : Int)) (by omega) (by omega) (by have := HAO.out.1; omega)
      have hwo := wf_at (n := 16) (k := (o : Int)) (by omega) (by omega) (by have := HAO.out.2; omega)
      refine ⟨rfl, rfl, Nat.le_refl _, by omega, fun _ => ⟨w8.heap.size, 0, rfl, by simp, fun i s q hs hq => ?_⟩⟩
      match i, hs, hq with
      | 0, hs, hq => cases hs; cases hq; exact ⟨by unfold World.cell?; rw [hb]; rfl, by unfold World.cell?; rw [hb]; rfl, hr1, H8.out, hwa⟩
      | 1, hs, hq => cases hs; cases hq; exact ⟨by unfold World.cell?; rw [hb]; rfl, by unfold World.cell?; rw [hb]; rfl, hr2, plainN_8 (by omega), hwo⟩
      | 2, hs, hq => cases hs; cases hq; exact ⟨by unfold World.cell?; rw [hb]; rfl, by unfold World.cell?; rw [hb]; rfl, hr1, H8.out, hwa⟩
      | i + 3, hs, hq => cases hs⟩
    have HNE8 : Hold (∀ q ∈ [((p, n, c) : Option Addr × Nat × Nat), (some ⟨q8, 0, none⟩, 64, 64), (p, n, c)], 0 < q.2.1 → ∀ a, q.1 = some a → a.block ≠ b ∧ a.block ≠ g ∧ a.block ≠ m) := ⟨by
      have h1 : 0 < n → ∀ a, p = some a → a.block ≠ b ∧ a.block ≠ g ∧ a.block ≠ m := fun h0 a ha => by
        obtain ⟨bb, off, e, hlt, _⟩ := (HP.out.row h0).pos h0
        rw [e] at ha
        cases ha
        have := HN.out
        show bb ≠ b ∧ bb ≠ g ∧ bb ≠ m
        omega
      intro q hq
      simp only [List.mem_cons, List.not_mem_nil, or_false] at hq
      rcases hq with rfl | rfl | rfl
      · exact h1
      · intro _ a ha; cases ha; exact fresh_ne hq8 HS8.out
      · exact h1⟩
    have HS8' : Hold (SlabAt (w8.alloc (.cells #[.int .i64 (a : Nat), .slice p n c, .int .i64 (o : Nat), .slice (some ⟨q8, 0, none⟩) 64 64, .int .i64 (a : Nat), .slice p n c] 58)) b g m (scB a o x y)) := ⟨HS8.out.later ((Below.refl _ _).alloc (Nat.le_refl _) _)⟩
    have HB8' : Hold (Below w.heap.size w (w8.alloc (.cells #[.int .i64 (a : Nat), .slice p n c, .int .i64 (o : Nat), .slice (some ⟨q8, 0, none⟩) 64 64, .int .i64 (a : Nat), .slice p n c] 58))) := ⟨bstepS HB8.out ((Below.refl _ _).alloc (Nat.le_refl _) _)⟩
    clear hq8 hb8
    go_wp2_with fail
    refine (wake_calls HS8'.out HL8.out HNE8.out).mono ?_
    rintro e w9 ⟨rfl, hs, ho⟩
    have HS9 : Hold _ := ⟨hs⟩
    have HB9 : Hold (Below w.heap.size w w9) := ⟨HB8'.out.trans (ho.below HB8'.out.size HN.out.1 HN.out.2.1 HN.out.2.2)⟩
    clear hs ho HL8 HNE8 HS8' HB8'
    go_wp2_with fail
    refine (plain_new w9 (x := 0) (by omega)).mono ?_
    rintro e w10 ⟨q10, rfl, hge, hq10, hb10⟩
    have HS10 : Hold _ := ⟨HS9.out.later hb10⟩
    have HB10 : Hold (Below w.heap.size w w10) := ⟨bstepS HB9.out hb10⟩
    obtain ⟨ww, jc, hcpy, hqw, hbut⟩ := copy_run (ty := 3) hq10 (plainN_len 0) (HP.out.below HB10.out)
    rw [fit_eq HP.out.len] at hqw
    have hne10 := fresh_ne hq10 HS10.out
    have HSw : Hold _ := ⟨HS10.out.keep (hbut.block b HS10.out.lts.1 (fun e => hne10.1 e.symm)) (hbut.block g HS10.out.lts.2.1 (fun e => hne10.2.1 e.symm)) (hbut.block m HS10.out.lts.2.2 (fun e => hne10.2.2 e.symm))⟩
    have HBw : Hold (Below w.heap.size w ww) := ⟨HB10.out.trans (hbut.below (Nat.le_trans HB9.out.size hge) HB10.out.size)⟩
    have HQw : Hold _ := ⟨hqw⟩
    have HSA : Hold _ := ⟨(sc_scarred (x := x) (y := y) HAO.out.1 HAO.out.2 bs).1⟩
    have HSO : Hold (o ≠ a → _) := ⟨(sc_scarred (x := x) (y := y) HAO.out.1 HAO.out.2 bs).2⟩
    clear hq10 hb10 hbut hqw hne10 hge
    go_wp2_with fail
    refine (face_calls HSw.out (a : Nat)).mono ?_
    rintro e wa (⟨h9, _⟩ | ⟨_, qa, rfl, _, hqa, hba⟩)
    · exact absurd (wake_reach _ (by rw [(scB_says HAO.out.1 HAO.out.2).2.1]; exact HAO.out.1)) h9
    rw [Int.toNat_natCast, HSA.out] at hqa
    have HSa : Hold _ := ⟨HSw.out.later hba⟩
    have HBa : Hold (Below w.heap.size w wa) := ⟨bstepS HBw.out hba⟩
    have HQa : Hold _ := ⟨hqa⟩
    have HQw2 : Hold _ := ⟨HQw.out.below hba HQw.out.lt⟩
    clear hqa hba
    go_wp2_with fail
    refine (face_calls HSa.out (o : Nat)).mono ?_
    rintro e wr (⟨h9, _⟩ | ⟨_, qb, rfl, _, hqb, hbb⟩)
    · exact absurd (wake_reach _ (by rw [(scB_says HAO.out.1 HAO.out.2).2.1]; exact HAO.out.2)) h9
    rw [Int.toNat_natCast] at hqb
    have HSR : Hold _ := ⟨HSa.out.later hbb⟩
    have HBr : Hold (Below w.heap.size w wr) := ⟨bstepS HBa.out hbb⟩
    have HIN : Hold _ := ⟨show (SM.inked (SM.wake (scB a o x y) [((a : Nat), bs), ((o : Nat), plainN 77), ((a : Nat), bs)])).map (fun (j : Nat) => (j : Int)) = [] by rw [wake_inked]; rfl⟩
    obtain ⟨WN, hWN⟩ : ∃ l, fitN bs = l := ⟨_, rfl⟩
    have HCA : Hold (∀ w', Below wr.heap.size wr w' → (convert 26 9 (.slice (some ⟨qa, 0, none⟩) 64 64)).run Try.prog w' = .ok (.string (strOf WN)) w') := ⟨fun w' h => by
      have h1 := HQa.out.below hbb HQa.out.lt
      have := convert_row (blk_row64 (h1.below h h1.lt) (fitN_len bs))
      rw [hWN] at this; exact this⟩
    have HCW : Hold (∀ w', Below wr.heap.size wr w' → (convert 26 9 (.slice (some ⟨q10, 0, none⟩) 64 64)).run Try.prog w' = .ok (.string (strOf WN)) w') := ⟨fun w' h => by
      have h1 := HQw2.out.below hbb HQw2.out.lt
      have := convert_row (blk_row64 (h1.below h h1.lt) (fitN_len bs))
      rw [hWN] at this; exact this⟩
    obtain ⟨qw, hqw⟩ : ∃ q, q10 = q := ⟨_, rfl⟩
    rw [hqw] at HCW
    clear hcpy hWN HQa HQw HQw2 hmx hcp hn' hn
    by_cases hoa9 : o = a
    · subst hoa9
      clear hqb hbb
      go_wp2
      clear hqw
      refine wp_region_duties (by kernel_rfl) (by kernel_rfl)
        [some (.int .i64 0), some (.bool true), some (.bool true), some (.int .i64 0), some (.bool true), some (.bool true), some (.bool true), some (.slice (some ⟨qa, 0, none⟩) 64 64), some (.string (strOf WN)), some (.slice (some ⟨qw, 0, none⟩) 64 64), some (.string (strOf WN)), some (.bool true), some (.bool true), some (.bool true), some (.int .i64 (o : Nat)), some (.int .i64 (o : Nat)), some (.bool true), some (.bool true), some (undef), some (undef), some (undef), some (undef), some (undef), some (undef), some (.bool true), some (.bool true), some (.bool true), some (.pointer (some ⟨b, 0, none⟩)), none, some (.int .i64 0), some (.bool true), some (.bool true), some (.bool true)]
        [false, false, false, false, false, false, false, false, false, false, false, false, false, false, false, false, false, false, false, false, false, false, false, false, false, false, false, false, true, false, false, false, false] rfl
        (fun w1 w2 => Below w1.heap.size w1 w2)
        (fun _ w' => Below wr.heap.size wr w')
        (fun i v w' => match i with
          | 28 => v = .slice none 0 0
          | _ => True)
        ?_ (Below.refl _ _).drew ?_ ?_
      · intro i v w1 w2 hf hb
        split at hf
        · exact hf
        · trivial
      · simp only [Duties, Nat.reduceAdd]
        refine ⟨?_, ?_, ?_, ?_, ?_, ?_, ?_, ?_, ?_, ?_, ?_, ?_, ?_, ?_, ?_, ?_, ?_, ?_, ?_, ?_, ?_, ?_, ?_, ?_, ?_, ?_, ?_, ?_, ?_, ?_, ?_, ?_, ?_, trivial⟩
        case refine_1 =>
          intro D sp w' hD hW hdp hbx'
          (with_reducible refine asked_value (w1 := w') (v := .int .i64 0) ?_ ?_ ?_)
          · first | (simp only [Region.wanted]; done) | simp [Region.wanted, yielded, Act.put, go_sem]
          · simp [execOp, Act.eval, go_sem]
          · exact ⟨rfl, rfl⟩
        case refine_2 =>
          intro D sp w' hD hW hdp hbx'
          (with_reducible refine asked_value (w1 := w') (v := .bool true) ?_ ?_ ?_)
          · first | (simp only [Region.wanted]; done) | simp [Region.wanted, yielded, Act.put, go_sem]
          · simp [execOp, Act.eval, Act.put, go_sem]
          · exact ⟨rfl, rfl⟩
        case refine_3 =>
          intro D sp w' hD hW hdp hbx'
          (with_reducible refine asked_value (w1 := w') (v := .bool true) ?_ ?_ ?_)
          · first | (simp only [Region.wanted]; done) | simp [Region.wanted, yielded, Act.put, go_sem]
          · simp [execOp, Act.eval, Act.put, go_sem]
          · exact ⟨rfl, rfl⟩
        case refine_4 =>
          intro D sp w' hD hW hdp hbx'
          (with_reducible refine asked_value (w1 := w') (v := .int .i64 0) ?_ ?_ ?_)
          · first | (simp only [Region.wanted]; done) | simp [Region.wanted, yielded, Act.put, go_sem]
          · simp [execOp, Act.eval, Act.put, go_sem]
          · exact ⟨rfl, rfl⟩
        case refine_5 =>
          intro D sp w' hD hW hdp hbx'
          (with_reducible refine asked_value (w1 := w') (v := .bool true) ?_ ?_ ?_)
          · first | (simp only [Region.wanted]; done) | simp [Region.wanted, yielded, Act.put, go_sem]
          · simp [execOp, Act.eval, Act.put, go_sem]
          · exact ⟨rfl, rfl⟩
        case refine_6 =>
          intro D sp w' hD hW hdp hbx'
          (with_reducible refine asked_value (w1 := w') (v := .bool true) ?_ ?_ ?_)
          · first | (simp only [Region.wanted]; done) | simp [Region.wanted, yielded, Act.put, go_sem]
          · simp [execOp, Act.eval, Act.put, go_sem]
          · exact ⟨rfl, rfl⟩
        case refine_7 =>
          intro D sp w' hD hW hdp hbx'
          (with_reducible refine asked_value (w1 := w') (v := .bool true) ?_ ?_ ?_)
          · first | (simp only [Region.wanted]; done) | simp [Region.wanted, yielded, Act.put, go_sem]
          · simp [execOp, Act.eval, Act.put, go_sem]
          · exact ⟨rfl, rfl⟩
        case refine_8 =>
          intro D sp w' hD hW hdp hbx'
          (with_reducible refine asked_value (w1 := w') (v := .slice (some ⟨qa, 0, none⟩) 64 64) ?_ ?_ ?_)
          · first | (simp only [Region.wanted]; done) | simp [Region.wanted, yielded, Act.put, go_sem]
          · simp [execOp, Act.eval, Act.put, go_sem]
          · exact ⟨rfl, rfl⟩
        case refine_9 =>
          intro D sp w' hD hW hdp hbx'
          (with_reducible refine asked_value (w1 := w') (v := .string (strOf WN)) ?_ ?_ ?_)
          · first | (simp only [Region.wanted]; done) | simp [Region.wanted, yielded, Act.put, go_sem]
          · have cl := HCA.out w' hbx'
            simp [execOp, Act.eval, Act.put, go_sem, cl]
          · exact ⟨rfl, rfl⟩
        case refine_10 =>
          intro D sp w' hD hW hdp hbx'
          (with_reducible refine asked_value (w1 := w') (v := .slice (some ⟨qw, 0, none⟩) 64 64) ?_ ?_ ?_)
          · first | (simp only [Region.wanted]; done) | simp [Region.wanted, yielded, Act.put, go_sem]
          · simp [execOp, Act.eval, Act.put, go_sem]
          · exact ⟨rfl, rfl⟩
        case refine_11 =>
          intro D sp w' hD hW hdp hbx'
          (with_reducible refine asked_value (w1 := w') (v := .string (strOf WN)) ?_ ?_ ?_)
          · first | (simp only [Region.wanted]; done) | simp [Region.wanted, yielded, Act.put, go_sem]
          · have cl := HCW.out w' hbx'
            simp [execOp, Act.eval, Act.put, go_sem, cl]
          · exact ⟨rfl, rfl⟩
        case refine_12 =>
          intro D sp w' hD hW hdp hbx'
          (with_reducible refine asked_value (w1 := w') (v := .bool true) ?_ ?_ ?_)
          · first | (simp only [Region.wanted]; done) | simp [Region.wanted, yielded, Act.put, go_sem]
          · simp [execOp, Act.eval, Act.put, go_sem]
          · exact ⟨rfl, rfl⟩
        case refine_13 =>
          intro D sp w' hD hW hdp hbx'
          (with_reducible refine asked_value (w1 := w') (v := .bool true) ?_ ?_ ?_)
          · first | (simp only [Region.wanted]; done) | simp [Region.wanted, yielded, Act.put, go_sem]
          · simp [execOp, Act.eval, Act.put, go_sem]
          · exact ⟨rfl, rfl⟩
        case refine_14 =>
          intro D sp w' hD hW hdp hbx'
          (with_reducible refine asked_value (w1 := w') (v := .bool true) ?_ ?_ ?_)
          · first | (simp only [Region.wanted]; done) | simp [Region.wanted, yielded, Act.put, go_sem]
          · simp [execOp, Act.eval, Act.put, go_sem]
          · exact ⟨rfl, rfl⟩
        case refine_15 =>
          intro D sp w' hD hW hdp hbx'
          (with_reducible refine asked_value (w1 := w') (v := .int .i64 (o : Nat)) ?_ ?_ ?_)
          · first | (simp only [Region.wanted]; done) | simp [Region.wanted, yielded, Act.put, go_sem]
          · simp [execOp, Act.eval, Act.put, go_sem]
          · exact ⟨rfl, rfl⟩
        case refine_16 =>
          intro D sp w' hD hW hdp hbx'
          (with_reducible refine asked_value (w1 := w') (v := .int .i64 (o : Nat)) ?_ ?_ ?_)
          · first | (simp only [Region.wanted]; done) | simp [Region.wanted, yielded, Act.put, go_sem]
          · simp [execOp, Act.eval, Act.put, go_sem]
          · exact ⟨rfl, rfl⟩
        case refine_17 =>
          intro D sp w' hD hW hdp hbx'
          (with_reducible refine asked_value (w1 := w') (v := .bool true) ?_ ?_ ?_)
          · first | (simp only [Region.wanted]; done) | simp [Region.wanted, yielded, Act.put, go_sem]
          · simp [execOp, Act.eval, Act.put, go_sem]
          · exact ⟨rfl, rfl⟩
        case refine_18 =>
          intro D sp w' hD hW hdp hbx'
          (with_reducible refine asked_value (w1 := w') (v := .bool true) ?_ ?_ ?_)
          · first | (simp only [Region.wanted]; done) | simp [Region.wanted, yielded, Act.put, go_sem]
          · simp [execOp, Act.eval, Act.put, go_sem]
          · exact ⟨rfl, rfl⟩
        case refine_19 =>
          intro D sp w' hD hW hdp hbx'
          (with_reducible refine asked_past ?_ ?_)
          · (simp [Region.wanted, yielded, Act.put, go_sem] <;> exact fun h => by cases h)
          · exact ⟨rfl, rfl⟩
        case refine_20 =>
          intro D sp w' hD hW hdp hbx'
          (with_reducible refine asked_past ?_ ?_)
          · (simp [Region.wanted, yielded, Act.put, go_sem] <;> exact fun h => by cases h)
          · exact ⟨rfl, rfl⟩
        case refine_21 =>
          intro D sp w' hD hW hdp hbx'
          (with_reducible refine asked_past ?_ ?_)
          · (simp [Region.wanted, yielded, Act.put, go_sem] <;> exact fun h => by cases h)
          · exact ⟨rfl, rfl⟩
        case refine_22 =>
          intro D sp w' hD hW hdp hbx'
          (with_reducible refine asked_past ?_ ?_)
          · (simp [Region.wanted, yielded, Act.put, go_sem] <;> exact fun h => by cases h)
          · exact ⟨rfl, rfl⟩
        case refine_23 =>
          intro D sp w' hD hW hdp hbx'
          (with_reducible refine asked_past ?_ ?_)
          · (simp [Region.wanted, yielded, Act.put, go_sem] <;> exact fun h => by cases h)
          · exact ⟨rfl, rfl⟩
        case refine_24 =>
          intro D sp w' hD hW hdp hbx'
          (with_reducible refine asked_past ?_ ?_)
          · (simp [Region.wanted, yielded, Act.put, go_sem] <;> exact fun h => by cases h)
          · exact ⟨rfl, rfl⟩
        case refine_25 =>
          intro D sp w' hD hW hdp hbx'
          (with_reducible refine asked_value (w1 := w') (v := .bool true) ?_ ?_ ?_)
          · first | (simp only [Region.wanted]; done) | simp [Region.wanted, yielded, Act.put, go_sem]
          · simp [execOp, Act.eval, Act.put, go_sem]
          · exact ⟨rfl, rfl⟩
        case refine_26 =>
          intro D sp w' hD hW hdp hbx'
          (with_reducible refine asked_value (w1 := w') (v := .bool true) ?_ ?_ ?_)
          · first | (simp only [Region.wanted]; done) | simp [Region.wanted, yielded, Act.put, go_sem]
          · simp [execOp, Act.eval, Act.put, go_sem]
          · exact ⟨rfl, rfl⟩
        case refine_27 =>
          intro D sp w' hD hW hdp hbx'
          (with_reducible refine asked_value (w1 := w') (v := .bool true) ?_ ?_ ?_)
          · first | (simp only [Region.wanted]; done) | simp [Region.wanted, yielded, Act.put, go_sem]
          · simp [execOp, Act.eval, Act.put, go_sem]
          · exact ⟨rfl, rfl⟩
        case refine_28 =>
          intro D sp w' hD hW hdp hbx'
          (with_reducible refine asked_value (w1 := w') (v := .pointer (some ⟨b, 0, none⟩)) ?_ ?_ ?_)
          · first | (simp only [Region.wanted]; done) | simp [Region.wanted, yielded, Act.put, go_sem]
          · simp [execOp, Act.eval, Act.put, go_sem]
          · exact ⟨rfl, rfl⟩
        case refine_29 =>
          intro D sp w' hD hW hdp hbx'
          (with_reducible refine asked_call (w1 := w') (f := 16) (args := #[.pointer (some ⟨b, 0, none⟩)]) ?_ ?_ ?_)
          · first | (simp only [Region.wanted]; done) | simp [Region.wanted, yielded, Act.put, go_sem]
          · simp [Act.eval, Act.put, go_sem]
          · refine (inked_calls (HSR.out.later hbx')).mono ?_
            rintro en w9 ⟨v, rfl, _, hv, hb⟩
            have e9 : v = .slice none 0 0 := hv.2 HIN.out
            subst e9
            exact ⟨_, rfl, hb, rfl, bstepS hbx' hb⟩
        case refine_30 =>
          intro D sp w' hD hW hdp hbx'
          have k28 : (sp 28) = .slice none 0 0 := (hdp 28 (List.mem_of_elem_eq_true (by kernel_rfl))).2
          (with_reducible refine asked_value (w1 := w') (v := .int .i64 0) ?_ ?_ ?_)
          · first | (simp only [Region.wanted]; done) | simp [Region.wanted, yielded, Act.put, go_sem]
          · simp [Act.eval, Act.put, go_sem, k28]
          · exact ⟨rfl, rfl⟩
        case refine_31 =>
          intro D sp w' hD hW hdp hbx'
          (with_reducible refine asked_value (w1 := w') (v := .bool true) ?_ ?_ ?_)
          · first | (simp only [Region.wanted]; done) | simp [Region.wanted, yielded, Act.put, go_sem]
          · simp [execOp, Act.eval, Act.put, go_sem]
          · exact ⟨rfl, rfl⟩
        case refine_32 =>
          intro D sp w' hD hW hdp hbx'
          (with_reducible refine asked_value (w1 := w') (v := .bool true) ?_ ?_ ?_)
          · first | (simp only [Region.wanted]; done) | simp [Region.wanted, yielded, Act.put, go_sem]
          · simp [execOp, Act.eval, Act.put, go_sem]
          · exact ⟨rfl, rfl⟩
        case refine_33 =>
          intro D sp w' hD hW hdp hbx'
          (with_reducible refine asked_value (w1 := w') (v := .bool true) ?_ ?_ ?_)
          · first | (simp only [Region.wanted]; done) | simp [Region.wanted, yielded, Act.put, go_sem]
          · simp [execOp, Act.eval, Act.put, go_sem]
          · exact ⟨rfl, rfl⟩
      · intro sp w10 hsp hbx'
        have HF : Hold (Below w.heap.size w w10) := ⟨bstepS HBr.out hbx'⟩
        clear hsp hbx'
        simp only [frameOf, Nat.reduceAdd]
        generalize sp 28 = y28 at *
        go_simp
        go_wp2
        go_ret
        exact ⟨rfl, HF.out⟩
    · rw [HSO.out hoa9] at hqb
      have HCB : Hold (∀ w', Below wr.heap.size wr w' → (convert 26 9 (.slice (some ⟨qb, 0, none⟩) 64 64)).run Try.prog w' = .ok (.string (strOf (plainN x))) w') := ⟨fun w' h => convert_row (blk_row64 (hqb.below h hqb.lt) (plainN_len x))⟩
      have hoa : ¬ (o : Int) = a := by omega
      clear hqb hbb hoa9
      go_wp2
      clear hqw
      refine wp_region_duties (by kernel_rfl) (by kernel_rfl)
        [some (.int .i64 0), some (.bool true), some (.bool true), some (.int .i64 0), some (.bool true), some (.bool true), some (.bool true), some (.slice (some ⟨qa, 0, none⟩) 64 64), some (.string (strOf WN)), some (.slice (some ⟨qw, 0, none⟩) 64 64), some (.string (strOf WN)), some (.bool true), some (.bool true), some (.bool true), some (.int .i64 (o : Nat)), some (.int .i64 (a : Nat)), some (.bool false), some (.bool false), some (.slice (some ⟨qb, 0, none⟩) 64 64), some (.string (strOf (plainN x))), some (.int .u8 (x : Nat)), none, some (.string (strOf (plainN x))), some (.bool true), some (.bool true), some (.bool true), some (.bool true), some (.pointer (some ⟨b, 0, none⟩)), none, some (.int .i64 0), some (.bool true), some (.bool true), some (.bool true)]
        [false, false, false, false, false, false, false, false, false, false, false, false, false, false, false, false, false, false, false, false, false, true, false, false, false, false, false, false, true, false, false, false, false] rfl
        (fun w1 w2 => Below w1.heap.size w1 w2)
        (fun _ w' => Below wr.heap.size wr w')
        (fun i v w' => match i with
          | 21 => PlainV x v w'
          | 28 => v = .slice none 0 0
          | _ => True)
        ?_ (Below.refl _ _).drew ?_ ?_
      · intro i v w1 w2 hf hb
        split at hf
        · exact hf.later hb
        · exact hf
        · trivial
      · simp only [Duties, Nat.reduceAdd]
        refine ⟨?_, ?_, ?_, ?_, ?_, ?_, ?_, ?_, ?_, ?_, ?_, ?_, ?_, ?_, ?_, ?_, ?_, ?_, ?_, ?_, ?_, ?_, ?_, ?_, ?_, ?_, ?_, ?_, ?_, ?_, ?_, ?_, ?_, trivial⟩
        case refine_1 =>
          intro D sp w' hD hW hdp hbx'
          (with_reducible refine asked_value (w1 := w') (v := .int .i64 0) ?_ ?_ ?_)
          · first | (simp only [Region.wanted]; done) | simp [Region.wanted, yielded, Act.put, go_sem]
          · simp [execOp, Act.eval, go_sem]
          · exact ⟨rfl, rfl⟩
        case refine_2 =>
          intro D sp w' hD hW hdp hbx'
          (with_reducible refine asked_value (w1 := w') (v := .bool true) ?_ ?_ ?_)
          · first | (simp only [Region.wanted]; done) | simp [Region.wanted, yielded, Act.put, go_sem]
          · simp [execOp, Act.eval, Act.put, go_sem]
          · exact ⟨rfl, rfl⟩
        case refine_3 =>
          intro D sp w' hD hW hdp hbx'
          (with_reducible refine asked_value (w1 := w') (v := .bool true) ?_ ?_ ?_)
          · first | (simp only [Region.wanted]; done) | simp [Region.wanted, yielded, Act.put, go_sem]
          · simp [execOp, Act.eval, Act.put, go_sem]
          · exact ⟨rfl, rfl⟩
        case refine_4 =>
          intro D sp w' hD hW hdp hbx'
          (with_reducible refine asked_value (w1 := w') (v := .int .i64 0) ?_ ?_ ?_)
          · first | (simp only [Region.wanted]; done) | simp [Region.wanted, yielded, Act.put, go_sem]
          · simp [execOp, Act.eval, Act.put, go_sem]
          · exact ⟨rfl, rfl⟩
        case refine_5 =>
          intro D sp w' hD hW hdp hbx'
          (with_reducible refine asked_value (w1 := w') (v := .bool true) ?_ ?_ ?_)
          · first | (simp only [Region.wanted]; done) | simp [Region.wanted, yielded, Act.put, go_sem]
          · simp [execOp, Act.eval, Act.put, go_sem]
          · exact ⟨rfl, rfl⟩
        case refine_6 =>
          intro D sp w' hD hW hdp hbx'
          (with_reducible refine asked_value (w1 := w') (v := .bool true) ?_ ?_ ?_)
          · first | (simp only [Region.wanted]; done) | simp [Region.wanted, yielded, Act.put, go_sem]
          · simp [execOp, Act.eval, Act.put, go_sem]
          · exact ⟨rfl, rfl⟩
        case refine_7 =>
          intro D sp w' hD hW hdp hbx'
          (with_reducible refine asked_value (w1 := w') (v := .bool true) ?_ ?_ ?_)
          · first | (simp only [Region.wanted]; done) | simp [Region.wanted, yielded, Act.put, go_sem]
          · simp [execOp, Act.eval, Act.put, go_sem]
          · exact ⟨rfl, rfl⟩
        case refine_8 =>
          intro D sp w' hD hW hdp hbx'
          (with_reducible refine asked_value (w1 := w') (v := .slice (some ⟨qa, 0, none⟩) 64 64) ?_ ?_ ?_)
          · first | (simp only [Region.wanted]; done) | simp [Region.wanted, yielded, Act.put, go_sem]
          · simp [execOp, Act.eval, Act.put, go_sem]
          · exact ⟨rfl, rfl⟩
        case refine_9 =>
          intro D sp w' hD hW hdp hbx'
          (with_reducible refine asked_value (w1 := w') (v := .string (strOf WN)) ?_ ?_ ?_)
          · first | (simp only [Region.wanted]; done) | simp [Region.wanted, yielded, Act.put, go_sem]
          · have cl := HCA.out w' hbx'
            simp [execOp, Act.eval, Act.put, go_sem, cl]
          · exact ⟨rfl, rfl⟩
        case refine_10 =>
          intro D sp w' hD hW hdp hbx'
          (with_reducible refine asked_value (w1 := w') (v := .slice (some ⟨qw, 0, none⟩) 64 64) ?_ ?_ ?_)
          · first | (simp only [Region.wanted]; done) | simp [Region.wanted, yielded, Act.put, go_sem]
          · simp [execOp, Act.eval, Act.put, go_sem]
          · exact ⟨rfl, rfl⟩
        case refine_11 =>
          intro D sp w' hD hW hdp hbx'
          (with_reducible refine asked_value (w1 := w') (v := .string (strOf WN)) ?_ ?_ ?_)
          · first | (simp only [Region.wanted]; done) | simp [Region.wanted, yielded, Act.put, go_sem]
          · have cl := HCW.out w' hbx'
            simp [execOp, Act.eval, Act.put, go_sem, cl]
          · exact ⟨rfl, rfl⟩
        case refine_12 =>
          intro D sp w' hD hW hdp hbx'
          (with_reducible refine asked_value (w1 := w') (v := .bool true) ?_ ?_ ?_)
          · first | (simp only [Region.wanted]; done) | simp [Region.wanted, yielded, Act.put, go_sem]
          · simp [execOp, Act.eval, Act.put, go_sem]
          · exact ⟨rfl, rfl⟩
        case refine_13 =>
          intro D sp w' hD hW hdp hbx'
          (with_reducible refine asked_value (w1 := w') (v := .bool true) ?_ ?_ ?_)
          · first | (simp only [Region.wanted]; done) | simp [Region.wanted, yielded, Act.put, go_sem]
          · simp [execOp, Act.eval, Act.put, go_sem]
          · exact ⟨rfl, rfl⟩
        case refine_14 =>
          intro D sp w' hD hW hdp hbx'
          (with_reducible refine asked_value (w1 := w') (v := .bool true) ?_ ?_ ?_)
          · first | (simp only [Region.wanted]; done) | simp [Region.wanted, yielded, Act.put, go_sem]
          · simp [execOp, Act.eval, Act.put, go_sem]
          · exact ⟨rfl, rfl⟩
        case refine_15 =>
          intro D sp w' hD hW hdp hbx'
          (with_reducible refine asked_value (w1 := w') (v := .int .i64 (o : Nat)) ?_ ?_ ?_)
          · first | (simp only [Region.wanted]; done) | simp [Region.wanted, yielded, Act.put, go_sem]
          · simp [execOp, Act.eval, Act.put, go_sem]
          · exact ⟨rfl, rfl⟩
        case refine_16 =>
          intro D sp w' hD hW hdp hbx'
          (with_reducible refine asked_value (w1 := w') (v := .int .i64 (a : Nat)) ?_ ?_ ?_)
          · first | (simp only [Region.wanted]; done) | simp [Region.wanted, yielded, Act.put, go_sem]
          · simp [execOp, Act.eval, Act.put, go_sem]
          · exact ⟨rfl, rfl⟩
        case refine_17 =>
          intro D sp w' hD hW hdp hbx'
          (with_reducible refine asked_value (w1 := w') (v := .bool false) ?_ ?_ ?_)
          · first | (simp only [Region.wanted]; done) | simp [Region.wanted, yielded, Act.put, go_sem]
          · simp [execOp, Act.eval, Act.put, go_sem, hoa]
          · exact ⟨rfl, rfl⟩
        case refine_18 =>
          intro D sp w' hD hW hdp hbx'
          (with_reducible refine asked_value (w1 := w') (v := .bool false) ?_ ?_ ?_)
          · first | (simp only [Region.wanted]; done) | simp [Region.wanted, yielded, Act.put, go_sem]
          · simp [execOp, Act.eval, Act.put, go_sem]
          · exact ⟨rfl, rfl⟩
        case refine_19 =>
          intro D sp w' hD hW hdp hbx'
          (with_reducible refine asked_value (w1 := w') (v := .slice (some ⟨qb, 0, none⟩) 64 64) ?_ ?_ ?_)
          · first | (simp only [Region.wanted]; done) | simp [Region.wanted, yielded, Act.put, go_sem]
          · simp [execOp, Act.eval, Act.put, go_sem]
          · exact ⟨rfl, rfl⟩
        case refine_20 =>
          intro D sp w' hD hW hdp hbx'
          (with_reducible refine asked_value (w1 := w') (v := .string (strOf (plainN x))) ?_ ?_ ?_)
          · first | (simp only [Region.wanted]; done) | simp [Region.wanted, yielded, Act.put, go_sem]
          · have cl := HCB.out w' hbx'
            simp [execOp, Act.eval, Act.put, go_sem, cl]
          · exact ⟨rfl, rfl⟩
        case refine_21 =>
          intro D sp w' hD hW hdp hbx'
          (with_reducible refine asked_value (w1 := w') (v := .int .u8 (x : Nat)) ?_ ?_ ?_)
          · first | (simp only [Region.wanted]; done) | simp [Region.wanted, yielded, Act.put, go_sem]
          · simp [execOp, Act.eval, Act.put, go_sem]
          · exact ⟨rfl, rfl⟩
        case refine_22 =>
          intro D sp w' hD hW hdp hbx'
          (with_reducible refine asked_call (w1 := w') (f := 13) (args := #[.int .u8 (x : Nat)]) ?_ ?_ ?_)
          · first | (simp only [Region.wanted]; done) | simp [Region.wanted, yielded, Act.put, go_sem]
          · simp [Act.eval, Act.put, go_sem]
          · refine (plain_calls w' (x := x) HX.out).mono ?_
            rintro en w9 ⟨u, rfl, hu, hb⟩
            exact ⟨u, rfl, hb, hu, bstepS hbx' hb⟩
        case refine_23 =>
          intro D sp w' hD hW hdp hbx'
          have k21 : PlainV x (sp 21) w' := (hdp 21 (List.mem_of_elem_eq_true (by kernel_rfl))).2
          (with_reducible refine asked_value (w1 := w') (v := .string (strOf (plainN x))) ?_ ?_ ?_)
          · first | (simp only [Region.wanted]; done) | simp [Region.wanted, yielded, Act.put, go_sem]
          · have cl := convert_plain k21
            simp [execOp, Act.eval, Act.put, go_sem, cl]
          · exact ⟨rfl, rfl⟩
        case refine_24 =>
          intro D sp w' hD hW hdp hbx'
          (with_reducible refine asked_value (w1 := w') (v := .bool true) ?_ ?_ ?_)
          · first | (simp only [Region.wanted]; done) | simp [Region.wanted, yielded, Act.put, go_sem]
          · simp [execOp, Act.eval, Act.put, go_sem]
          · exact ⟨rfl, rfl⟩
        case refine_25 =>
          intro D sp w' hD hW hdp hbx'
          (with_reducible refine asked_value (w1 := w') (v := .bool true) ?_ ?_ ?_)
          · first | (simp only [Region.wanted]; done) | simp [Region.wanted, yielded, Act.put, go_sem]
          · simp [execOp, Act.eval, Act.put, go_sem]
          · exact ⟨rfl, rfl⟩
        case refine_26 =>
          intro D sp w' hD hW hdp hbx'
          (with_reducible refine asked_value (w1 := w') (v := .bool true) ?_ ?_ ?_)
          · first | (simp only [Region.wanted]; done) | simp [Region.wanted, yielded, Act.put, go_sem]
          · simp [execOp, Act.eval, Act.put, go_sem]
          · exact ⟨rfl, rfl⟩
        case refine_27 =>
          intro D sp w' hD hW hdp hbx'
          (with_reducible refine asked_value (w1 := w') (v := .bool true) ?_ ?_ ?_)
          · first | (simp only [Region.wanted]; done) | simp [Region.wanted, yielded, Act.put, go_sem]
          · simp [execOp, Act.eval, Act.put, go_sem]
          · exact ⟨rfl, rfl⟩
        case refine_28 =>
          intro D sp w' hD hW hdp hbx'
          (with_reducible refine asked_value (w1 := w') (v := .pointer (some ⟨b, 0, none⟩)) ?_ ?_ ?_)
          · first | (simp only [Region.wanted]; done) | simp [Region.wanted, yielded, Act.put, go_sem]
          · simp [execOp, Act.eval, Act.put, go_sem]
          · exact ⟨rfl, rfl⟩
        case refine_29 =>
          intro D sp w' hD hW hdp hbx'
          (with_reducible refine asked_call (w1 := w') (f := 16) (args := #[.pointer (some ⟨b, 0, none⟩)]) ?_ ?_ ?_)
          · first | (simp only [Region.wanted]; done) | simp [Region.wanted, yielded, Act.put, go_sem]
          · simp [Act.eval, Act.put, go_sem]
          · refine (inked_calls (HSR.out.later hbx')).mono ?_
            rintro en w9 ⟨v, rfl, _, hv, hb⟩
            have e9 : v = .slice none 0 0 := hv.2 HIN.out
            subst e9
            exact ⟨_, rfl, hb, rfl, bstepS hbx' hb⟩
        case refine_30 =>
          intro D sp w' hD hW hdp hbx'
          have k28 : (sp 28) = .slice none 0 0 := (hdp 28 (List.mem_of_elem_eq_true (by kernel_rfl))).2
          (with_reducible refine asked_value (w1 := w') (v := .int .i64 0) ?_ ?_ ?_)
          · first | (simp only [Region.wanted]; done) | simp [Region.wanted, yielded, Act.put, go_sem]
          · simp [Act.eval, Act.put, go_sem, k28]
          · exact ⟨rfl, rfl⟩
        case refine_31 =>
          intro D sp w' hD hW hdp hbx'
          (with_reducible refine asked_value (w1 := w') (v := .bool true) ?_ ?_ ?_)
          · first | (simp only [Region.wanted]; done) | simp [Region.wanted, yielded, Act.put, go_sem]
          · simp [execOp, Act.eval, Act.put, go_sem]
          · exact ⟨rfl, rfl⟩
        case refine_32 =>
          intro D sp w' hD hW hdp hbx'
          (with_reducible refine asked_value (w1 := w') (v := .bool true) ?_ ?_ ?_)
          · first | (simp only [Region.wanted]; done) | simp [Region.wanted, yielded, Act.put, go_sem]
          · simp [execOp, Act.eval, Act.put, go_sem]
          · exact ⟨rfl, rfl⟩
        case refine_33 =>
          intro D sp w' hD hW hdp hbx'
          (with_reducible refine asked_value (w1 := w') (v := .bool true) ?_ ?_ ?_)
          · first | (simp only [Region.wanted]; done) | simp [Region.wanted, yielded, Act.put, go_sem]
          · simp [execOp, Act.eval, Act.put, go_sem]
          · exact ⟨rfl, rfl⟩
      · intro sp w10 hsp hbx'
        have HF : Hold (Below w.heap.size w w10) := ⟨bstepS HBr.out hbx'⟩
        clear hsp hbx'
        simp only [frameOf, Nat.reduceAdd]
        generalize sp 21 = y21 at *
        generalize sp 28 = y28 at *
        go_simp
        go_wp2
        go_ret
        exact ⟨rfl, HF.out⟩
  | false =>
    go_wp2_with fail
    refine (wake_calls HS7.out (ScarsIn.nil w7) (fun q hq => by cases hq)).mono ?_
    rintro e ww ⟨rfl, hs, ho⟩
    have HSw : Hold _ := ⟨hs⟩
    have HBw : Hold (Below w.heap.size w ww) := ⟨HB7.out.trans (ho.below HB7.out.size HN.out.1 HN.out.2.1 HN.out.2.2)⟩
    have HQw : Hold (Blk ww q7 5 .u8 (plainN x)) := ⟨blk_oth HQ7.out ho (fresh_ne HQ7.out HS7.out)⟩
    have HSA : Hold _ := ⟨(sc_plain (x := x) (y := y) HAO.out.1 HAO.out.2).1⟩
    have HSO : Hold (o ≠ a → _) := ⟨fun _ => (sc_plain (x := x) (y := y) HAO.out.1 HAO.out.2).2⟩
    clear hs ho
    go_wp2_with fail
    refine (face_calls HSw.out (a : Nat)).mono ?_
    rintro e wa (⟨h9, _⟩ | ⟨_, qa, rfl, _, hqa, hba⟩)
    · exact absurd (wake_reach _ (by rw [(scB_says HAO.out.1 HAO.out.2).2.1]; exact HAO.out.1)) h9
    rw [Int.toNat_natCast, HSA.out] at hqa
    have HSa : Hold _ := ⟨HSw.out.later hba⟩
    have HBa : Hold (Below w.heap.size w wa) := ⟨bstepS HBw.out hba⟩
    have HQa : Hold _ := ⟨hqa⟩
    have HQw2 : Hold _ := ⟨HQw.out.below hba HQw.out.lt⟩
    clear hqa hba
    go_wp2_with fail
    refine (face_calls HSa.out (o : Nat)).mono ?_
    rintro e wr (⟨h9, _⟩ | ⟨_, qb, rfl, _, hqb, hbb⟩)
    · exact absurd (wake_reach _ (by rw [(scB_says HAO.out.1 HAO.out.2).2.1]; exact HAO.out.2)) h9
    rw [Int.toNat_natCast] at hqb
    have HSR : Hold _ := ⟨HSa.out.later hbb⟩
    have HBr : Hold (Below w.heap.size w wr) := ⟨bstepS HBa.out hbb⟩
    have HIN : Hold _ := ⟨show (SM.inked (SM.wake (scB a o x y) [])).map (fun (j : Nat) => (j : Int)) = [] by rw [wake_inked]; rfl⟩
    obtain ⟨WN, hWN⟩ : ∃ l, plainN x = l := ⟨_, rfl⟩
    have HCA : Hold (∀ w', Below wr.heap.size wr w' → (convert 26 9 (.slice (some ⟨qa, 0, none⟩) 64 64)).run Try.prog w' = .ok (.string (strOf WN)) w') := ⟨fun w' h => by
      have h1 := HQa.out.below hbb HQa.out.lt
      have := convert_row (blk_row64 (h1.below h h1.lt) (plainN_len x))
      rw [hWN] at this; exact this⟩
    have HCW : Hold (∀ w', Below wr.heap.size wr w' → (convert 26 9 (.slice (some ⟨q7, 0, none⟩) 64 64)).run Try.prog w' = .ok (.string (strOf WN)) w') := ⟨fun w' h => by
      have h1 := HQw2.out.below hbb HQw2.out.lt
      have := convert_row (blk_row64 (h1.below h h1.lt) (plainN_len x))
      rw [hWN] at this; exact this⟩
    obtain ⟨qw, hqw⟩ : ∃ q, q7 = q := ⟨_, rfl⟩
    rw [hqw] at HCW
    clear hWN HQa HQw HQw2 hmx hcp hn' hn
    by_cases hoa9 : o = a
    · subst hoa9
      clear hqb hbb
      go_wp2
      clear hqw
      refine wp_region_duties (by kernel_rfl) (by kernel_rfl)
        [some (.int .i64 0), some (.bool true), some (.bool true), some (.int .i64 0), some (.bool true), some (.bool true), some (.bool true), some (.slice (some ⟨qa, 0, none⟩) 64 64), some (.string (strOf WN)), some (.slice (some ⟨qw, 0, none⟩) 64 64), some (.string (strOf WN)), some (.bool true), some (.bool true), some (.bool true), some (.int .i64 (o : Nat)), some (.int .i64 (o : Nat)), some (.bool true), some (.bool true), some (undef), some (undef), some (undef), some (undef), some (undef), some (undef), some (.bool true), some (.bool true), some (.bool true), some (.pointer (some ⟨b, 0, none⟩)), none, some (.int .i64 0), some (.bool true), some (.bool true), some (.bool true)]
        [false, false, false, false, false, false, false, false, false, false, false, false, false, false, false, false, false, false, false, false, false, false, false, false, false, false, false, false, true, false, false, false, false] rfl
        (fun w1 w2 => Below w1.heap.size w1 w2)
        (fun _ w' => Below wr.heap.size wr w')
        (fun i v w' => match i with
          | 28 => v = .slice none 0 0
          | _ => True)
        ?_ (Below.refl _ _).drew ?_ ?_
      · intro i v w1 w2 hf hb
        split at hf
        · exact hf
        · trivial
      · simp only [Duties, Nat.reduceAdd]
        refine ⟨?_, ?_, ?_, ?_, ?_, ?_, ?_, ?_, ?_, ?_, ?_, ?_, ?_, ?_, ?_, ?_, ?_, ?_, ?_, ?_, ?_, ?_, ?_, ?_, ?_, ?_, ?_, ?_, ?_, ?_, ?_, ?_, ?_, trivial⟩
        case refine_1 =>
          intro D sp w' hD hW hdp hbx'
          (with_reducible refine asked_value (w1 := w') (v := .int .i64 0) ?_ ?_ ?_)
          · first | (simp only [Region.wanted]; done) | simp [Region.wanted, yielded, Act.put, go_sem]
          · simp [execOp, Act.eval, go_sem]
          · exact ⟨rfl, rfl⟩
        case refine_2 =>
          intro D sp w' hD hW hdp hbx'
          (with_reducible refine asked_value (w1 := w') (v := .bool true) ?_ ?_ ?_)
          · first | (simp only [Region.wanted]; done) | simp [Region.wanted, yielded, Act.put, go_sem]
          · simp [execOp, Act.eval, Act.put, go_sem]
          · exact ⟨rfl, rfl⟩
        case refine_3 =>
          intro D sp w' hD hW hdp hbx'
          (with_reducible refine asked_value (w1 := w') (v := .bool true) ?_ ?_ ?_)
          · first | (simp only [Region.wanted]; done) | simp [Region.wanted, yielded, Act.put, go_sem]
          · simp [execOp, Act.eval, Act.put, go_sem]
          · exact ⟨rfl, rfl⟩
        case refine_4 =>
          intro D sp w' hD hW hdp hbx'
          (with_reducible refine asked_value (w1 := w') (v := .int .i64 0) ?_ ?_ ?_)
          · first | (simp only [Region.wanted]; done) | simp [Region.wanted, yielded, Act.put, go_sem]
          · simp [execOp, Act.eval, Act.put, go_sem]
          · exact ⟨rfl, rfl⟩
        case refine_5 =>
          intro D sp w' hD hW hdp hbx'
          (with_reducible refine asked_value (w1 := w') (v := .bool true) ?_ ?_ ?_)
          · first | (simp only [Region.wanted]; done) | simp [Region.wanted, yielded, Act.put, go_sem]
          · simp [execOp, Act.eval, Act.put, go_sem]
          · exact ⟨rfl, rfl⟩
        case refine_6 =>
          intro D sp w' hD hW hdp hbx'
          (with_reducible refine asked_value (w1 := w') (v := .bool true) ?_ ?_ ?_)
          · first | (simp only [Region.wanted]; done) | simp [Region.wanted, yielded, Act.put, go_sem]
          · simp [execOp, Act.eval, Act.put, go_sem]
          · exact ⟨rfl, rfl⟩
        case refine_7 =>
          intro D sp w' hD hW hdp hbx'
          (with_reducible refine asked_value (w1 := w') (v := .bool true) ?_ ?_ ?_)
          · first | (simp only [Region.wanted]; done) | simp [Region.wanted, yielded, Act.put, go_sem]
          · simp [execOp, Act.eval, Act.put, go_sem]
          · exact ⟨rfl, rfl⟩
        case refine_8 =>
          intro D sp w' hD hW hdp hbx'
          (with_reducible refine asked_value (w1 := w') (v := .slice (some ⟨qa, 0, none⟩) 64 64) ?_ ?_ ?_)
          · first | (simp only [Region.wanted]; done) | simp [Region.wanted, yielded, Act.put, go_sem]
          · simp [execOp, Act.eval, Act.put, go_sem]
          · exact ⟨rfl, rfl⟩
        case refine_9 =>
          intro D sp w' hD hW hdp hbx'
          (with_reducible refine asked_value (w1 := w') (v := .string (strOf WN)) ?_ ?_ ?_)
          · first | (simp only [Region.wanted]; done) | simp [Region.wanted, yielded, Act.put, go_sem]
          · have cl := HCA.out w' hbx'
            simp [execOp, Act.eval, Act.put, go_sem, cl]
          · exact ⟨rfl, rfl⟩
        case refine_10 =>
          intro D sp w' hD hW hdp hbx'
          (with_reducible refine asked_value (w1 := w') (v := .slice (some ⟨qw, 0, none⟩) 64 64) ?_ ?_ ?_)
          · first | (simp only [Region.wanted]; done) | simp [Region.wanted, yielded, Act.put, go_sem]
          · simp [execOp, Act.eval, Act.put, go_sem]
          · exact ⟨rfl, rfl⟩
        case refine_11 =>
          intro D sp w' hD hW hdp hbx'
          (with_reducible refine asked_value (w1 := w') (v := .string (strOf WN)) ?_ ?_ ?_)
          · first | (simp only [Region.wanted]; done) | simp [Region.wanted, yielded, Act.put, go_sem]
          · have cl := HCW.out w' hbx'
            simp [execOp, Act.eval, Act.put, go_sem, cl]
          · exact ⟨rfl, rfl⟩
        case refine_12 =>
          intro D sp w' hD hW hdp hbx'
          (with_reducible refine asked_value (w1 := w') (v := .bool true) ?_ ?_ ?_)
          · first | (simp only [Region.wanted]; done) | simp [Region.wanted, yielded, Act.put, go_sem]
          · simp [execOp, Act.eval, Act.put, go_sem]
          · exact ⟨rfl, rfl⟩
        case refine_13 =>
          intro D sp w' hD hW hdp hbx'
          (with_reducible refine asked_value (w1 := w') (v := .bool true) ?_ ?_ ?_)
          · first | (simp only [Region.wanted]; done) | simp [Region.wanted, yielded, Act.put, go_sem]
          · simp [execOp, Act.eval, Act.put, go_sem]
          · exact ⟨rfl, rfl⟩
        case refine_14 =>
          intro D sp w' hD hW hdp hbx'
          (with_reducible refine asked_value (w1 := w') (v := .bool true) ?_ ?_ ?_)
          · first | (simp only [Region.wanted]; done) | simp [Region.wanted, yielded, Act.put, go_sem]
          · simp [execOp, Act.eval, Act.put, go_sem]
          · exact ⟨rfl, rfl⟩
        case refine_15 =>
          intro D sp w' hD hW hdp hbx'
          (with_reducible refine asked_value (w1 := w') (v := .int .i64 (o : Nat)) ?_ ?_ ?_)
          · first | (simp only [Region.wanted]; done) | simp [Region.wanted, yielded, Act.put, go_sem]
          · simp [execOp, Act.eval, Act.put, go_sem]
          · exact ⟨rfl, rfl⟩
        case refine_16 =>
          intro D sp w' hD hW hdp hbx'
          (with_reducible refine asked_value (w1 := w') (v := .int .i64 (o : Nat)) ?_ ?_ ?_)
          · first | (simp only [Region.wanted]; done) | simp [Region.wanted, yielded, Act.put, go_sem]
          · simp [execOp, Act.eval, Act.put, go_sem]
          · exact ⟨rfl, rfl⟩
        case refine_17 =>
          intro D sp w' hD hW hdp hbx'
          (with_reducible refine asked_value (w1 := w') (v := .bool true) ?_ ?_ ?_)
          · first | (simp only [Region.wanted]; done) | simp [Region.wanted, yielded, Act.put, go_sem]
          · simp [execOp, Act.eval, Act.put, go_sem]
          · exact ⟨rfl, rfl⟩
        case refine_18 =>
          intro D sp w' hD hW hdp hbx'
          (with_reducible refine asked_value (w1 := w') (v := .bool true) ?_ ?_ ?_)
          · first | (simp only [Region.wanted]; done) | simp [Region.wanted, yielded, Act.put, go_sem]
          · simp [execOp, Act.eval, Act.put, go_sem]
          · exact ⟨rfl, rfl⟩
        case refine_19 =>
          intro D sp w' hD hW hdp hbx'
          (with_reducible refine asked_past ?_ ?_)
          · (simp [Region.wanted, yielded, Act.put, go_sem] <;> exact fun h => by cases h)
          · exact ⟨rfl, rfl⟩
        case refine_20 =>
          intro D sp w' hD hW hdp hbx'
          (with_reducible refine asked_past ?_ ?_)
          · (simp [Region.wanted, yielded, Act.put, go_sem] <;> exact fun h => by cases h)
          · exact ⟨rfl, rfl⟩
        case refine_21 =>
          intro D sp w' hD hW hdp hbx'
          (with_reducible refine asked_past ?_ ?_)
          · (simp [Region.wanted, yielded, Act.put, go_sem] <;> exact fun h => by cases h)
          · exact ⟨rfl, rfl⟩
        case refine_22 =>
          intro D sp w' hD hW hdp hbx'
          (with_reducible refine asked_past ?_ ?_)
          · (simp [Region.wanted, yielded, Act.put, go_sem] <;> exact fun h => by cases h)
          · exact ⟨rfl, rfl⟩
        case refine_23 =>
          intro D sp w' hD hW hdp hbx'
          (with_reducible refine asked_past ?_ ?_)
          · (simp [Region.wanted, yielded, Act.put, go_sem] <;> exact fun h => by cases h)
          · exact ⟨rfl, rfl⟩
        case refine_24 =>
          intro D sp w' hD hW hdp hbx'
          (with_reducible refine asked_past ?_ ?_)
          · (simp [Region.wanted, yielded, Act.put, go_sem] <;> exact fun h => by cases h)
          · exact ⟨rfl, rfl⟩
        case refine_25 =>
          intro D sp w' hD hW hdp hbx'
          (with_reducible refine asked_value (w1 := w') (v := .bool true) ?_ ?_ ?_)
          · first | (simp only [Region.wanted]; done) | simp [Region.wanted, yielded, Act.put, go_sem]
          · simp [execOp, Act.eval, Act.put, go_sem]
          · exact ⟨rfl, rfl⟩
        case refine_26 =>
          intro D sp w' hD hW hdp hbx'
          (with_reducible refine asked_value (w1 := w') (v := .bool true) ?_ ?_ ?_)
          · first | (simp only [Region.wanted]; done) | simp [Region.wanted, yielded, Act.put, go_sem]
          · simp [execOp, Act.eval, Act.put, go_sem]
          · exact ⟨rfl, rfl⟩
        case refine_27 =>
          intro D sp w' hD hW hdp hbx'
          (with_reducible refine asked_value (w1 := w') (v := .bool true) ?_ ?_ ?_)
          · first | (simp only [Region.wanted]; done) | simp [Region.wanted, yielded, Act.put, go_sem]
          · simp [execOp, Act.eval, Act.put, go_sem]
          · exact ⟨rfl, rfl⟩
        case refine_28 =>
          intro D sp w' hD hW hdp hbx'
          (with_reducible refine asked_value (w1 := w') (v := .pointer (some ⟨b, 0, none⟩)) ?_ ?_ ?_)
          · first | (simp only [Region.wanted]; done) | simp [Region.wanted, yielded, Act.put, go_sem]
          · simp [execOp, Act.eval, Act.put, go_sem]
          · exact ⟨rfl, rfl⟩
        case refine_29 =>
          intro D sp w' hD hW hdp hbx'
          (with_reducible refine asked_call (w1 := w') (f := 16) (args := #[.pointer (some ⟨b, 0, none⟩)]) ?_ ?_ ?_)
          · first | (simp only [Region.wanted]; done) | simp [Region.wanted, yielded, Act.put, go_sem]
          · simp [Act.eval, Act.put, go_sem]
          · refine (inked_calls (HSR.out.later hbx')).mono ?_
            rintro en w9 ⟨v, rfl, _, hv, hb⟩
            have e9 : v = .slice none 0 0 := hv.2 HIN.out
            subst e9
            exact ⟨_, rfl, hb, rfl, bstepS hbx' hb⟩
        case refine_30 =>
          intro D sp w' hD hW hdp hbx'
          have k28 : (sp 28) = .slice none 0 0 := (hdp 28 (List.mem_of_elem_eq_true (by kernel_rfl))).2
          (with_reducible refine asked_value (w1 := w') (v := .int .i64 0) ?_ ?_ ?_)
          · first | (simp only [Region.wanted]; done) | simp [Region.wanted, yielded, Act.put, go_sem]
          · simp [Act.eval, Act.put, go_sem, k28]
          · exact ⟨rfl, rfl⟩
        case refine_31 =>
          intro D sp w' hD hW hdp hbx'
          (with_reducible refine asked_value (w1 := w') (v := .bool true) ?_ ?_ ?_)
          · first | (simp only [Region.wanted]; done) | simp [Region.wanted, yielded, Act.put, go_sem]
          · simp [execOp, Act.eval, Act.put, go_sem]
          · exact ⟨rfl, rfl⟩
        case refine_32 =>
          intro D sp w' hD hW hdp hbx'
          (with_reducible refine asked_value (w1 := w') (v := .bool true) ?_ ?_ ?_)
          · first | (simp only [Region.wanted]; done) | simp [Region.wanted, yielded, Act.put, go_sem]
          · simp [execOp, Act.eval, Act.put, go_sem]
          · exact ⟨rfl, rfl⟩
        case refine_33 =>
          intro D sp w' hD hW hdp hbx'
          (with_reducible refine asked_value (w1 := w') (v := .bool true) ?_ ?_ ?_)
          · first | (simp only [Region.wanted]; done) | simp [Region.wanted, yielded, Act.put, go_sem]
          · simp [execOp, Act.eval, Act.put, go_sem]
          · exact ⟨rfl, rfl⟩
      · intro sp w10 hsp hbx'
        have HF : Hold (Below w.heap.size w w10) := ⟨bstepS HBr.out hbx'⟩
        clear hsp hbx'
        simp only [frameOf, Nat.reduceAdd]
        generalize sp 28 = y28 at *
        go_simp
        go_wp2
        go_ret
        exact ⟨rfl, HF.out⟩
    · rw [HSO.out hoa9] at hqb
      have HCB : Hold (∀ w', Below wr.heap.size wr w' → (convert 26 9 (.slice (some ⟨qb, 0, none⟩) 64 64)).run Try.prog w' = .ok (.string (strOf (plainN x))) w') := ⟨fun w' h => convert_row (blk_row64 (hqb.below h hqb.lt) (plainN_len x))⟩
      have hoa : ¬ (o : Int) = a := by omega
      clear hqb hbb hoa9
      go_wp2
      clear hqw
      refine wp_region_duties (by kernel_rfl) (by kernel_rfl)
        [some (.int .i64 0), some (.bool true), some (.bool true), some (.int .i64 0), some (.bool true), some (.bool true), some (.bool true), some (.slice (some ⟨qa, 0, none⟩) 64 64), some (.string (strOf WN)), some (.slice (some ⟨qw, 0, none⟩) 64 64), some (.string (strOf WN)), some (.bool true), some (.bool true), some (.bool true), some (.int .i64 (o : Nat)), some (.int .i64 (a : Nat)), some (.bool false), some (.bool false), some (.slice (some ⟨qb, 0, none⟩) 64 64), some (.string (strOf (plainN x))), some (.int .u8 (x : Nat)), none, some (.string (strOf (plainN x))), some (.bool true), some (.bool true), some (.bool true), some (.bool true), some (.pointer (some ⟨b, 0, none⟩)), none, some (.int .i64 0), some (.bool true), some (.bool true), some (.bool true)]
        [false, false, false, false, false, false, false, false, false, false, false, false, false, false, false, false, false, false, false, false, false, true, false, false, false, false, false, false, true, false, false, false, false] rfl
        (fun w1 w2 => Below w1.heap.size w1 w2)
        (fun _ w' => Below wr.heap.size wr w')
        (fun i v w' => match i with
          | 21 => PlainV x v w'
          | 28 => v = .slice none 0 0
          | _ => True)
        ?_ (Below.refl _ _).drew ?_ ?_
      · intro i v w1 w2 hf hb
        split at hf
        · exact hf.later hb
        · exact hf
        · trivial
      · simp only [Duties, Nat.reduceAdd]
        refine ⟨?_, ?_, ?_, ?_, ?_, ?_, ?_, ?_, ?_, ?_, ?_, ?_, ?_, ?_, ?_, ?_, ?_, ?_, ?_, ?_, ?_, ?_, ?_, ?_, ?_, ?_, ?_, ?_, ?_, ?_, ?_, ?_, ?_, trivial⟩
        case refine_1 =>
          intro D sp w' hD hW hdp hbx'
          (with_reducible refine asked_value (w1 := w') (v := .int .i64 0) ?_ ?_ ?_)
          · first | (simp only [Region.wanted]; done) | simp [Region.wanted, yielded, Act.put, go_sem]
          · simp [execOp, Act.eval, go_sem]
          · exact ⟨rfl, rfl⟩
        case refine_2 =>
          intro D sp w' hD hW hdp hbx'
          (with_reducible refine asked_value (w1 := w') (v := .bool true) ?_ ?_ ?_)
          · first | (simp only [Region.wanted]; done) | simp [Region.wanted, yielded, Act.put, go_sem]
          · simp [execOp, Act.eval, Act.put, go_sem]
          · exact ⟨rfl, rfl⟩
        case refine_3 =>
          intro D sp w' hD hW hdp hbx'
          (with_reducible refine asked_value (w1 := w') (v := .bool true) ?_ ?_ ?_)
          · first | (simp only [Region.wanted]; done) | simp [Region.wanted, yielded, Act.put, go_sem]
          · simp [execOp, Act.eval, Act.put, go_sem]
          · exact ⟨rfl, rfl⟩
        case refine_4 =>
          intro D sp w' hD hW hdp hbx'
          (with_reducible refine asked_value (w1 := w') (v := .int .i64 0) ?_ ?_ ?_)
          · first | (simp only [Region.wanted]; done) | simp [Region.wanted, yielded, Act.put, go_sem]
          · simp [execOp, Act.eval, Act.put, go_sem]
          · exact ⟨rfl, rfl⟩
        case refine_5 =>
          intro D sp w' hD hW hdp hbx'
          (with_reducible refine asked_value (w1 := w') (v := .bool true) ?_ ?_ ?_)
          · first | (simp only [Region.wanted]; done) | simp [Region.wanted, yielded, Act.put, go_sem]
          · simp [execOp, Act.eval, Act.put, go_sem]
          · exact ⟨rfl, rfl⟩
        case refine_6 =>
          intro D sp w' hD hW hdp hbx'
          (with_reducible refine asked_value (w1 := w') (v := .bool true) ?_ ?_ ?_)
          · first | (simp only [Region.wanted]; done) | simp [Region.wanted, yielded, Act.put, go_sem]
          · simp [execOp, Act.eval, Act.put, go_sem]
          · exact ⟨rfl, rfl⟩
        case refine_7 =>
          intro D sp w' hD hW hdp hbx'
          (with_reducible refine asked_value (w1 := w') (v := .bool true) ?_ ?_ ?_)
          · first | (simp only [Region.wanted]; done) | simp [Region.wanted, yielded, Act.put, go_sem]
          · simp [execOp, Act.eval, Act.put, go_sem]
          · exact ⟨rfl, rfl⟩
        case refine_8 =>
          intro D sp w' hD hW hdp hbx'
          (with_reducible refine asked_value (w1 := w') (v := .slice (some ⟨qa, 0, none⟩) 64 64) ?_ ?_ ?_)
          · first | (simp only [Region.wanted]; done) | simp [Region.wanted, yielded, Act.put, go_sem]
          · simp [execOp, Act.eval, Act.put, go_sem]
          · exact ⟨rfl, rfl⟩
        case refine_9 =>
          intro D sp w' hD hW hdp hbx'
          (with_reducible refine asked_value (w1 := w') (v := .string (strOf WN)) ?_ ?_ ?_)
          · first | (simp only [Region.wanted]; done) | simp [Region.wanted, yielded, Act.put, go_sem]
          · have cl := HCA.out w' hbx'
            simp [execOp, Act.eval, Act.put, go_sem, cl]
          · exact ⟨rfl, rfl⟩
        case refine_10 =>
          intro D sp w' hD hW hdp hbx'
          (with_reducible refine asked_value (w1 := w') (v := .slice (some ⟨qw, 0, none⟩) 64 64) ?_ ?_ ?_)
          · first | (simp only [Region.wanted]; done) | simp [Region.wanted, yielded, Act.put, go_sem]
          · simp [execOp, Act.eval, Act.put, go_sem]
          · exact ⟨rfl, rfl⟩
        case refine_11 =>
          intro D sp w' hD hW hdp hbx'
          (with_reducible refine asked_value (w1 := w') (v := .string (strOf WN)) ?_ ?_ ?_)
          · first | (simp only [Region.wanted]; done) | simp [Region.wanted, yielded, Act.put, go_sem]
          · have cl := HCW.out w' hbx'
            simp [execOp, Act.eval, Act.put, go_sem, cl]
          · exact ⟨rfl, rfl⟩
        case refine_12 =>
          intro D sp w' hD hW hdp hbx'
          (with_reducible refine asked_value (w1 := w') (v := .bool true) ?_ ?_ ?_)
          · first | (simp only [Region.wanted]; done) | simp [Region.wanted, yielded, Act.put, go_sem]
          · simp [execOp, Act.eval, Act.put, go_sem]
          · exact ⟨rfl, rfl⟩
        case refine_13 =>
          intro D sp w' hD hW hdp hbx'
          (with_reducible refine asked_value (w1 := w') (v := .bool true) ?_ ?_ ?_)
          · first | (simp only [Region.wanted]; done) | simp [Region.wanted, yielded, Act.put, go_sem]
          · simp [execOp, Act.eval, Act.put, go_sem]
          · exact ⟨rfl, rfl⟩
        case refine_14 =>
          intro D sp w' hD hW hdp hbx'
          (with_reducible refine asked_value (w1 := w') (v := .bool true) ?_ ?_ ?_)
          · first | (simp only [Region.wanted]; done) | simp [Region.wanted, yielded, Act.put, go_sem]
          · simp [execOp, Act.eval, Act.put, go_sem]
          · exact ⟨rfl, rfl⟩
        case refine_15 =>
          intro D sp w' hD hW hdp hbx'
          (with_reducible refine asked_value (w1 := w') (v := .int .i64 (o : Nat)) ?_ ?_ ?_)
          · first | (simp only [Region.wanted]; done) | simp [Region.wanted, yielded, Act.put, go_sem]
          · simp [execOp, Act.eval, Act.put, go_sem]
          · exact ⟨rfl, rfl⟩
        case refine_16 =>
          intro D sp w' hD hW hdp hbx'
          (with_reducible refine asked_value (w1 := w') (v := .int .i64 (a : Nat)) ?_ ?_ ?_)
          · first | (simp only [Region.wanted]; done) | simp [Region.wanted, yielded, Act.put, go_sem]
          · simp [execOp, Act.eval, Act.put, go_sem]
          · exact ⟨rfl, rfl⟩
        case refine_17 =>
          intro D sp w' hD hW hdp hbx'
          (with_reducible refine asked_value (w1 := w') (v := .bool false) ?_ ?_ ?_)
          · first | (simp only [Region.wanted]; done) | simp [Region.wanted, yielded, Act.put, go_sem]
          · simp [execOp, Act.eval, Act.put, go_sem, hoa]
          · exact ⟨rfl, rfl⟩
        case refine_18 =>
          intro D sp w' hD hW hdp hbx'
          (with_reducible refine asked_value (w1 := w') (v := .bool false) ?_ ?_ ?_)
          · first | (simp only [Region.wanted]; done) | simp [Region.wanted, yielded, Act.put, go_sem]
          · simp [execOp, Act.eval, Act.put, go_sem]
          · exact ⟨rfl, rfl⟩
        case refine_19 =>
          intro D sp w' hD hW hdp hbx'
          (with_reducible refine asked_value (w1 := w') (v := .slice (some ⟨qb, 0, none⟩) 64 64) ?_ ?_ ?_)
          · first | (simp only [Region.wanted]; done) | simp [Region.wanted, yielded, Act.put, go_sem]
          · simp [execOp, Act.eval, Act.put, go_sem]
          · exact ⟨rfl, rfl⟩
        case refine_20 =>
          intro D sp w' hD hW hdp hbx'
          (with_reducible refine asked_value (w1 := w') (v := .string (strOf (plainN x))) ?_ ?_ ?_)
          · first | (simp only [Region.wanted]; done) | simp [Region.wanted, yielded, Act.put, go_sem]
          · have cl := HCB.out w' hbx'
            simp [execOp, Act.eval, Act.put, go_sem, cl]
          · exact ⟨rfl, rfl⟩
        case refine_21 =>
          intro D sp w' hD hW hdp hbx'
          (with_reducible refine asked_value (w1 := w') (v := .int .u8 (x : Nat)) ?_ ?_ ?_)
          · first | (simp only [Region.wanted]; done) | simp [Region.wanted, yielded, Act.put, go_sem]
          · simp [execOp, Act.eval, Act.put, go_sem]
          · exact ⟨rfl, rfl⟩
        case refine_22 =>
          intro D sp w' hD hW hdp hbx'
          (with_reducible refine asked_call (w1 := w') (f := 13) (args := #[.int .u8 (x : Nat)]) ?_ ?_ ?_)
          · first | (simp only [Region.wanted]; done) | simp [Region.wanted, yielded, Act.put, go_sem]
          · simp [Act.eval, Act.put, go_sem]
          · refine (plain_calls w' (x := x) HX.out).mono ?_
            rintro en w9 ⟨u, rfl, hu, hb⟩
            exact ⟨u, rfl, hb, hu, bstepS hbx' hb⟩
        case refine_23 =>
          intro D sp w' hD hW hdp hbx'
          have k21 : PlainV x (sp 21) w' := (hdp 21 (List.mem_of_elem_eq_true (by kernel_rfl))).2
          (with_reducible refine asked_value (w1 := w') (v := .string (strOf (plainN x))) ?_ ?_ ?_)
          · first | (simp only [Region.wanted]; done) | simp [Region.wanted, yielded, Act.put, go_sem]
          · have cl := convert_plain k21
            simp [execOp, Act.eval, Act.put, go_sem, cl]
          · exact ⟨rfl, rfl⟩
        case refine_24 =>
          intro D sp w' hD hW hdp hbx'
          (with_reducible refine asked_value (w1 := w') (v := .bool true) ?_ ?_ ?_)
          · first | (simp only [Region.wanted]; done) | simp [Region.wanted, yielded, Act.put, go_sem]
          · simp [execOp, Act.eval, Act.put, go_sem]
          · exact ⟨rfl, rfl⟩
        case refine_25 =>
          intro D sp w' hD hW hdp hbx'
          (with_reducible refine asked_value (w1 := w') (v := .bool true) ?_ ?_ ?_)
          · first | (simp only [Region.wanted]; done) | simp [Region.wanted, yielded, Act.put, go_sem]
          · simp [execOp, Act.eval, Act.put, go_sem]
          · exact ⟨rfl, rfl⟩
        case refine_26 =>
          intro D sp w' hD hW hdp hbx'
          (with_reducible refine asked_value (w1 := w') (v := .bool true) ?_ ?_ ?_)
          · first | (simp only [Region.wanted]; done) | simp [Region.wanted, yielded, Act.put, go_sem]
          · simp [execOp, Act.eval, Act.put, go_sem]
          · exact ⟨rfl, rfl⟩
        case refine_27 =>
          intro D sp w' hD hW hdp hbx'
          (with_reducible refine asked_value (w1 := w') (v := .bool true) ?_ ?_ ?_)
          · first | (simp only [Region.wanted]; done) | simp [Region.wanted, yielded, Act.put, go_sem]
          · simp [execOp, Act.eval, Act.put, go_sem]
          · exact ⟨rfl, rfl⟩
        case refine_28 =>
          intro D sp w' hD hW hdp hbx'
          (with_reducible refine asked_value (w1 := w') (v := .pointer (some ⟨b, 0, none⟩)) ?_ ?_ ?_)
          · first | (simp only [Region.wanted]; done) | simp [Region.wanted, yielded, Act.put, go_sem]
          · simp [execOp, Act.eval, Act.put, go_sem]
          · exact ⟨rfl, rfl⟩
        case refine_29 =>
          intro D sp w' hD hW hdp hbx'
          (with_reducible refine asked_call (w1 := w') (f := 16) (args := #[.pointer (some ⟨b, 0, none⟩)]) ?_ ?_ ?_)
          · first | (simp only [Region.wanted]; done) | simp [Region.wanted, yielded, Act.put, go_sem]
          · simp [Act.eval, Act.put, go_sem]
          · refine (inked_calls (HSR.out.later hbx')).mono ?_
            rintro en w9 ⟨v, rfl, _, hv, hb⟩
            have e9 : v = .slice none 0 0 := hv.2 HIN.out
            subst e9
            exact ⟨_, rfl, hb, rfl, bstepS hbx' hb⟩
        case refine_30 =>
          intro D sp w' hD hW hdp hbx'
          have k28 : (sp 28) = .slice none 0 0 := (hdp 28 (List.mem_of_elem_eq_true (by kernel_rfl))).2
          (with_reducible refine asked_value (w1 := w') (v := .int .i64 0) ?_ ?_ ?_)
          · first | (simp only [Region.wanted]; done) | simp [Region.wanted, yielded, Act.put, go_sem]
          · simp [Act.eval, Act.put, go_sem, k28]
          · exact ⟨rfl, rfl⟩
        case refine_31 =>
          intro D sp w' hD hW hdp hbx'
          (with_reducible refine asked_value (w1 := w') (v := .bool true) ?_ ?_ ?_)
          · first | (simp only [Region.wanted]; done) | simp [Region.wanted, yielded, Act.put, go_sem]
          · simp [execOp, Act.eval, Act.put, go_sem]
          · exact ⟨rfl, rfl⟩
        case refine_32 =>
          intro D sp w' hD hW hdp hbx'
          (with_reducible refine asked_value (w1 := w') (v := .bool true) ?_ ?_ ?_)
          · first | (simp only [Region.wanted]; done) | simp [Region.wanted, yielded, Act.put, go_sem]
          · simp [execOp, Act.eval, Act.put, go_sem]
          · exact ⟨rfl, rfl⟩
        case refine_33 =>
          intro D sp w' hD hW hdp hbx'
          (with_reducible refine asked_value (w1 := w') (v := .bool true) ?_ ?_ ?_)
          · first | (simp only [Region.wanted]; done) | simp [Region.wanted, yielded, Act.put, go_sem]
          · simp [execOp, Act.eval, Act.put, go_sem]
          · exact ⟨rfl, rfl⟩
      · intro sp w10 hsp hbx'
        have HF : Hold (Below w.heap.size w w10) := ⟨bstepS HBr.out hbx'⟩
        clear hsp hbx'
        simp only [frameOf, Nat.reduceAdd]
        generalize sp 21 = y21 at *
        generalize sp 28 = y28 at *
        go_simp
        go_wp2
        go_ret
        exact ⟨rfl, HF.out⟩

end Go.Proofs.Ytpodoleopebioaa
