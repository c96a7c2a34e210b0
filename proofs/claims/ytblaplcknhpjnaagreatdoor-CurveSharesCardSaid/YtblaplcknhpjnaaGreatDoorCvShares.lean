/- CurveShares, walked. -/
import Derived.Test.YtblaplcknhpjnaaGreatDoorCuN
import Derived.Test.YtblaplcknhpjnaaGreatDoorRing
import Derived.Test.YtblaplcknhpjnaaGreatDoorCuH
import Derived.Test.YtblaplcknhpjnaaGreatDoorGqR
import Derived.Test.YtblaplcknhpjnaaGreatDoorCuR
/-! The chapter's example lives (law10's lives). -/
namespace Go.Proofs.YtblaplcknhpjnaaGreatDoor
open Go Go.RowKit Go.Proofs.YtblaplcknhpjnaaGreatDoor.Flow
set_option maxRecDepth 100000

theorem hor11 : horQ 101 2 [3, 2, 1] = 11 := by decide
set_option maxHeartbeats 4000000 in
set_option maxRecDepth 1000000 in
theorem lives10_calls (w : World) (hr : Tabs w) :
    Calls Tryz.prog 9 #[] w fun e w' => e = .returned (.bool true) ∧ Below w.heap.size w w' := by
  have HF : Hold _ := ⟨field_calls w 0 hr⟩
  clear hr
  go_enter Tryz.func9, Tryz.ntmps9
  go_wp2_with fail
  refine HF.out.mono ?_
  rintro en w1 ⟨r, rfl, hr, hb1⟩
  have hr' : Ring w1 r 101 33 := hr
  obtain ⟨W1, hW1⟩ : ∃ W, w1.alloc (.cells #[.int .u64 3, .int .u64 2, .int .u64 1] 23) = W := ⟨_, rfl⟩
  have hbw : Below w1.heap.size w1 W1 := by rw [← hW1]; exact (Below.refl _ _).alloc (Nat.le_refl _) _
  have hnew : W1.heap[w1.heap.size]? = some (.cells #[.int .u64 3, .int .u64 2, .int .u64 1] 23 (0, 0)) := by rw [← hW1]; exact heap_alloc_new w1 _
  have hrow : RowIn W1 .u64 (some ⟨w1.heap.size, 0, none⟩) 3 3 [3, 2, 1] := ⟨rfl, Nat.le_refl _, by decide, fun _ => ⟨rfl, Nat.le_refl _, by decide, .inr ⟨w1.heap.size, 0, rfl, (Array.getElem?_eq_some_iff.1 hnew).1, fun i x hx => by
    match i, hx with
    | 0, hx => simp at hx; subst hx; simp [World.cell?, hnew]
    | 1, hx => simp at hx; subst hx; simp [World.cell?, hnew]
    | 2, hx => simp at hx; subst hx; simp [World.cell?, hnew]
    | i + 3, hx => simp at hx⟩⟩⟩
  have HN : Hold _ := ⟨nums_calls W1 _ 3 3 [3, 2, 1] hrow (fun x hx => by simp at hx; unfold U64; omega) (by decide)⟩
  have HR1 : Hold _ := ⟨hr'.below hbw⟩
  have HB1 : Hold _ := ⟨bstep hb1 hbw⟩
  clear hr hr' hbw hnew hrow hb1 HF
  go_wp2_with fail
  refine HN.out.mono ?_
  rintro en w2 ⟨p, c, rfl, hp, hb2⟩
  have HR2 : Hold _ := ⟨HR1.out.below hb2⟩
  have HP2 : Hold _ := ⟨hp⟩
  have HB2 : Hold _ := ⟨bstep HB1.out hb2⟩
  clear hp hb2 HR1 HB1 HN hW1
  go_wp2_with fail
  refine (two_fit w2).mono ?_
  rintro en w3 ⟨x3, rfl, h3, b3⟩
  have HE : Hold _ := ⟨eval_fit (HR2.out.below b3) (HP2.out.below b3) h3 (by decide) (by decide) (by decide)⟩
  have HB3 : Hold _ := ⟨bstep HB2.out b3⟩
  clear h3 b3 HR2 HP2 HB2
  go_wp2_with fail
  refine HE.out.mono ?_
  rintro en w4 ⟨x4, rfl, h4, b4⟩
  rw [hor11] at h4
  have H4 : Hold _ := ⟨h4⟩
  have HB4 : Hold _ := ⟨bstep HB3.out b4⟩
  clear h4 b4 HE HB3
  go_wp2_with fail
  refine (newnat_fit (n := 11) w4 (by omega)).mono ?_
  rintro en w5 ⟨x5, rfl, h5, b5⟩
  have HC : Hold _ := ⟨cmp_fitK (H4.out.below b5) h5 (by decide) (by decide) (cmpI_zero.2 rfl)⟩
  have HB5 : Hold _ := ⟨bstep HB4.out b5⟩
  clear h5 b5 H4 HB4
  go_wp2_with fail
  refine HC.out.mono ?_
  rintro en w6 ⟨_, rfl, rfl, b6⟩
  have HB6 : Hold _ := ⟨bstep HB5.out b6⟩
  clear b6 HC HB5
  go_wp2
  go_ret
  exact ⟨rfl, HB6.out⟩

end Go.Proofs.YtblaplcknhpjnaaGreatDoor

/-! What is weighed in the exponent: over numbers. Of no program (stage 10). -/
namespace Go.Proofs.YtblaplcknhpjnaaGreatDoor
set_option maxRecDepth 100000

theorem wsum_dot (q : Nat) : ∀ (l : List (Nat × Nat)) (o : Nat), wsum (fun a b => (a + b) % q) (fun a b => a * b % q) o l % q = (o + dotN l) % q
  | [], o => by simp [wsum, dotN]
  | (a, v) :: l, o => by
    show wsum (fun a b => (a + b) % q) (fun a b => a * b % q) ((o + a * v % q) % q) l % q = (o + (a * v + dotN l)) % q
    rw [wsum_dot q l, Nat.mod_add_mod, Nat.add_right_comm, Nat.add_mod_mod]
    congr 1; omega
theorem joinexp_val {P Q g : Nat} (hg : g ^ Q % P = 1 % P) (hP : 2 ≤ P) (l : List (Nat × Nat)) : mprod P 1 (l.map fun p => (g ^ p.1 % P, p.2)) = g ^ wsum (fun a b => (a + b) % Q) (fun a b => a * b % Q) 0 l % P := by
  have h1 := mprod_pows (P := P) (g := g) l 1
  rw [Nat.mod_eq_of_lt (mprod_lt hP _ _ (by omega)), Nat.one_mul] at h1
  rw [h1]
  refine pow_alike hg ?_
  have := wsum_dot Q l 0
  rw [Nat.zero_add] at this
  exact this.symm
theorem zip_pows (f : Nat → Nat) : ∀ (ys ws : List Nat), (ys.map f).zip ws = (ys.zip ws).map fun p => (f p.1, p.2)
  | [], _ => rfl
  | _ :: _, [] => rfl
  | y :: ys, v :: ws => by
    show (f y, v) :: (ys.map f).zip ws = (f y, v) :: (ys.zip ws).map fun p => (f p.1, p.2)
    rw [zip_pows f ys ws]
/-- What goes through a polynomial's values in the exponent. -/
theorem shares_exp {P Q g X : Nat} {xs ls : List Nat} (hq : Prime Q) (hg : g ^ Q % P = 1 % P) (hP : 2 ≤ P) (hu : Unlike Q (ints xs)) (hl : ls.length ≤ xs.length) :
    mprod P 1 ((xs.map fun a => g ^ horQ Q a ls % P).zip (weis Q X [] xs)) = g ^ horQ Q X ls % P := by
  have e : (xs.map fun a => g ^ horQ Q a ls % P) = (xs.map fun a => horQ Q a ls).map fun y => g ^ y % P := by rw [List.map_map]; rfl
  rw [e, zip_pows (fun y => g ^ y % P), joinexp_val hg hP, wsum_join, join_shares hq hu hl]

end Go.Proofs.YtblaplcknhpjnaaGreatDoor

namespace Go.Proofs.YtblaplcknhpjnaaGreatDoor
open Go Go.RowKit Go.Proofs.YtblaplcknhpjnaaGreatDoor.Flow
set_option maxRecDepth 100000

theorem own_fresh {w1 : World} {v v' : Value} (h : MovedV w1 v v') {g : Nat} (hg : g < w1.heap.size) (hn : v.ownBlock ≠ some g) : v'.ownBlock ≠ some g := fun e => by
  rcases h with h | h
  · rw [h] at e; exact hn e
  · have := h g e; omega

set_option maxHeartbeats 8000000 in
set_option maxRecDepth 1000000 in
theorem cshares_calls (w : World) (hr : Tabs w) (A : Int) (p : Option Addr) (n c : Nat) (xs : List Nat) (h : RowIn w .u64 p n c xs) (h64 : ∀ x ∈ xs, U64 x) (pl : Option Addr) (nl cl : Nat) (ls : List Nat) (hl : RowIn w .u64 pl nl cl ls) (hl64 : ∀ x ∈ ls, U64 x) (X : Nat) (hX : U64 X) :
    Calls Tryz.prog 6 #[.int .i64 A, .slice p n c, .slice pl nl cl, .int .u64 (X : Nat)] w fun e w' => e = .returned (.bool true) ∧ Below w.heap.size w w' := by
  have HLI : Hold _ := ⟨lives10_calls⟩
  have HGR : Hold _ := ⟨group10_calls⟩
  have HT : Hold _ := ⟨hr⟩
  have HROW : Hold _ := ⟨h⟩
  have H64 : Hold _ := ⟨h64⟩
  have HROL : Hold _ := ⟨hl⟩
  have HL64 : Hold _ := ⟨hl64⟩
  have HX : Hold (X < 18446744073709551616) := ⟨hX⟩
  have HLN : Hold _ := ⟨h.len⟩
  have HLL : Hold _ := ⟨hl.len⟩
  have hnc := h.cap
  have hcm := h.max
  have hnc2 := hl.cap
  have hcm2 := hl.max
  obtain ⟨i, hi⟩ : ∃ i, ((IntKind.u64.wrap A) % 3).toNat = i := ⟨_, rfl⟩
  have HI3 : Hold (i < 3) := ⟨by rw [← hi]; exact idx_lt A⟩
  have HI : Hold _ := ⟨hi⟩
  clear h h64 hl hl64 hr hX hi
  go_enter Tryz.func6, Tryz.ntmps6
  go_wp2_with fail
  refine (HLI.out w HT.out).mono ?_
  rintro en w1 ⟨rfl, b1⟩
  have B1 : Hold _ := ⟨b1⟩
  clear b1
  by_cases hn6 : 6 < n
  · have hn6' : (6 : Int) < n := by omega
    go_wp2_with fail
    refine (HLI.out w1 (HT.out.below B1.out HT.out.size)).mono ?_
    rintro en w2 ⟨rfl, b2⟩
    have B2 : Hold _ := ⟨bstep B1.out b2⟩
    clear b2
    go_wp2
    go_ret
    exact ⟨rfl, B2.out⟩
  have hn6' : ¬ (6 : Int) < n := by omega
  by_cases hln : n < nl
  · have hln' : (n : Int) < nl := by omega
    go_wp2_with fail
    refine (HLI.out w1 (HT.out.below B1.out HT.out.size)).mono ?_
    rintro en w2 ⟨rfl, b2⟩
    have B2 : Hold _ := ⟨bstep B1.out b2⟩
    clear b2
    go_wp2
    go_ret
    exact ⟨rfl, B2.out⟩
  have hln' : ¬ (n : Int) < nl := by omega
  go_wp2_with fail
  refine (HGR.out w1 A (HT.out.below B1.out HT.out.size)).mono ?_
  rintro en w2 ⟨b, rfl, hg2, b2⟩
  rw [HI.out] at hg2
  obtain ⟨P, hP⟩ : ∃ q, gP i = q := ⟨_, rfl⟩
  obtain ⟨q, hq⟩ : ∃ q, gQ i = q := ⟨_, rfl⟩
  obtain ⟨gg, hgg⟩ : ∃ q, gG i = q := ⟨_, rfl⟩
  obtain ⟨hh, hhh⟩ : ∃ q, gH i = q := ⟨_, rfl⟩
  have HQ : Hold (Prime q) := ⟨by rw [← hq]; exact gQ_prime i HI3.out⟩
  have HP2 : Hold (2 ≤ P) := ⟨by have := g_bounds i HI3.out; omega⟩
  have HGM : Hold (gg ^ q % P = 1 % P) := ⟨by
    have h1 := gG_member i HI3.out
    rw [hq, hP, hgg] at h1
    rw [h1, Nat.mod_eq_of_lt (by have := HP2.out; omega)]⟩
  rw [hP, hq, hgg, hhh] at hg2
  have HG2 : Hold _ := ⟨hg2⟩
  have B2 : Hold _ := ⟨bstep B1.out b2⟩
  clear hg2 b2 hq hP hgg hhh
  go_wp2_with fail
  refine (gfield_fit HG2.out).mono ?_
  rintro en w3 ⟨r, rfl, hr3, b3⟩
  have HR3 : Hold _ := ⟨hr3⟩
  have HG3 : Hold _ := ⟨HG2.out.below b3⟩
  have B3 : Hold _ := ⟨bstep B2.out b3⟩
  clear hr3 b3
  go_wp2_with fail
  refine (nums_calls w3 p n c xs (HROW.out.below B3.out) H64.out (by omega)).mono ?_
  rintro en w4 ⟨p4, c4, rfl, hp4, b4⟩
  have HP4 : Hold _ := ⟨hp4⟩
  have HR4 : Hold _ := ⟨HR3.out.below b4⟩
  have HG4 : Hold _ := ⟨HG3.out.below b4⟩
  have B4 : Hold _ := ⟨bstep B3.out b4⟩
  clear hp4 b4
  go_wp2_with fail
  refine (nums_calls w4 pl nl cl ls (HROL.out.below B4.out) HL64.out (by omega)).mono ?_
  rintro en w5 ⟨p5, c5, rfl, hp5, b5⟩
  have HPL : Hold _ := ⟨hp5⟩
  have HPX : Hold _ := ⟨HP4.out.below b5⟩
  have HR5 : Hold _ := ⟨HR4.out.below b5⟩
  have HG5 : Hold _ := ⟨HG4.out.below b5⟩
  have B5 : Hold _ := ⟨bstep B4.out b5⟩
  clear hp5 b5
  go_wp2
  go_loopw [13, 14, 16, 17, 50] (fun vy vz _ _ iv wr => ∃ (k : Nat) (us1 us2 : List (Option Addr × Nat × Nat)), k ≤ n ∧ iv = .int .i64 k ∧ Hold (Below w5.heap.size w5 wr) ∧ Hold (RowS wr w5.heap.size vy us1) ∧ Hold (Trip wr 33 us1 ((xs.take k).map fun a => horQ q a ls)) ∧ Hold (RowS wr w5.heap.size vz us2) ∧ Hold (Trip wr 33 us2 ((xs.take k).map fun a => gg ^ horQ q a ls % P)) ∧ Hold (∀ g, vy.ownBlock = some g → vz.ownBlock ≠ some g)) (fun _ _ _ _ iv _ => n - (intOf iv).toNat)
  case atStart => exact ⟨0, [], [], by omega, rfl, ⟨Below.refl _ _⟩, ⟨RowS.nil _ _⟩, ⟨Trip.nil _ _⟩, ⟨RowS.nil _ _⟩, ⟨Trip.nil _ _⟩, ⟨fun g h => by cases h⟩⟩
  case round =>
    obtain ⟨k, us1, us2, hk, rfl, HB, HS1, HT1, HS2, HT2, HSEP⟩ := hrel
    by_cases hkn : k < n
    · obtain ⟨a, hak⟩ : ∃ a, xs[k]? = some a := ⟨xs[k]'(by rw [← HLN.out]; exact hkn), List.getElem?_eq_getElem _⟩
      obtain ⟨b2, off2, rfl, hb2, hc2⟩ := HPX.out.at_ (by omega)
      obtain ⟨q1, m1, d1, ha1, ha2, ha3⟩ := hc2 k a hak
      have hcy : wr.cell? ⟨b2, off2 + k, none⟩ = some (.slice q1 m1 d1) := (HB.out.cell (p := ⟨b2, off2 + k, none⟩) hb2).trans ha1
      have hba : Below wr.heap.size wr (wr.alloc (.cells #[.slice q1 m1 d1] 36)) := (Below.refl _ _).alloc (Nat.le_refl _) _
      have hxa := NatBox.made wr (.slice q1 m1 d1)
      obtain ⟨wa, hwa⟩ : ∃ wa, wr.alloc (.cells #[.slice q1 m1 d1] 36) = wa := ⟨_, rfl⟩
      rw [hwa] at hba hxa
      have c16 := hxa.cell
      have HBa : Hold (Below w5.heap.size w5 wa) := ⟨bstep HB.out hba⟩
      have HBra : Hold _ := ⟨hba⟩
      have HE : Hold _ := ⟨eval_fit (HR5.out.below HBa.out) (HPL.out.below HBa.out) ((Fit.of ha2 ha3).below HBa.out) (by decide) (by decide) (by omega)⟩
      obtain ⟨pv1, cv1, hv1⟩ := HS1.out.slice
      obtain ⟨pv2, cv2, hv2⟩ := HS2.out.slice
      obtain ⟨n1, hn1⟩ : ∃ m, us1.length = m := ⟨_, rfl⟩
      obtain ⟨n2, hn2⟩ : ∃ m, us2.length = m := ⟨_, rfl⟩
      rw [hn1] at hv1
      rw [hn2] at hv2
      subst hv1 hv2
      clear hn1 hn2
      have hl1 : us1.length = k := by rw [HT1.out.len, List.length_map, List.length_take, ← HLN.out]; omega
      have hl2 : us2.length = k := by rw [HT2.out.len, List.length_map, List.length_take, ← HLN.out]; omega
      have HTK1 : Hold (((xs.take (k + 1)).map fun a => horQ q a ls) = ((xs.take k).map fun a => horQ q a ls) ++ [horQ q a ls]) := ⟨by rw [snoc_take hak, List.map_append]; rfl⟩
      have HTK2 : Hold (((xs.take (k + 1)).map fun a => gg ^ horQ q a ls % P) = ((xs.take k).map fun a => gg ^ horQ q a ls % P) ++ [gg ^ horQ q a ls % P]) := ⟨by rw [snoc_take hak, List.map_append]; rfl⟩
      obtain ⟨YY, hYY⟩ : ∃ Y, horQ q a ls = Y := ⟨_, rfl⟩
      rw [hYY] at HE HTK1 HTK2
      obtain ⟨ZZ, hZZ⟩ : ∃ Y, gg ^ YY % P = Y := ⟨_, rfl⟩
      have HNN : Hold _ := ⟨hZZ⟩
      rw [hZZ] at HTK2
      have HL1 : Hold (us1.length ≤ 100000) := ⟨by omega⟩
      have HL2 : Hold (us2.length ≤ 100000) := ⟨by omega⟩
      have hkn' : (k : Int) < n := by omega
      have hnk : ¬ n ≤ k := by omega
      clear hc2 hak ha1 ha2 hba hxa hb2 hYY hZZ hl1 hl2
      go_wp2_with fail
      refine HE.out.mono ?_
      rintro en wb ⟨_, rfl, ⟨py, ny, cy, rfl, y1, y2⟩, hbb⟩
      have hbc : Below wb.heap.size wb (wb.alloc (.cells #[.slice py ny cy] 36)) := (Below.refl _ _).alloc (Nat.le_refl _) _
      have hxc := NatBox.made wb (.slice py ny cy)
      obtain ⟨wc, hwc⟩ : ∃ wc, wb.alloc (.cells #[.slice py ny cy] 36) = wc := ⟨_, rfl⟩
      rw [hwc] at hbc hxc
      have hbd : Below wc.heap.size wc (wc.alloc (.cells #[.slice py ny cy] 36)) := (Below.refl _ _).alloc (Nat.le_refl _) _
      have hxd := NatBox.made wc (.slice py ny cy)
      obtain ⟨wd, hwd⟩ : ∃ wd, wc.alloc (.cells #[.slice py ny cy] 36) = wd := ⟨_, rfl⟩
      rw [hwd] at hbd hxd
      have hrd : Below wr.heap.size wr wd := bstep HBra.out (bstep hbb (bstep hbc hbd))
      obtain ⟨v9, we, happ, hs9, hg9, hm9⟩ := (HS1.out.below hrd).app (a := ⟨wc.heap.size, 0, none⟩) (c := 1) (x := (py, ny, cy)) hxd.cell (Nat.le_trans HB.out.size hrd.size) HL1.out 32
      have c17 := hxc.cell
      obtain ⟨bv, hbv⟩ : ∃ b, wb.heap.size = b := ⟨_, rfl⟩
      rw [hbv] at c17
      have hlt1 : ∀ g, (Value.slice pv1 n1 cv1).ownBlock = some g → g < wr.heap.size := fun g hg => (HS1.out.own hg).2
      have hbvw : wr.heap.size ≤ bv := by rw [← hbv]; exact Nat.le_trans HBra.out.size hbb.size
      have HBX : Hold (NatBox we bv (.slice py ny cy)) := ⟨by
        unfold NatBox
        rw [← hbv, hg9.block wb.heap.size (Nat.lt_of_lt_of_le hxc.lt hbd.size) (fun e => by have := hlt1 _ e.symm; omega)]
        exact hxc.below hbd hxc.lt⟩
      have hxF : Trip wd 33 us1 ((xs.take k).map fun a => horQ q a ls) := HT1.out.below hrd
      have HT9 : Hold (Trip we 33 (us1 ++ [(py, ny, cy)]) ((xs.take (k + 1)).map fun a => horQ q a ls)) := ⟨by
        rw [HTK1.out]
        exact (hxF.grown (HS1.out.below hrd) hg9).snoc (nat_grown (HS1.out.below hrd) hg9 (y1.below (bstep hbc hbd))) y2⟩
      have HS9 : Hold _ := ⟨hs9⟩
      have HFX : Hold (Fit 33 YY (.agg #[.slice py ny cy]) we) := ⟨Fit.of (nat_grown (HS1.out.below hrd) hg9 (y1.below (bstep hbc hbd))) y2⟩
      have HS2e : Hold (RowS we w5.heap.size (.slice pv2 n2 cv2) us2) := ⟨(HS2.out.below hrd).keep fun g hg => hg9.block g (Nat.lt_of_lt_of_le (HS2.out.own hg).2 hrd.size) (fun e => HSEP.out g e.symm hg)⟩
      have HT2e : Hold (Trip we 33 us2 ((xs.take k).map fun a => gg ^ horQ q a ls % P)) := ⟨(HT2.out.below hrd).grown (HS1.out.below hrd) hg9⟩
      have HBe : Hold (Below w5.heap.size w5 we) := ⟨(bstep HB.out hrd).grown hg9 (bstep HB.out hrd).size (fun g hg => (HS1.out.own hg).1)⟩
      have HGA : Hold _ := ⟨HG5.out.below HBe.out⟩
      have HBW : Hold (w5.heap.size ≤ we.heap.size) := ⟨HBe.out.size⟩
      have HSE : Hold (∀ g, (Value.slice pv2 n2 cv2).ownBlock = some g → v9.ownBlock ≠ some g) := ⟨fun g hg => own_fresh hm9 (Nat.lt_of_lt_of_le (HS2.out.own hg).2 hrd.size) (fun e => HSEP.out g e hg)⟩
      clear hbb hbc hbd hxc hxd hrd hs9 hg9 hm9 y1 hxF hlt1 hbvw HE
      go_wp2_with (at_builtin; refine Lib.wpList_append_run _ rfl _ _ _ _ rfl _ _ rfl rfl _ _ happ ?_; refine Paused.out ?_)
      refine ⟨?_⟩
      have HRS : Hold _ := ⟨HS2e.out⟩
      clear happ hwa hwc hwd c16 c17 hcy
      clear hbv
      go_wp2
      refine wp_region_dutiesS (by kernel_rfl) (by kernel_rfl)
        [some (.slice pv2 n2 cv2), some (.pointer (some ⟨b, 0, none⟩)), some (.pointer (some ⟨b, 0, none⟩)), none, some (.agg #[.slice py ny cy]), none, none, none, none]
        [false, false, false, true, false, true, true, true, true] rfl
        (fun _ _ => True) (fun D sp w' => AG we w5.heap.size (.slice pv2 n2 cv2) us2 ZZ gg (D 3) (D 5) (D 6) (D 7) (D 8) (sp 3) (sp 5) (sp 6) (sp 7) (sp 8) w') (fun _ _ _ => True) (fun _ _ _ _ _ _ => trivial)
        AG.start ?_ ?_
      · simp only [DutiesS, Nat.reduceAdd]
        refine ⟨?_, ?_, ?_, ?_, ?_, ?_, ?_, ?_, ?_, trivial⟩
        case refine_4 =>
          intro D sp w' hD hW hdp hg
          rw [hD] at hg
          have d7 := hg.n3
          rw [d7] at hg
          (with_reducible refine asked_call (w1 := w') (f := 35) (args := #[.pointer (some ⟨b, 0, none⟩)]) ?_ ?_ ?_)
          · simp only [Region.wanted]
          · simp [Act.eval, Act.put, go_sem]
          · refine (gG_fit (HGA.out.below (hg.pre rfl))).mono ?_
            rintro en w9 ⟨u, rfl, hu, hb⟩
            exact ⟨u, rfl, trivial, trivial, by simpa [upd, d7] using (hg.later hb).put3 hu⟩
        case refine_5 =>
          intro D sp w' hD hW hdp hg
          have d5 : D 5 = false := hW 5 (List.mem_of_elem_eq_true (by kernel_rfl))
          rw [d5] at hg
          have d7 := hg.n5
          rw [d7] at hg
          have c0 := (HBX.out.below (hg.pre rfl) HBX.out.lt).cell
          simp [asked, Region.wanted, Oper.gives, execOp, Act.eval, Act.put, go_sem, c0]
        case refine_6 =>
          intro D sp w' hD hW hdp hg
          have d3 : D 3 = true := (hdp 3 (List.mem_of_elem_eq_true (by kernel_rfl))).1
          rw [hD, d3] at hg
          have d7 := hg.n5
          rw [d7] at hg
          (with_reducible refine asked_call (w1 := w') (f := 34) (args := #[.pointer (some ⟨b, 0, none⟩), sp 3, .agg #[.slice py ny cy]]) ?_ ?_ ?_)
          · simp only [Region.wanted]
          · simp [Act.eval, Act.put, go_sem]
          · refine (gexp_fit (HGA.out.below (hg.pre rfl)) (hg.p3 rfl rfl) (HFX.out.below (hg.pre rfl)) (by decide) (by decide)).mono ?_
            rintro en w9 ⟨u, rfl, hu, hb⟩
            rw [HNN.out] at hu
            exact ⟨u, rfl, trivial, trivial, by simpa [upd, d7, d3] using (hg.later hb).put5 hu⟩
        case refine_7 =>
          intro D sp w' hD hW hdp hg
          have d5 : D 5 = true := (hdp 5 (List.mem_of_elem_eq_true (by kernel_rfl))).1
          rw [hD, d5] at hg
          have d7 := hg.n6
          rw [d7] at hg
          have hx : ∃ p n c, sp 5 = .agg #[.slice p n c] ∧ NatAt w' p n c (ZZ) ∧ ZZ < B32 33 := hg.p5 rfl rfl
          (with_reducible refine Exists.elim hx fun p hx1 => ?_)
          (with_reducible refine Exists.elim hx1 fun n hx2 => ?_)
          (with_reducible refine Exists.elim hx2 fun c hx3 => ?_)
          have h1 := hx3.1
          have hba : Below w'.heap.size w' (w'.alloc (.cells #[.slice p n c] 36)) := (Below.refl _ _).alloc (Nat.le_refl _) _
          have hN := (hg.later hba).put6 (x := (p, n, c)) (NatBox.made w' (.slice p n c)).cell (hx3.2.1.below hba) hx3.2.2
          (with_reducible refine asked_value (w1 := w'.alloc (.cells #[.slice p n c] 36)) (v := .slice (some ⟨w'.heap.size, 0, none⟩) 1 1) ?_ ?_ ?_)
          · simp only [Region.wanted]
          · simp [execOp, Act.eval, Act.put, go_sem, h1]
          · exact ⟨trivial, trivial, by simpa [upd, d7, d5] using hN⟩
        case refine_8 =>
          intro D sp w' hD hW hdp hg
          have d6 : D 6 = true := (hdp 6 (List.mem_of_elem_eq_true (by kernel_rfl))).1
          rw [hD, d6] at hg
          (with_reducible refine Exists.elim (hg.put7 HRS.out HBW.out HL2.out 32) fun g hg1 => ?_)
          (with_reducible refine Exists.elim hg1 fun v' hg2 => ?_)
          (with_reducible refine Exists.elim hg2 fun w5 hg3 => ?_)
          have h4 := hg3.1
          have hr := hg3.2.1
          (with_reducible refine asked_value (w1 := w5) (v := v') ?_ ?_ ?_)
          · simp only [Region.wanted]
          · simp [execOp, resolve, invoke, builtin, Act.eval, Act.put, h4, hr, Result.andThen]
          · exact ⟨trivial, trivial, by simpa [upd, d6] using hg3.2.2⟩
        case refine_9 =>
          intro D sp w' hD hW hdp hg
          have d7 : D 7 = true := (hdp 7 (List.mem_of_elem_eq_true (by kernel_rfl))).1
          rw [hD, d7] at hg
          (with_reducible refine asked_value (w1 := w') (v := sp 7) ?_ ?_ ?_)
          · simp only [Region.wanted]
          · simp [execOp, Act.eval, Act.put, go_sem]
          · exact ⟨trivial, trivial, by simpa [upd, d7] using hg.put8⟩
        all_goals
          intro D sp w' hD hW hdp hg
          simp [asked, Region.wanted, Oper.gives, execOp, Act.eval, Act.put, go_sem]
      · intro sp w9 hsp hg
        obtain ⟨w1', x', k1, k2, k3, k4, k5, k6⟩ := hg.fin rfl
        have e8 := (hg.same rfl).2
        have HBn : Hold (Below w5.heap.size w5 w9) := ⟨(bstep HBe.out k1).grown k2 (bstep HBe.out k1).size (fun g hg => (HS2e.out.own hg).1)⟩
        have HS1n : Hold (RowS w9 w5.heap.size v9 (us1 ++ [(py, ny, cy)])) := ⟨(HS9.out.below k1).keep fun g hg => k2.block g (Nat.lt_of_lt_of_le (HS9.out.own hg).2 k1.size) (fun e => HSE.out g e.symm hg)⟩
        have HT1n : Hold (Trip w9 33 (us1 ++ [(py, ny, cy)]) ((xs.take (k + 1)).map fun a => horQ q a ls)) := ⟨(HT9.out.below k1).grown (HS2e.out.below k1) k2⟩
        have HS2n : Hold (RowS w9 w5.heap.size (sp 7) (us2 ++ [x'])) := ⟨k3⟩
        have HT2n : Hold (Trip w9 33 (us2 ++ [x']) ((xs.take (k + 1)).map fun a => gg ^ horQ q a ls % P)) := ⟨by
          rw [HTK2.out]
          exact ((HT2e.out.below k1).grown (HS2e.out.below k1) k2).snoc k4 k5⟩
        have HSEPn : Hold (∀ g, v9.ownBlock = some g → (sp 7).ownBlock ≠ some g) := ⟨fun g hg => own_fresh k6 (Nat.lt_of_lt_of_le (HS9.out.own hg).2 k1.size) (fun e => HSE.out g e hg)⟩
        clear hsp hg k1 k2 k3 k4 k5 k6
        simp only [frameOf, Nat.reduceAdd]
        generalize sp 3 = z3 at *
        generalize sp 5 = z5 at *
        generalize sp 6 = z6 at *
        generalize sp 7 = z7 at *
        generalize sp 8 = z8 at *
        subst e8
        go_simp
        go_wp2
        go_roundw
        case rel => exact ⟨k + 1, _, _, by omega, by go_num, HBn, HS1n, HT1n, HS2n, HT2n, HSEPn⟩
        case measure => simp [intOf]; omega
    · obtain rfl : k = n := by omega
      have hkn' : ¬ (k : Int) < k := by omega
      have htk : xs.take k = xs := List.take_of_length_le (by rw [← HLN.out]; exact Nat.le_refl _)
      rw [htk] at HT1 HT2
      obtain ⟨py, cy, hvy, hpy⟩ := HS1.out.plist HT1.out
      obtain ⟨pz, cz, hvz, hpz⟩ := HS2.out.plist HT2.out
      rw [List.length_map, ← HLN.out] at hvy hpy hvz hpz
      subst hvy hvz
      have HPY : Hold _ := ⟨hpy⟩
      have HPZ : Hold _ := ⟨hpz⟩
      clear htk hpy hpz HS1 HS2 HT1 HT2 HSEP
      obtain ⟨w6, hw6⟩ : ∃ x, x = wr := ⟨_, rfl⟩
      subst hw6
      go_wp2_with fail
      refine (newnat_fit (n := X) w6 HX.out).mono ?_
      rintro en w7 ⟨x7, rfl, hx7, b7⟩
      have B7 : Hold _ := ⟨bstep HB.out b7⟩
      have HJ : Hold _ := ⟨join_fit HQ.out (HR5.out.below B7.out) (HPX.out.below B7.out) (HPY.out.below b7) hx7 (by decide) (by decide) (by decide) (by omega) (by omega)⟩
      have HPZ7 : Hold _ := ⟨HPZ.out.below b7⟩
      clear hx7 b7 HPZ HPY
      go_wp2_with fail
      refine HJ.out.mono ?_
      rintro en w8 ⟨j1, j2, b8⟩
      have B8 : Hold _ := ⟨bstep B7.out b8⟩
      have HPZ8 : Hold _ := ⟨HPZ7.out.below b8⟩
      clear b8 HJ HPZ7
      by_cases hf : faultN q k k xs = 0
      · obtain ⟨_, rfl, ⟨pa, na, ca, rfl, ja, la⟩⟩ := j2 hf
        have HU : Hold (Unlike q (ints xs) ∧ k ≠ 0) := ⟨by
          unfold faultN at hf
          by_cases h0 : k = 0
          · rw [if_pos h0] at hf; omega
          · rw [if_neg h0, if_neg (fun h => h rfl)] at hf
            by_cases hd : (xs.map fun x => x % q).Nodup
            · exact ⟨(unlike_iff xs).2 hd, h0⟩
            · rw [if_neg hd] at hf; omega⟩
        obtain ⟨VV, hVV⟩ : ∃ V, horQ q X ls = V := ⟨_, rfl⟩
        have HVV : Hold _ := ⟨hVV⟩
        have HLS : Hold (ls.length ≤ xs.length) := ⟨by rw [← HLL.out, ← HLN.out]; omega⟩
        rw [join_shares HQ.out HU.out.1 HLS.out, hVV] at ja la
        have hbA : Below w8.heap.size w8 (w8.alloc (.cells #[.slice pa na ca] 36)) := (Below.refl _ _).alloc (Nat.le_refl _) _
        have hxA := NatBox.made w8 (.slice pa na ca)
        obtain ⟨wA, hwA⟩ : ∃ x, w8.alloc (.cells #[.slice pa na ca] 36) = x := ⟨_, rfl⟩
        rw [hwA] at hbA hxA
        obtain ⟨bA, hbAe⟩ : ∃ x, w8.heap.size = x := ⟨_, rfl⟩
        rw [hbAe] at hxA
        have HBA0 : Hold _ := ⟨hxA⟩
        have HFA0 : Hold _ := ⟨(Fit.of ja la).below hbA⟩
        have BA : Hold _ := ⟨bstep B8.out hbA⟩
        have HPZA : Hold _ := ⟨HPZ8.out.below hbA⟩
        have HFF : Hold _ := ⟨hf⟩
        clear j1 j2 ja la hbA hxA hf hVV
        go_wp2_with fail
        refine (newnat_fit (n := X) wA HX.out).mono ?_
        rintro en wB ⟨xB, rfl, hxB, bB⟩
        have BB : Hold _ := ⟨bstep BA.out bB⟩
        have HJE : Hold _ := ⟨joinexp_fit HQ.out (HG5.out.below BB.out) (HPX.out.below BB.out) (HPZA.out.below bB) hxB (by decide) (by decide) (by decide) (by omega) (by omega)⟩
        have HBA1 : Hold _ := ⟨HBA0.out.below bB HBA0.out.lt⟩
        have HFA1 : Hold _ := ⟨HFA0.out.below bB⟩
        clear hxB bB HBA0 HFA0 HPZA hwA hbAe
        go_wp2_with fail
        refine HJE.out.mono ?_
        rintro en wC ⟨j1, j2, bC⟩
        obtain ⟨_, rfl, ⟨pb, nb, cb, rfl, jb, lb⟩⟩ := j2 HFF.out
        rw [shares_exp HQ.out HGM.out HP2.out HU.out.1 HLS.out, HVV.out] at jb lb
        have hbD : Below wC.heap.size wC (wC.alloc (.cells #[.slice pb nb cb] 36)) := (Below.refl _ _).alloc (Nat.le_refl _) _
        have hxD := NatBox.made wC (.slice pb nb cb)
        obtain ⟨wD, hwD⟩ : ∃ x, wC.alloc (.cells #[.slice pb nb cb] 36) = x := ⟨_, rfl⟩
        rw [hwD] at hbD hxD
        obtain ⟨bB', hbBe⟩ : ∃ x, wC.heap.size = x := ⟨_, rfl⟩
        rw [hbBe] at hxD
        have HBB2 : Hold _ := ⟨hxD⟩
        have HFB2 : Hold _ := ⟨(Fit.of jb lb).below hbD⟩
        have BD : Hold _ := ⟨bstep (bstep BB.out bC) hbD⟩
        have HBA2 : Hold _ := ⟨HBA1.out.below (bstep bC hbD) HBA1.out.lt⟩
        have HFA2 : Hold _ := ⟨HFA1.out.below (bstep bC hbD)⟩
        clear j1 j2 jb lb hbD hxD bC HBA1 HFA1 HJE
        go_wp2_with fail
        refine (newnat_fit (n := X) wD HX.out).mono ?_
        rintro en wE ⟨xE, rfl, hxE, bE⟩
        have BE : Hold _ := ⟨bstep BD.out bE⟩
        have HEV : Hold _ := ⟨eval_fit (HR5.out.below BE.out) (HPL.out.below BE.out) hxE (by decide) (by decide) (by omega)⟩
        rw [HVV.out] at HEV
        have HBA3 : Hold _ := ⟨HBA2.out.below bE HBA2.out.lt⟩
        have HFA3 : Hold _ := ⟨HFA2.out.below bE⟩
        have HBB3 : Hold _ := ⟨HBB2.out.below bE HBB2.out.lt⟩
        have HFB3 : Hold _ := ⟨HFB2.out.below bE⟩
        clear hxE bE HBA2 HFA2 HBB2 HFB2 hwD hbBe
        go_wp2_with fail
        refine HEV.out.mono ?_
        rintro en wF ⟨_, rfl, ⟨pw, nw, cw, rfl, v1, v2⟩, bF⟩
        have hbH : Below wF.heap.size wF (wF.alloc (.cells #[.slice pw nw cw] 36)) := (Below.refl _ _).alloc (Nat.le_refl _) _
        have hxH := NatBox.made wF (.slice pw nw cw)
        obtain ⟨wH, hwH⟩ : ∃ x, wF.alloc (.cells #[.slice pw nw cw] 36) = x := ⟨_, rfl⟩
        rw [hwH] at hbH hxH
        have HBW : Hold _ := ⟨hxH⟩
        have HFW : Hold _ := ⟨(Fit.of v1 v2).below hbH⟩
        have HBA : Hold _ := ⟨HBA3.out.below (bstep bF hbH) HBA3.out.lt⟩
        have HFA : Hold _ := ⟨HFA3.out.below (bstep bF hbH)⟩
        have HBB : Hold _ := ⟨HBB3.out.below (bstep bF hbH) HBB3.out.lt⟩
        have HFB : Hold _ := ⟨HFB3.out.below (bstep bF hbH)⟩
        have BH : Hold _ := ⟨bstep (bstep BE.out bF) hbH⟩
        have HG9 : Hold _ := ⟨HG5.out.below BH.out⟩
        have BBH : Hold _ := ⟨bstep B5.out BH.out⟩
        clear v1 v2 hbH hxH bF HBA3 HFA3 HBB3 HFB3 HEV
        go_wp2
        clear hwH
        refine wp_region_duties (by kernel_rfl) (by kernel_rfl)
          [some (.agg #[.slice pa na ca]), some (.agg #[.slice pw nw cw]), none, some (.bool true), some (.bool true), some (.agg #[.slice pb nb cb]), some (.pointer (some ⟨b, 0, none⟩)), some (.pointer (some ⟨b, 0, none⟩)), none, some (.agg #[.slice pw nw cw]), none, none, some (.bool true), some (.bool true), some (.bool true)]
          [false, false, true, false, false, false, false, false, true, false, true, true, false, false, false] rfl
          (fun w1 w2 => Below w1.heap.size w1 w2)
          (fun _ w' => Below wH.heap.size wH w')
          (fun i v w' => match i with
            | 2 => v = .int .i64 0
            | 8 => Fit 33 gg v w'
            | 10 => Fit 33 (gg ^ VV % P) v w'
            | 11 => v = .int .i64 0
            | _ => True)
          ?_ (Below.refl _ _).drew ?_ ?_
        · intro i v w1 w2 hf hb
          split at hf
          · exact hf
          · exact hf.below hb
          · exact hf.below hb
          · exact hf
          · trivial
        · simp only [Duties, Nat.reduceAdd]
          refine ⟨?_, ?_, ?_, ?_, ?_, ?_, ?_, ?_, ?_, ?_, ?_, ?_, ?_, ?_, ?_, trivial⟩
          case refine_1 =>
            intro D sp w' hD hW hdp hbx'
            have c0 := (HBA.out.below hbx' HBA.out.lt).cell
            (with_reducible refine asked_value (w1 := w') (v := .agg #[.slice pa na ca]) ?_ ?_ ?_)
            · first | (simp only [Region.wanted]; done) | simp [Region.wanted, yielded, Act.put, go_sem]
            · simp [execOp, Act.eval, go_sem, c0]
            · exact ⟨rfl, rfl⟩
          case refine_2 =>
            intro D sp w' hD hW hdp hbx'
            have c0 := (HBW.out.below hbx' HBW.out.lt).cell
            (with_reducible refine asked_value (w1 := w') (v := .agg #[.slice pw nw cw]) ?_ ?_ ?_)
            · first | (simp only [Region.wanted]; done) | simp [Region.wanted, yielded, Act.put, go_sem]
            · simp [execOp, Act.eval, Act.put, go_sem, c0]
            · exact ⟨rfl, rfl⟩
          case refine_3 =>
            intro D sp w' hD hW hdp hbx'
            (with_reducible refine asked_call (w1 := w') (f := 30) (args := #[.agg #[.slice pa na ca], .agg #[.slice pw nw cw]]) ?_ ?_ ?_)
            · first | (simp only [Region.wanted]; done) | simp [Region.wanted, yielded, Act.put, go_sem]
            · simp [Act.eval, Act.put, go_sem]
            · refine (cmp_fitK (HFA.out.below hbx') (HFW.out.below hbx') (by decide) (by decide) (cmpI_zero.2 rfl)).mono ?_
              rintro en w9 ⟨_, rfl, rfl, hb⟩
              exact ⟨_, rfl, hb, rfl, bstep hbx' hb⟩
          case refine_4 =>
            intro D sp w' hD hW hdp hbx'
            have k2 : (sp 2) = .int .i64 0 := (hdp 2 (List.mem_of_elem_eq_true (by kernel_rfl))).2
            (with_reducible refine asked_value (w1 := w') (v := .bool true) ?_ ?_ ?_)
            · first | (simp only [Region.wanted]; done) | simp [Region.wanted, yielded, Act.put, go_sem, k2]
            · simp [execOp, Act.eval, Act.put, go_sem, k2]
            · exact ⟨rfl, rfl⟩
          case refine_5 =>
            intro D sp w' hD hW hdp hbx'
            (with_reducible refine asked_value (w1 := w') (v := .bool true) ?_ ?_ ?_)
            · first | (simp only [Region.wanted]; done) | simp [Region.wanted, yielded, Act.put, go_sem]
            · simp [execOp, Act.eval, Act.put, go_sem]
            · exact ⟨rfl, rfl⟩
          case refine_6 =>
            intro D sp w' hD hW hdp hbx'
            have c0 := (HBB.out.below hbx' HBB.out.lt).cell
            (with_reducible refine asked_value (w1 := w') (v := .agg #[.slice pb nb cb]) ?_ ?_ ?_)
            · first | (simp only [Region.wanted]; done) | simp [Region.wanted, yielded, Act.put, go_sem]
            · simp [execOp, Act.eval, Act.put, go_sem, c0]
            · exact ⟨rfl, rfl⟩
          case refine_7 =>
            intro D sp w' hD hW hdp hbx'
            (with_reducible refine asked_value (w1 := w') (v := .pointer (some ⟨b, 0, none⟩)) ?_ ?_ ?_)
            · first | (simp only [Region.wanted]; done) | simp [Region.wanted, yielded, Act.put, go_sem]
            · simp [execOp, Act.eval, Act.put, go_sem]
            · exact ⟨rfl, rfl⟩
          case refine_8 =>
            intro D sp w' hD hW hdp hbx'
            (with_reducible refine asked_value (w1 := w') (v := .pointer (some ⟨b, 0, none⟩)) ?_ ?_ ?_)
            · first | (simp only [Region.wanted]; done) | simp [Region.wanted, yielded, Act.put, go_sem]
            · simp [execOp, Act.eval, Act.put, go_sem]
            · exact ⟨rfl, rfl⟩
          case refine_9 =>
            intro D sp w' hD hW hdp hbx'
            (with_reducible refine asked_call (w1 := w') (f := 35) (args := #[.pointer (some ⟨b, 0, none⟩)]) ?_ ?_ ?_)
            · first | (simp only [Region.wanted]; done) | simp [Region.wanted, yielded, Act.put, go_sem]
            · simp [Act.eval, Act.put, go_sem]
            · refine (gG_fit (HG9.out.below hbx')).mono ?_
              rintro en w9 ⟨u, rfl, hu, hb⟩
              exact ⟨u, rfl, hb, hu, bstep hbx' hb⟩
          case refine_10 =>
            intro D sp w' hD hW hdp hbx'
            have c0 := (HBW.out.below hbx' HBW.out.lt).cell
            (with_reducible refine asked_value (w1 := w') (v := .agg #[.slice pw nw cw]) ?_ ?_ ?_)
            · first | (simp only [Region.wanted]; done) | simp [Region.wanted, yielded, Act.put, go_sem]
            · simp [execOp, Act.eval, Act.put, go_sem, c0]
            · exact ⟨rfl, rfl⟩
          case refine_11 =>
            intro D sp w' hD hW hdp hbx'
            have k8 : Fit 33 gg (sp 8) w' := (hdp 8 (List.mem_of_elem_eq_true (by kernel_rfl))).2
            (with_reducible refine asked_call (w1 := w') (f := 34) (args := #[.pointer (some ⟨b, 0, none⟩), sp 8, .agg #[.slice pw nw cw]]) ?_ ?_ ?_)
            · first | (simp only [Region.wanted]; done) | simp [Region.wanted, yielded, Act.put, go_sem]
            · simp [Act.eval, Act.put, go_sem]
            · refine (gexp_fit (HG9.out.below hbx') k8 (HFW.out.below hbx') (by decide) (by decide)).mono ?_
              rintro en w9 ⟨u, rfl, hu, hb⟩
              exact ⟨u, rfl, hb, hu, bstep hbx' hb⟩
          case refine_12 =>
            intro D sp w' hD hW hdp hbx'
            have k10 : Fit 33 (gg ^ VV % P) (sp 10) w' := (hdp 10 (List.mem_of_elem_eq_true (by kernel_rfl))).2
            (with_reducible refine asked_call (w1 := w') (f := 30) (args := #[.agg #[.slice pb nb cb], sp 10]) ?_ ?_ ?_)
            · first | (simp only [Region.wanted]; done) | simp [Region.wanted, yielded, Act.put, go_sem]
            · simp [Act.eval, Act.put, go_sem]
            · refine (cmp_fitK (HFB.out.below hbx') k10 (by decide) (by decide) (cmpI_zero.2 rfl)).mono ?_
              rintro en w9 ⟨_, rfl, rfl, hb⟩
              exact ⟨_, rfl, hb, rfl, bstep hbx' hb⟩
          case refine_13 =>
            intro D sp w' hD hW hdp hbx'
            have k11 : (sp 11) = .int .i64 0 := (hdp 11 (List.mem_of_elem_eq_true (by kernel_rfl))).2
            (with_reducible refine asked_value (w1 := w') (v := .bool true) ?_ ?_ ?_)
            · first | (simp only [Region.wanted]; done) | simp [Region.wanted, yielded, Act.put, go_sem, k11]
            · simp [execOp, Act.eval, Act.put, go_sem, k11]
            · exact ⟨rfl, rfl⟩
          case refine_14 =>
            intro D sp w' hD hW hdp hbx'
            (with_reducible refine asked_value (w1 := w') (v := .bool true) ?_ ?_ ?_)
            · first | (simp only [Region.wanted]; done) | simp [Region.wanted, yielded, Act.put, go_sem]
            · simp [execOp, Act.eval, Act.put, go_sem]
            · exact ⟨rfl, rfl⟩
          case refine_15 =>
            intro D sp w' hD hW hdp hbx'
            (with_reducible refine asked_value (w1 := w') (v := .bool true) ?_ ?_ ?_)
            · first | (simp only [Region.wanted]; done) | simp [Region.wanted, yielded, Act.put, go_sem]
            · simp [execOp, Act.eval, Act.put, go_sem]
            · exact ⟨rfl, rfl⟩
        · intro sp w9 hsp hbx'
          have HB9 : Hold _ := ⟨bstep BBH.out hbx'⟩
          clear hsp hbx'
          simp only [frameOf, Nat.reduceAdd]
          generalize sp 2 = y2 at *
          generalize sp 8 = y8 at *
          generalize sp 10 = y10 at *
          generalize sp 11 = y11 at *
          go_simp
          go_wp2
          go_ret
          exact ⟨rfl, HB9.out⟩
      · have hE : faultN q k k xs = 10 ∨ faultN q k k xs = 11 := by
          unfold faultN at hf ⊢
          by_cases h0 : k = 0
          · rw [if_pos h0]; exact .inl rfl
          · rw [if_neg h0, if_neg (fun h => h rfl)] at hf ⊢
            by_cases hd : (xs.map fun x => x % q).Nodup
            · rw [if_pos hd] at hf; exact absurd rfl hf
            · rw [if_neg hd]; exact .inr rfl
        obtain rfl := j1 hf
        have HFF : Hold _ := ⟨hf⟩
        obtain ⟨E, hEE⟩ : ∃ E, faultN q k k xs = E := ⟨_, rfl⟩
        rw [hEE] at hE
        have HEE : Hold _ := ⟨hEE⟩
        simp only [hEE]
        have hbA : Below w8.heap.size w8 (w8.alloc (.cells #[.slice none 0 0] 36)) := (Below.refl _ _).alloc (Nat.le_refl _) _
        obtain ⟨wA, hwA⟩ : ∃ x, w8.alloc (.cells #[.slice none 0 0] 36) = x := ⟨_, rfl⟩
        have hxA := NatBox.made w8 (.slice none 0 0)
        rw [hwA] at hbA hxA
        have c18 := hxA.cell
        have f18 := hxA.free
        obtain ⟨wS, hwS⟩ : ∃ x, wA.setCell ⟨w8.heap.size, 0, none⟩ (.slice none 0 0) = x := ⟨_, rfl⟩
        have hbS : Below w8.heap.size w8 wS := by rw [← hwS]; exact hbA.setCell (Nat.le_refl _) _
        have BA : Hold _ := ⟨bstep B8.out hbS⟩
        have HPZA : Hold _ := ⟨HPZ8.out.below hbS⟩
        clear j1 j2 hbA hbS hxA hf hEE
        rcases hE with rfl | rfl
        all_goals
          go_wp2_with fail
          refine (newnat_fit (n := X) wS HX.out).mono ?_
          rintro en wB ⟨xB, rfl, hxB, bB⟩
          clear hwS hwA c18 f18
          have BB : Hold _ := ⟨bstep BA.out bB⟩
          have HJE : Hold _ := ⟨joinexp_fit HQ.out (HG5.out.below BB.out) (HPX.out.below BB.out) (HPZA.out.below bB) hxB (by decide) (by decide) (by decide) (by omega) (by omega)⟩
          clear hxB bB HPZA
          go_wp2_with fail
          refine HJE.out.mono ?_
          rintro en wC ⟨j1, j2, bC⟩
          obtain rfl := j1 HFF.out
          rw [HEE.out]
          obtain ⟨wD, hwD⟩ : ∃ x, wC.alloc (.cells #[.slice none 0 0] 36) = x := ⟨_, rfl⟩
          have hxD := NatBox.made wC (.slice none 0 0)
          have hbD : Below wC.heap.size wC (wC.alloc (.cells #[.slice none 0 0] 36)) := (Below.refl _ _).alloc (Nat.le_refl _) _
          rw [hwD] at hxD hbD
          have c20 := hxD.cell
          have f20 := hxD.free
          have BC : Hold (Below w.heap.size w (wD.setCell ⟨wC.heap.size, 0, none⟩ (.slice none 0 0))) := ⟨bstep B5.out (bstep (bstep BB.out bC) (hbD.setCell (Nat.le_refl _) _))⟩
          clear j1 j2 bC HJE hbD hxD
          go_wp2
          go_ret
          exact ⟨rfl, BC.out⟩

end Go.Proofs.YtblaplcknhpjnaaGreatDoor
