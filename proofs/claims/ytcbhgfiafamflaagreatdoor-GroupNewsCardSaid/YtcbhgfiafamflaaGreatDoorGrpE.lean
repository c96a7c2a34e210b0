/- The document's New of a group. -/
import Derived.Test.YtcbhgfiafamflaaGreatDoorMacE
import Derived.Test.YtcbhgfiafamflaaGreatDoorGrpN
set_option maxRecDepth 1000000
set_option maxHeartbeats 16000000
namespace Go.Proofs.YtcbhgfiafamflaaGreatDoor
open Go Go.RowKit Go.Proofs.YtcbhgfiafamflaaGreatDoor.Flow
theorem refexpand_calls (w : World) (pk : Option Addr) (nk ck : Nat) (key : List Nat) (pi : Option Addr) (ni ci : Nat) (info : List Nat) (n : Nat) (hr : PartOk w ⟨pk, nk, ck, key⟩) (hzk : pk = none → ck = 0) (hI : PartOk w ⟨pi, ni, ci, info⟩) (hzi : pi = none → ci = 0)
  (hnk : nk ≤ 1000) (hni : ni ≤ 1000) (hn : n ≤ 8160) :
  Calls Tryz.prog 85 #[.slice pk nk ck, .slice pi ni ci, .int .i64 n] w (GivesOwn ((exps key info ((n + 31) / 32)).take n) w) := by
 have HI : Hold (PartOk w ⟨pi, ni, ci, info⟩) := ⟨hI⟩
 have HKy : Hold (PartOk w ⟨pk, nk, ck, key⟩) := ⟨hr⟩
 have HZ : Hold ((pk = none → ck = 0) ∧ (pi = none → ci = 0)) := ⟨hzk, hzi⟩
 obtain ⟨K, hK⟩ : ∃ K, (n + 31) / 32 = K := ⟨_, rfl⟩
 have hKn : n ≤ 32 * K := by omega
 have hKm : 32 * K < n + 32 := by omega
 have hK255 : K ≤ 255 := by omega
 rw [hK]
 clear hK hI hr hzk hzi
 have HO0 : Hold (Own ((w.alloc (.cells #[] 5)).alloc (.cells #[] 5)) w.heap.size (.slice (some ⟨w.heap.size, 0, none⟩) 0 0) (exps key info 0)) := ⟨(Own.lit w [] (by decide)).belowS ((Below.refl _ _).alloc (Nat.le_refl _) _)⟩
 have HL0 : Hold (OwnIs w.heap.size (tks key info 0) (.slice (some ⟨w.heap.size + 1, 0, none⟩) 0 0) ((w.alloc (.cells #[] 5)).alloc (.cells #[] 5))) := ⟨by
  have h := Own.lit (w.alloc (.cells #[] 5)) [] (by decide)
  rw [show (w.alloc (.cells #[] 5)).heap.size = w.heap.size + 1 by simp] at h
  exact OwnIs.mk (h.mono (Nat.le_succ _))⟩
 have HB0 : Hold (Below w.heap.size w ((w.alloc (.cells #[] 5)).alloc (.cells #[] 5))) := ⟨((Below.refl _ _).alloc (Nat.le_refl _) _).alloc (by simp) _⟩
 go_enter Tryz.func85, Tryz.ntmps85
 go_wp2
 go_loopw [7, 8, 9] (fun x y i wr => ∃ (k : Nat) (u v : Value), k ≤ K ∧ u = x ∧ v = y ∧ i = .int .i64 ((k + 1 : Nat) : Int) ∧ Hold (Own wr w.heap.size u (exps key info k)) ∧ Hold (OwnIs w.heap.size (tks key info k) v wr) ∧ Hold (Below w.heap.size w wr)) (fun _ _ i _ => K + 1 - (intOf i).toNat)
 case atStart => exact ⟨0, _, _, by omega, rfl, rfl, rfl, HO0, HL0, HB0⟩
 case round =>
  obtain ⟨k, u, v, hk, rfl, rfl, rfl, HU, HV, HB⟩ := hrel
  have hsz := HB.out.size
  obtain ⟨pu, cu, rfl, ru, nu, zu, _⟩ := HU.out.elim
  have hlu : (exps key info k).length = 32 * k := exps_length key info k
  rw [hlu] at ru HU ⊢
  clear hlu
  by_cases hkK : k < K
  ·have ht : 32 * (k : Int) < n := by omega
   obtain ⟨p, c, rfl, rv, zv⟩ : ∃ p c, v = .slice p (tks key info k).length c ∧ RowIn wr .u8 p (tks key info k).length c (tks key info k) ∧ (p = none → c = 0) := by
    have h := HV.out
    cases h with
    | of p c _ h hn hz hp => exact ⟨p, c, rfl, h, hz⟩
   have hlt : (tks key info k).length ≤ 32 := by
    cases k with
    | zero => simp [tks]
    | succ k => rw [tks_length]; exact Nat.le_refl _
   obtain ⟨T, hT⟩ : ∃ T, tks key info k = T := ⟨_, rfl⟩
   have HT : Hold (tks key info k = T) := ⟨hT⟩
   have HT8 : Hold (Bytes8 T) := ⟨by rw [← hT]; exact tks_bytes key info k⟩
   rw [hT] at rv hlt ⊢
   have hba : Below wr.heap.size wr (wr.alloc (.cells #[.int .u8 ((k + 1 : Nat) : Int)] 5)) := bal
   have HWa : Hold (Below w.heap.size w (wr.alloc (.cells #[.int .u8 ((k + 1 : Nat) : Int)] 5))) := ⟨bstepS HB.out hba⟩
   have hP := parts3 (wr.alloc (.cells #[.int .u8 ((k + 1 : Nat) : Int)] 5)) ⟨p, T.length, c, T⟩ ⟨pi, ni, ci, info⟩ ⟨some ⟨wr.heap.size, 0, none⟩, 1, 1, [k + 1]⟩ ⟨rv.below hba, HT8.out⟩ (HI.out.below HWa.out) ⟨lit_row wr [k + 1] (show 1 ≤ 9223372036854775807 by decide), fun x hx => by obtain rfl := List.mem_singleton.1 hx; omega⟩
   rw [show (wr.alloc (.cells #[.int .u8 ((k + 1 : Nat) : Int)] 5)).heap.size = wr.heap.size + 1 by simp] at hP
   have HP : Hold _ := ⟨hP⟩
   have HZP : Hold (Whole0 [(⟨p, T.length, c, T⟩ : Part), ⟨pi, ni, ci, info⟩, ⟨some ⟨wr.heap.size, 0, none⟩, 1, 1, [k + 1]⟩]) := ⟨fun P hP => by
    rcases List.mem_cons.1 hP with rfl | hP
    ·exact zv
    ·rcases List.mem_cons.1 hP with rfl | hP
     ·exact HZ.out.2
     ·obtain rfl := List.mem_singleton.1 hP
      exact fun h => by cases h⟩
   have hbp : Below (wr.alloc (.cells #[.int .u8 ((k + 1 : Nat) : Int)] 5)).heap.size (wr.alloc (.cells #[.int .u8 ((k + 1 : Nat) : Int)] 5)) ((wr.alloc (.cells #[.int .u8 ((k + 1 : Nat) : Int)] 5)).alloc (.cells #[.slice p T.length c, .slice pi ni ci, .slice (some ⟨wr.heap.size, 0, none⟩) 1 1] 23)) := bal
   have HBp : Hold (Below wr.heap.size wr ((wr.alloc (.cells #[.int .u8 ((k + 1 : Nat) : Int)] 5)).alloc (.cells #[.slice p T.length c, .slice pi ni ci, .slice (some ⟨wr.heap.size, 0, none⟩) 1 1] 23))) := ⟨bstepS hba hbp⟩
   have HWh : Hold (whole [(⟨p, T.length, c, T⟩ : Part), ⟨pi, ni, ci, info⟩, ⟨some ⟨wr.heap.size, 0, none⟩, 1, 1, [k + 1]⟩] = T ++ (info ++ [k + 1])) := ⟨by simp [whole]⟩
   have HWl : Hold ((T ++ (info ++ [k + 1])).length ≤ 2000) := ⟨by
    have hIl := HI.out.row.len
    dsimp only at hIl
    simp
    omega⟩
   clear hP hba hbp rv hT
   go_wp2_with fail
   refine calls_at (w1 := (wr.alloc (.cells #[.int .u8 ((k + 1 : Nat) : Int)] 5)).alloc (.cells #[.slice p T.length c, .slice pi ni ci, .slice (some ⟨wr.heap.size, 0, none⟩) 1 1] 23)) (by kernel_rfl) ?_
   refine (join_calls _ (some ⟨wr.heap.size + 1, 0, none⟩) 3 3 _ HP.out HZP.out (by rw [HWh.out]; have := HWl.out; omega)).mono ?_
   rintro e w4 ⟨v4, rfl, ho4, hb4⟩
   rw [HWh.out] at ho4
   obtain ⟨Y, hY⟩ : ∃ Y, T ++ (info ++ [k + 1]) = Y := ⟨_, rfl⟩
   rw [hY] at ho4 HWl
   have HTk : Hold (hmac key Y = tks key info (k + 1) ∧ Bytes8 Y) := ⟨by rw [← hY, tks, HT.out, Nat.mod_eq_of_lt (show k + 1 < 256 by omega)], by
    rw [← hY]
    intro x hx
    rcases List.mem_append.1 hx with h | h
    ·exact HT8.out x h
    ·rcases List.mem_append.1 h with h | h
     ·exact HI.out.bytes x h
     ·obtain rfl := List.mem_singleton.1 h; omega⟩
   obtain ⟨p4, c4, _, r4, n4, z4, _⟩ := ho4
   have HB4 : Hold (Below wr.heap.size wr w4) := ⟨bstepS HBp.out hb4⟩
   have HBw4 : Hold (Below w.heap.size w w4) := ⟨bstepS HB.out HB4.out⟩
   have hK4 := HKy.out.below HBw4.out
   clear hY HP HZP HBp HWh n4 hb4
   go_wp2_with fail
   refine (reftag_calls w4 pk nk ck key p4 Y.length c4 Y hK4.row hK4.bytes HZ.out.1 hnk ⟨r4, HTk.out.2⟩ z4 (by have := HWl.out; omega)).mono ?_
   rintro e w5 ⟨v5, rfl, ho5, hb5⟩
   rw [HTk.out.1] at ho5
   obtain ⟨p5, c5, _, r5, n5, z5, l5⟩ := ho5
   rw [tks_length] at r5 ⊢
   have HB5 : Hold (Below wr.heap.size wr w5) := ⟨bstepS HB4.out hb5⟩
   have HBw5 : Hold (Below w.heap.size w w5) := ⟨bstepS HB.out HB5.out⟩
   have hz4 := HB4.out.size
   have HU5 : Hold (Own w5 w.heap.size (.slice pu (32 * k) cu) (exps key info k)) := ⟨HU.out.belowS HB5.out⟩
   have HQN : Hold (∀ g, (Value.slice pu (32 * k) cu).ownBlock = some g → ∀ q, p5 = some q → q.block ≠ g) := ⟨fun g hg q hq => by
    have := HU.out.lt g hg
    have := n5 q hq
    omega⟩
   have HR5 : Hold (RowIn w5 .u8 p5 32 c5 (tks key info (k + 1))) := ⟨r5⟩
   have HZ5 : Hold ((p5 = none → c5 = 0) ∧ (∀ q, p5 = some q → q.block < w5.heap.size) ∧ New w.heap.size p5) := ⟨z5, l5, n5.mono (by omega)⟩
   have hmx : Hold ((exps key info k).length + 32 ≤ 140737488355328) := ⟨by rw [exps_length]; omega⟩
   have hs5 := HBw5.out.size
   clear r5 n5 z5 l5 r4 z4 hK4 hb5
   go_wp2_with (at_builtin; refine wpList_app rfl _ _ rfl rfl HU5.out rfl HR5.out HZ5.out.1 hmx.out hs5 ?_; intro v6 w6 ho6 hg6; refine Paused.out ?_)
   refine ⟨?_⟩
   have hr6 : RowIn w6 .u8 p5 32 c5 (tks key info (k + 1)) := HR5.out.grown hg6 (fun a ha e => HQN.out _ e.symm a ha rfl)
   have HV6 : Hold (OwnIs w.heap.size (tks key info (k + 1)) (.slice p5 32 c5) w6) := ⟨by
    have h := OwnIs.of (lo := w.heap.size) (bs := tks key info (k + 1)) p5 c5 w6 (by rw [tks_length]; exact hr6) HZ5.out.2.2 HZ5.out.1 (fun q hq => Nat.lt_of_lt_of_le (HZ5.out.2.1 q hq) hg6.size)
    rw [tks_length] at h
    exact h⟩
   have HU6 : Hold (Own w6 w.heap.size v6 (exps key info (k + 1))) := ⟨ho6⟩
   have HB6 : Hold (Below w.heap.size w w6) := ⟨HBw5.out.trans (grown_below hg6 hs5 HU5.out.ge)⟩
   clear hr6 ho6 hg6
   go_wp2
   go_roundw
   case rel => exact ⟨k + 1, _, _, by omega, rfl, rfl, by go_num, HU6, HV6, HB6⟩
   case measure => simp [intOf]; omega
  ·obtain rfl : k = K := by omega
   have ht : ¬ 32 * (k : Int) < n := by omega
   have hcc := ru.cap
   have hcm := ru.max
   have hl : ((exps key info k).take n).length = n := by rw [List.length_take, exps_length]; omega
   have hx : OwnIs w.heap.size ((exps key info k).take n) (.slice pu n cu) wr := by
    have h := OwnIs.of (lo := w.heap.size) (bs := (exps key info k).take n) pu cu wr (by rw [hl]; exact ru.take n hKn) nu zu (fun q hq => by
     subst hq
     exact HU.out.lt q.block rfl)
    rw [hl] at h
    exact h
   have HX : Hold _ := ⟨hx⟩
   clear hx hl ru nu zu HU HV
   go_wp2
   go_ret
   exact ⟨_, rfl, HX.out, HB.out⟩
end Go.Proofs.YtcbhgfiafamflaaGreatDoor
namespace Go.Proofs.YtcbhgfiafamflaaGreatDoor
open Go Go.RowKit Go.Proofs.YtcbhgfiafamflaaGreatDoor.Flow
structure GrpDoes (At : World → Nat → Nat → Nat → Nat → Nat → Prop) (ready : World → Prop) : Prop where
 below : ∀ {w w' b P Q G H}, At w b P Q G H → Below w.heap.size w w' → At w' b P Q G H
 readyBelow : ∀ {w w'}, ready w → Below w.heap.size w w' → ready w'
 lim : ∀ {w b P Q G H}, At w b P Q G H → 2 ≤ P ∧ P < B32 33 ∧ 2 ≤ Q ∧ Q < B32 33
 new : ∀ (i : Nat) (w : World) (x y z : Option Addr × Nat × Nat) (pc : Option Addr) (nc cc : Nat), i < 3 → ready w → At3 w x (gP i) → At3 w y (gQ i) → At3 w z (gG i) → PSteps w 3 pc nc cc (gChain i) →
  Calls Tryz.prog 9 #[.agg #[.slice x.1 x.2.1 x.2.2, .slice y.1 y.2.1 y.2.2, .slice z.1 z.2.1 z.2.2, .slice none 0 0], .slice pc nc cc] w fun e w' =>
   ∃ b, e = .returned (.tuple #[.pointer (some ⟨b, 0, none⟩), .int .i64 0]) ∧ At w' b (gP i) (gQ i) (gG i) (gH i) ∧ Below w.heap.size w w'
 exp : ∀ {w b P Q G H e1 e2 A E v u}, At w b P Q G H → Fit e1 A v w → Fit e2 E u w → e1 ≤ 200 → e2 ≤ 200 →
  Calls Tryz.prog 21 #[.pointer (some ⟨b, 0, none⟩), v, u] w fun e w' => ∃ x, e = .returned x ∧ Fit 33 (A ^ E % P) x w' ∧ Below w.heap.size w w'
 member : ∀ {w b P Q G H e1 A v}, At w b P Q G H → Fit e1 A v w → e1 ≤ 200 →
  Calls Tryz.prog 30 #[.pointer (some ⟨b, 0, none⟩), v] w fun e w' => e = .returned (.bool (decide (0 < A ∧ A < P ∧ A ^ Q % P = 1))) ∧ Below w.heap.size w w'
section
variable {At : World → Nat → Nat → Nat → Nat → Nat → Prop} {ready : World → Prop}
def GrpOut (At : World → Nat → Nat → Nat → Nat → Nat → Prop) (i : Nat) (w : World) (e : Ending) (w' : World) : Prop :=
 ∃ b, e = .returned (.pointer (some ⟨b, 0, none⟩)) ∧ At w' b (gP i) (gQ i) (gG i) (gH i) ∧ Below w.heap.size w w'
theorem group_calls (D : GrpDoes At ready) (w : World) (A : Int) (hr : ready w) :
  Calls Tryz.prog 16 #[.int .i64 A, .slice none 0 0] w (GrpOut At ((IntKind.u64.wrap A) % 3).toNat w) := by
 have HD : Hold _ := ⟨D⟩
 have HR : Hold _ := ⟨hr⟩
 have hi : ((IntKind.u64.wrap A) % 3).toNat < 3 := by
  have h1 := Int.emod_nonneg (IntKind.u64.wrap A) (show (3 : Int) ≠ 0 by decide)
  have h2 := Int.emod_lt_of_pos (IntKind.u64.wrap A) (show (0 : Int) < 3 by decide)
  omega
 obtain ⟨i, ei⟩ : ∃ i, ((IntKind.u64.wrap A) % 3).toNat = i := ⟨_, rfl⟩
 have HN : Hold _ := ⟨numbers_calls w A none 0 0⟩
 rw [ei] at hi HN ⊢
 have HI : Hold _ := ⟨hi⟩
 clear D hr hi ei
 go_enter Tryz.func16, Tryz.ntmps16
 go_wp2_with fail
 refine HN.out.mono ?_
 rintro en w1 ⟨x, y, z, pc, nc, cc, rfl, h1, h2, h3, h4, b1⟩
 have HH : Hold _ := ⟨HD.out.new i w1 x y z pc nc cc HI.out (HD.out.readyBelow HR.out b1) h1 h2 h3 h4⟩
 have B1 : Hold _ := ⟨b1⟩
 clear h1 h2 h3 h4 b1 HN
 go_wp2_with fail
 refine HH.out.mono ?_
 rintro en w2 ⟨b, rfl, hg, b2⟩
 have HG : Hold _ := ⟨hg⟩
 have B2 : Hold _ := ⟨bstep B1.out b2⟩
 clear hg b2 HH B1
 go_wp2
 go_ret
 exact ⟨b, rfl, HG.out, B2.out⟩
theorem two_not : ¬ (0 < 2 ∧ 2 < 607 ∧ 2 ^ 101 % 607 = 1) := by
 rw [← pm_eq 2 607 65 101 (by decide)]
 decide +kernel
theorem group_one : 64 ^ 101 % 607 = 1 := gG_member 0 (by omega)
theorem lives9_calls (D : GrpDoes At ready) (w : World) (hr : ready w) :
  Calls Tryz.prog 6 #[] w fun e w' => e = .returned (.bool true) ∧ Below w.heap.size w w' := by
 have HD : Hold _ := ⟨D⟩
 have HR : Hold _ := ⟨hr⟩
 have HN : Hold _ := ⟨group_calls D w 0 hr⟩
 clear D hr
 go_enter Tryz.func6, Tryz.ntmps6
 go_wp2_with fail
 refine HN.out.mono ?_
 rintro en w1 ⟨b, rfl, hg, b1⟩
 have hg' : At w1 b 607 101 64 597 := hg
 have HG : Hold _ := ⟨hg'⟩
 have B1 : Hold _ := ⟨b1⟩
 clear hg hg' b1 HN
 go_wp2_with fail
 refine (new_calls 64 w1 (by omega)).mono ?_
 rintro en w2 ⟨p2, n2, c2, rfl, h2, b2, _⟩
 have H2 : Hold _ := ⟨Fit.of (e := 1) h2 (by decide)⟩
 have HG2 : Hold _ := ⟨HD.out.below HG.out b2⟩
 have B2 : Hold _ := ⟨bstep B1.out b2⟩
 clear h2 b2 HG B1
 go_wp2_with fail
 refine (new_calls 101 w2 (by omega)).mono ?_
 rintro en w3 ⟨p3, n3, c3, rfl, h3, b3, _⟩
 have H3 : Hold _ := ⟨Fit.of (e := 1) h3 (by decide)⟩
 have H23 : Hold _ := ⟨H2.out.below b3⟩
 have HG3 : Hold _ := ⟨HD.out.below HG2.out b3⟩
 have B3 : Hold _ := ⟨bstep B2.out b3⟩
 clear h3 b3 HG2 B2 H2
 go_wp2_with fail
 refine (HD.out.exp HG3.out H23.out H3.out (by decide) (by decide)).mono ?_
 rintro en w4 ⟨_, rfl, ⟨p4, n4, c4, rfl, h4, l4⟩, b4⟩
 have H4 : Hold (Fit 33 1 (.agg #[.slice p4 n4 c4]) w4) := ⟨(Fit.of h4 l4).cast group_one⟩
 have HG4 : Hold _ := ⟨HD.out.below HG3.out b4⟩
 have B4 : Hold _ := ⟨bstep B3.out b4⟩
 clear h4 l4 b4 HG3 B3 H23 H3
 go_wp2_with fail
 refine (new_calls 1 w4 (by omega)).mono ?_
 rintro en w5 ⟨p5, n5, c5, rfl, h5, b5, _⟩
 have H5 : Hold _ := ⟨Fit.of (e := 1) h5 (by decide)⟩
 have H45 : Hold _ := ⟨H4.out.below b5⟩
 have HG5 : Hold _ := ⟨HD.out.below HG4.out b5⟩
 have B5 : Hold _ := ⟨bstep B4.out b5⟩
 clear h5 b5 HG4 B4 H4
 go_wp2_with fail
 refine (cmp_fitK H45.out H5.out (by decide) (by decide) (cmpI_zero.2 rfl)).mono ?_
 rintro en w6 ⟨_, rfl, rfl, b6⟩
 have HG6 : Hold _ := ⟨HD.out.below HG5.out b6⟩
 have B6 : Hold _ := ⟨bstep B5.out b6⟩
 clear b6 HG5 B5 H45 H5
 go_wp2_with fail
 refine (new_calls 2 w6 (by omega)).mono ?_
 rintro en w7 ⟨p7, n7, c7, rfl, h7, b7, _⟩
 have H7 : Hold _ := ⟨Fit.of (e := 1) h7 (by decide)⟩
 have HG7 : Hold _ := ⟨HD.out.below HG6.out b7⟩
 have B7 : Hold _ := ⟨bstep B6.out b7⟩
 clear h7 b7 HG6 B6
 go_wp2_with fail
 refine (HD.out.member HG7.out H7.out (by decide)).mono ?_
 rintro en w8 ⟨rfl, b8⟩
 rw [decide_eq_false two_not]
 have B8 : Hold _ := ⟨bstep B7.out b8⟩
 have HN8 : Hold _ := ⟨group_calls HD.out w8 1 (HD.out.readyBelow HR.out B8.out)⟩
 clear b8 HG7 B7 H7
 go_wp2_with fail
 refine HN8.out.mono ?_
 rintro en w9 ⟨b9, rfl, _, bb9⟩
 have B9 : Hold _ := ⟨bstep B8.out bb9⟩
 clear bb9 HN8
 go_wp2
 go_ret
 exact ⟨rfl, B9.out⟩
end
end Go.Proofs.YtcbhgfiafamflaaGreatDoor
namespace Go.Proofs.YtcbhgfiafamflaaGreatDoor
open Go Go.RowKit Go.Proofs.YtcbhgfiafamflaaGreatDoor.Flow
theorem extract_calls (w : World) (pk : Option Addr) (nk ck : Nat) (salt : List Nat) (ps : Option Addr) (ns cs : Nat) (secret : List Nat) (hT : Tabs w) (hK : PartOk w ⟨pk, nk, ck, salt⟩) (hS : PartOk w ⟨ps, ns, cs, secret⟩) :
  Calls Tryz.prog 134 #[.slice pk nk ck, .slice ps ns cs] w (GivesSum (tagged salt secret) w) := by
 have hb : Below w.heap.size w (w.alloc (.cells #[.slice ps ns cs] 23)) := bal
 have hz := hb.size
 have HC : Hold _ := ⟨macTag_calls (w.alloc (.cells #[.slice ps ns cs] 23)) pk nk ck salt _ _ _ [⟨ps, ns, cs, secret⟩] (hT.below hb hT.size) (hK.below hb).row hK.bytes (parts1 w ⟨ps, ns, cs, secret⟩ hS)⟩
 have HB : Hold _ := ⟨hb⟩
 clear hT hK hS hb
 go_enter Tryz.func134, Tryz.ntmps134
 go_wp2_with fail
 refine HC.out.mono ?_
 rintro e w1 ⟨q, rfl, hq, hb1, hk⟩
 rw [whole_one] at hk
 go_wp2
 go_ret
 exact ⟨q, rfl, by omega, bstepS HB.out hb1, hk⟩
theorem derive_calls (w : World) (pk : Option Addr) (nk ck : Nat) (salt : List Nat) (ps : Option Addr) (ns cs : Nat) (secret : List Nat) (pi : Option Addr) (ni ci : Nat) (info : List Nat) (n : Nat) (hT : Tabs w) (hK : PartOk w ⟨pk, nk, ck, salt⟩) (hS : PartOk w ⟨ps, ns, cs, secret⟩) (hI : PartOk w ⟨pi, ni, ci, info⟩) (hn : n ≤ 8160) :
  Calls Tryz.prog 113 #[.slice pk nk ck, .slice ps ns cs, .slice pi ni ci, .int .i64 n] w (GivesExp n ((exps (hmac salt secret) info ((n + 31) / 32)).take n) w) := by
 have HC : Hold _ := ⟨extract_calls w pk nk ck salt ps ns cs secret hT hK hS⟩
 have HI : Hold (PartOk w ⟨pi, ni, ci, info⟩) := ⟨hI⟩
 have HT : Hold (Tabs w) := ⟨hT⟩
 clear hT hK hS hI
 go_enter Tryz.func113, Tryz.ntmps113
 go_wp2_with fail
 refine HC.out.mono ?_
 rintro e w1 ⟨q, rfl, hq, hb1, hk⟩
 have hr : RowIn w1 .u8 (some ⟨q, 0, none⟩) 32 32 (hmac salt secret) := ⟨(hmac_length _ _).symm, Nat.le_refl _, by omega, fun _ => hk.row (hmac_length _ _).symm (Nat.le_refl _) (by omega)⟩
 go_wp2_with fail
 refine (expand_calls w1 _ _ _ (hmac salt secret) pi ni ci info n (HT.out.below hb1 HT.out.size) hr (hmac_bytes _ _) (HI.out.below hb1) hn).mono ?_
 rintro e w2 ⟨p, rfl, hr2, hn2, hb2, hz2⟩
 have hz := hb1.size
 have HE : Hold _ := ⟨hr2⟩
 have HN : Hold (New w.heap.size p ∧ (p = none → n = 0)) := ⟨hn2.mono hz, hz2⟩
 clear hr2 hn2 hz2 hr hk
 go_wp2
 exact bodyPost_ret (v := .tuple #[.slice p n n, .int .i64 0]) (by simp [results, Tryz.results113, go_sem]) rfl ⟨p, rfl, HE.out, HN.out.1, bstepS hb1 hb2, HN.out.2⟩
theorem refderive_calls (w : World) (pk : Option Addr) (nk ck : Nat) (salt : List Nat) (ps : Option Addr) (ns cs : Nat) (secret : List Nat) (pi : Option Addr) (ni ci : Nat) (info : List Nat) (n : Nat) (hK : PartOk w ⟨pk, nk, ck, salt⟩) (zk : pk = none → ck = 0) (hS : PartOk w ⟨ps, ns, cs, secret⟩) (zs : ps = none → cs = 0) (hI : PartOk w ⟨pi, ni, ci, info⟩) (zi : pi = none → ci = 0)
  (hnk : nk ≤ 1000) (hns : ns ≤ 1000) (hni : ni ≤ 1000) (hn : n ≤ 8160) :
  Calls Tryz.prog 43 #[.slice pk nk ck, .slice ps ns cs, .slice pi ni ci, .int .i64 n] w (GivesOwn ((exps (hmac salt secret) info ((n + 31) / 32)).take n) w) := by
 have HC : Hold _ := ⟨reftag_calls w pk nk ck salt ps ns cs secret hK.row hK.bytes zk hnk hS zs (by omega)⟩
 have HI : Hold (PartOk w ⟨pi, ni, ci, info⟩ ∧ (pi = none → ci = 0)) := ⟨hI, zi⟩
 clear hK hS hI zk zs zi
 go_enter Tryz.func43, Tryz.ntmps43
 go_wp2_with fail
 refine HC.out.mono ?_
 rintro e w1 ⟨v, rfl, ho, hb1⟩
 obtain ⟨H, hH⟩ : ∃ H, hmac salt secret = H := ⟨_, rfl⟩
 have hl : H.length ≤ 1000 := by rw [← hH, hmac_length]; omega
 have h8 : Bytes8 H := by rw [← hH]; exact hmac_bytes _ _
 have HE : Hold (hmac salt secret = H) := ⟨hH⟩
 rw [hH] at ho
 clear hH
 refine ho.elim (fun p c hv hr hnw hzp => ?_)
 clear ho
 subst hv
 have HR : Hold _ := ⟨refexpand_calls w1 p H.length c H pi ni ci info n ⟨hr, h8⟩ hzp (HI.out.1.below hb1) HI.out.2 hl hni hn⟩
 clear hr hnw hzp h8
 go_wp2_with fail
 refine HR.out.mono ?_
 rintro e w2 ⟨v, rfl, ho2, hb2⟩
 have HO : Hold _ := ⟨ho2⟩
 have hz := hb1.size
 clear ho2
 go_wp2
 go_ret
 exact ⟨v, rfl, by rw [HE.out]; exact HO.out.mono hz, bstepS hb1 hb2⟩
end Go.Proofs.YtcbhgfiafamflaaGreatDoor
namespace Go.Proofs.YtcbhgfiafamflaaGreatDoor
open Go Go.RowKit Go.Proofs.YtcbhgfiafamflaaGreatDoor.Flow
theorem be_blen {bs : List Nat} (h : Bytes8 bs) : blen (be bs) ≤ 8 * bs.length := by
 refine (blen_le _ _).2 ?_
 have := h.reverse.lt
 rw [B8_pow] at this
 simpa [be] using this
end Go.Proofs.YtcbhgfiafamflaaGreatDoor
namespace Go.Proofs.YtcbhgfiafamflaaGreatDoor
open Go Go.RowKit Go.Proofs.YtcbhgfiafamflaaGreatDoor.Flow
theorem kept_four {t : TypeId} {w : World} {b : Nat} {x0 x1 x2 x3 : Option Addr × Nat × Nat} (h : Box4 t w b (.slice x0.1 x0.2.1 x0.2.2) (.slice x1.1 x1.2.1 x1.2.2) (.slice x2.1 x2.2.1 x2.2.2) (.slice x3.1 x3.2.1 x3.2.2)) (u0 u1 u2 u3 : Value) :
  KeptS w ((((w.setCell ⟨b, 0, none⟩ u0).setCell ⟨b, 1, none⟩ u1).setCell ⟨b, 2, none⟩ u2).setCell ⟨b, 3, none⟩ u3) := by
 have h0 := h.at_
 have k0 := KeptS.set h.cells.1 u0
 have k1 : KeptS (w.setCell ⟨b, 0, none⟩ u0) ((w.setCell ⟨b, 0, none⟩ u0).setCell ⟨b, 1, none⟩ u1) := KeptS.set (p := x1.1) (n := x1.2.1) (c := x1.2.2) (by simp [World.cell?, World.setCell, Array.getElem?_modify, h0]) u1
 have k2 : KeptS ((w.setCell ⟨b, 0, none⟩ u0).setCell ⟨b, 1, none⟩ u1) (((w.setCell ⟨b, 0, none⟩ u0).setCell ⟨b, 1, none⟩ u1).setCell ⟨b, 2, none⟩ u2) := KeptS.set (p := x2.1) (n := x2.2.1) (c := x2.2.2) (by simp [World.cell?, World.setCell, Array.getElem?_modify, h0]) u2
 have k3 : KeptS (((w.setCell ⟨b, 0, none⟩ u0).setCell ⟨b, 1, none⟩ u1).setCell ⟨b, 2, none⟩ u2) ((((w.setCell ⟨b, 0, none⟩ u0).setCell ⟨b, 1, none⟩ u1).setCell ⟨b, 2, none⟩ u2).setCell ⟨b, 3, none⟩ u3) := KeptS.set (p := x3.1) (n := x3.2.1) (c := x3.2.2) (by simp [World.cell?, World.setCell, Array.getElem?_modify, h0]) u3
 exact ((k0.trans k1).trans k2).trans k3
structure RefVal (P Q G H : Nat) (v : Value) (w : World) : Prop where
 ex : ∃ p0 n0 c0 p1 n1 c1 p2 n2 c2 p3 n3 c3, v = .agg #[.slice p0 n0 c0, .slice p1 n1 c1, .slice p2 n2 c2, .slice p3 n3 c3] ∧ BitsAt w p0 n0 c0 P ∧ BitsAt w p1 n1 c1 Q ∧ BitsAt w p2 n2 c2 G ∧ BitsAt w p3 n3 c3 H
theorem RefVal.below {P Q G H : Nat} {v : Value} {w w' : World} (h : RefVal P Q G H v w) (hb : Below w.heap.size w w') : RefVal P Q G H v w' := by
 obtain ⟨p0, n0, c0, p1, n1, c1, p2, n2, c2, p3, n3, c3, h0, h1, h2, h3, h4⟩ := h.ex
 exact ⟨p0, n0, c0, p1, n1, c1, p2, n2, c2, p3, n3, c3, h0, h1.below hb, h2.below hb, h3.below hb, h4.below hb⟩
section
variable {At : World → Nat → Nat → Nat → Nat → Nat → Prop} {ready : World → Prop}
end
end Go.Proofs.YtcbhgfiafamflaaGreatDoor
namespace Go.Proofs.YtcbhgfiafamflaaGreatDoor
open Go Go.RowKit Go.Proofs.YtcbhgfiafamflaaGreatDoor.Flow
theorem told_prime {N : Nat} {l : List StepN} (h : Told N l) : Prime N := by
 rcases h with h | ⟨h, s, hs, rfl⟩
 ·exact h.prime
 ·exact chain_prime l [] (fun x hx => by cases hx) h s hs
def hNum (seed : List Nat) (P c : Nat) : Nat := be ((exps (hmac [] seed) [104, c] ((bsize P + 8 + 31) / 32)).take (bsize P + 8))
def firstH (f : Nat → Nat) : Nat → Nat → Option Nat
 | 0, _ => none
 | k + 1, c => if 1 < f c then some (f c) else firstH f k (c + 1)
def RightG (P Q G : Nat) : Prop := (P - 1) % Q = 0 ∧ 64 < Q ∧ 1 < G ∧ G < P ∧ G ^ Q % P = 1
open Classical in
noncomputable def newSpec (P Q G : Nat) (seed : List Nat) (l : List StepN) : Nat × Nat :=
 if Told P l ∧ Told Q l then
  if RightG P Q G then
   match firstH (fun c => hNum seed P c ^ ((P - 1) / Q) % P) 256 0 with
   | some h => (0, h)
   | none => (6, 0)
  else (1, 0)
 else (8, 0)
def FewB (l : List StepN) : Prop := ∀ s ∈ l, blen s.n ≤ 1100 ∧ blen s.base ≤ 1100 ∧ (∀ q ∈ s.ps, blen q ≤ 1100) ∧ s.ps.length ≤ 1000000
open Classical in
theorem dprime_calls (w : World) (p : Option Addr) (n c N : Nat) (pl : Option Addr) (nl cl : Nat) (l : List StepN) (hN : BitsAt w p n c N) (hl : SList w pl nl cl l) (lN : blen N ≤ 1100) (lL : FewB l) (hnl : nl ≤ 1000) :
  Calls Tryz.prog 38 #[.slice p n c, .slice pl nl cl] w fun e w' => e = .returned (.bool (decide (Told N l))) ∧ Below w.heap.size w w' := by
 have HN : Hold _ := ⟨hN⟩
 have HL : Hold _ := ⟨hl⟩
 have HLn : Hold _ := ⟨hl.len⟩
 have HLL : Hold _ := ⟨lL⟩
 obtain ⟨ANS, hANS⟩ : ∃ X, decide (Told N l) = X := ⟨_, rfl⟩
 have HANS : Hold _ := ⟨hANS⟩
 rw [hANS]
 clear hN hl lL hANS
 obtain ⟨S, hS⟩ : ∃ X, decide (SmallP N) = X := ⟨_, rfl⟩
 have HS : Hold _ := ⟨hS⟩
 clear hS
 go_enter Tryz.func38, Tryz.ntmps38
 go_wp2_with fail
 refine (dsmall_calls w p n c N HN.out).mono ?_
 rintro en w1 ⟨rfl, hb1⟩
 rw [HS.out]
 have HB1 : Hold _ := ⟨hb1⟩
 clear hb1
 cases S with
 | true =>
  have HF : Hold (ANS = true) := ⟨by rw [← HANS.out]; exact decide_eq_true (.inl (of_decide_eq_true HS.out))⟩
  go_wp2
  go_ret
  exact ⟨by rw [HF.out]; rfl, HB1.out⟩
 | false =>
  go_wp2
  go_loopw [5, 7, 12] (fun bv _ iv wr => ∃ k : Nat, k ≤ nl ∧ iv = .int .i64 k ∧ bv = .bool ((l.take k).any fun s => s.n == N) ∧ Hold (Below w.heap.size w wr)) (fun _ _ iv _ => nl - (intOf iv).toNat)
  case atStart => exact ⟨0, by omega, rfl, by simp, HB1⟩
  case round =>
   obtain ⟨k, hk, rfl, rfl, HB⟩ := hrel
   by_cases hkn : k < nl
   ·obtain ⟨X, hXk⟩ : ∃ X, l[k]? = some X := ⟨l[k]'(by rw [← HLn.out]; exact hkn), List.getElem?_eq_getElem _⟩
    obtain ⟨b, off, rfl, hb, hc⟩ := (HL.out.below HB.out).at_ (by omega)
    obtain ⟨q0, m0, d0, q1, m1, d1, q2, m2, d2, x0, x1, x2, x3, _, _⟩ := hc k X hXk
    have HX3 : Hold _ := ⟨x3⟩
    have hlX : blen X.n ≤ 1100 := (HLL.out X (List.mem_of_getElem? hXk)).1
    have hkn' : (k : Int) < nl := by omega
    have HSt : Hold ((l.take (k + 1)).any (fun s => s.n == N) = ((l.take k).any (fun s => s.n == N) || (X.n == N))) := ⟨by
     rw [snoc_take hXk, List.any_append]
     simp⟩
    have hbx : Below wr.heap.size wr (wr.alloc (.cells #[.slice q0 m0 d0, .slice q1 m1 d1, .slice q2 m2 d2] 43)) := bal
    have HBX3 : Hold _ := ⟨Box3.made 43 wr (.slice q0 m0 d0) (.slice q1 m1 d1) (.slice q2 m2 d2)⟩
    obtain ⟨wa, hwa⟩ : ∃ wa, wr.alloc (.cells #[.slice q0 m0 d0, .slice q1 m1 d1, .slice q2 m2 d2] 43) = wa := ⟨_, rfl⟩
    rw [hwa] at hbx HBX3
    have HBa : Hold _ := ⟨bstep HB.out hbx⟩
    have HXa : Hold _ := ⟨HX3.out.below hbx⟩
    have z0 := HBX3.out.cells.1
    obtain ⟨C, hC⟩ : ∃ C, (l.take k).any (fun s => s.n == N) = C := ⟨_, rfl⟩
    rw [hC] at HSt
    rw [hC]
    clear hc x3 hXk hbx hC
    cases C with
    | true =>
     go_wp2
     go_roundw
     case rel => exact ⟨k + 1, by omega, by go_num, by rw [HSt.out]; rfl, HBa⟩
     case measure => simp [intOf]; omega
    | false =>
     go_wp2_with fail
     refine (rcmp_fit (RBits.of HXa.out) (RBits.of (HN.out.below HBa.out)) (by omega) (by omega)).mono ?_
     rintro en w2 ⟨_, rfl, rfl, hb2⟩
     have HB2 : Hold _ := ⟨bstep HBa.out hb2⟩
     have e0 : ((cmpI X.n N : Int) == 0) = (X.n == N) := by
      by_cases hnm : X.n = N
      ·simp [hnm, cmpI_zero.2]
      ·have : cmpI X.n N ≠ 0 := fun h0 => hnm (cmpI_zero.1 h0)
       rw [beq_eq_false_iff_ne.2 this, beq_eq_false_iff_ne.2 hnm]
     have HE : Hold _ := ⟨e0⟩
     generalize cmpI X.n N = K at *
     clear e0 hb2 x0 x1 x2 z0
     go_wp2
     go_roundw
     case rel => exact ⟨k + 1, by omega, by go_num, by rw [HSt.out, ← HE.out]; rfl, HB2⟩
     case measure => simp [intOf]; omega
   ·obtain rfl : k = nl := by omega
    have hkn' : ¬ (k : Int) < k := by omega
    have htk : l.take k = l := List.take_of_length_le (by rw [← HLn.out]; exact Nat.le_refl _)
    rw [htk]
    clear htk
    by_cases hin : ∃ s ∈ l, s.n = N
    ·have hany : (l.any fun s => s.n == N) = true := by
      obtain ⟨s, hs, e⟩ := hin
      exact List.any_eq_true.2 ⟨s, hs, by simp [e]⟩
     rw [hany]
     clear hany
     have HF : Hold (ANS = decide (ChainP [] l)) := ⟨by
      rw [← HANS.out]
      refine decide_eq_decide.2 ⟨fun h => ?_, fun h => .inr ⟨h, hin⟩⟩
      rcases h with h | h
      ·exact absurd h (of_decide_eq_false HS.out)
      ·exact h.1⟩
     clear hin
     go_wp2_with fail
     refine (dcheck_calls wr pl k cl l (HL.out.below HB.out) (by omega) HLL.out).mono ?_
     rintro en w2 ⟨rfl, hb2⟩
     rw [← HF.out]
     have HB2 : Hold _ := ⟨bstep HB.out hb2⟩
     clear hb2
     go_wp2
     go_ret
     exact ⟨rfl, HB2.out⟩
    ·have hany : (l.any fun s => s.n == N) = false := by
      rw [List.any_eq_false]
      intro s hs hc
      exact hin ⟨s, hs, by simpa using hc⟩
     rw [hany]
     clear hany
     have HF : Hold (ANS = false) := ⟨by
      rw [← HANS.out]
      refine decide_eq_false fun h => ?_
      rcases h with h | h
      ·exact absurd h (of_decide_eq_false HS.out)
      ·exact hin h.2⟩
     clear hin
     go_wp2
     go_ret
     exact ⟨by rw [HF.out]; rfl, HB.out⟩
theorem dsize_calls {w : World} {v : Value} {P Q G H : Nat} (h : RefVal P Q G H v w) (hl : blen P ≤ 100000) :
  Calls Tryz.prog 15 #[v] w fun e w' => e = .returned (.int .i64 (bsize P : Nat)) ∧ Below w.heap.size w w' := by
 obtain ⟨p0, n0, c0, p1, n1, c1, p2, n2, c2, p3, n3, c3, rfl, h0, _⟩ := h.ex
 have hn := bits_len h0
 have hbx : Below w.heap.size w (w.alloc (.cells #[.slice p0 n0 c0, .slice p1 n1 c1, .slice p2 n2 c2, .slice p3 n3 c3] 51)) := bal
 have HBX : Hold _ := ⟨Box4.made 51 w (.slice p0 n0 c0) (.slice p1 n1 c1) (.slice p2 n2 c2) (.slice p3 n3 c3)⟩
 obtain ⟨wa, hwa⟩ : ∃ wa, w.alloc (.cells #[.slice p0 n0 c0, .slice p1 n1 c1, .slice p2 n2 c2, .slice p3 n3 c3] 51) = wa := ⟨_, rfl⟩
 rw [hwa] at hbx HBX
 have HB : Hold _ := ⟨hbx⟩
 have HS : Hold (bsize P = (n0 + 7) / 8) := ⟨by unfold bsize; rw [hn]⟩
 have hn0 : n0 ≤ 100000 := by omega
 have hdiv : ((n0 : Int) + 7).tdiv 8 = (((n0 + 7) / 8 : Nat) : Int) := by rw [Int.tdiv_eq_ediv_of_nonneg (by omega)]; omega
 have c0' := HBX.out.cells.1
 clear h h0 hn hbx hl
 go_enter Tryz.func15, Tryz.ntmps15
 go_wp2
 go_ret
 exact ⟨by rw [HS.out]; simp, HB.out⟩
open Classical in
theorem dmember_calls {w : World} {v : Value} {P Q G H A : Nat} {p : Option Addr} {n c : Nat} (h : RefVal P Q G H v w) (hA : BitsAt w p n c A) (lP : blen P ≤ 100000) (lQ : blen Q ≤ 100000) (lA : blen A ≤ 100000) (hP : 0 < P) :
  Calls Tryz.prog 42 #[v, .slice p n c] w fun e w' => e = .returned (.bool (decide (0 < A ∧ A < P ∧ A ^ Q % P = 1))) ∧ Below w.heap.size w w' := by
 obtain ⟨p0, n0, c0, p1, n1, c1, p2, n2, c2, p3, n3, c3, rfl, h0, h1, _, _⟩ := h.ex
 have hn := bits_len hA
 have hbx : Below w.heap.size w (w.alloc (.cells #[.slice p0 n0 c0, .slice p1 n1 c1, .slice p2 n2 c2, .slice p3 n3 c3] 51)) := bal
 have HBX : Hold _ := ⟨Box4.made 51 w (.slice p0 n0 c0) (.slice p1 n1 c1) (.slice p2 n2 c2) (.slice p3 n3 c3)⟩
 obtain ⟨wa, hwa⟩ : ∃ wa, w.alloc (.cells #[.slice p0 n0 c0, .slice p1 n1 c1, .slice p2 n2 c2, .slice p3 n3 c3] 51) = wa := ⟨_, rfl⟩
 rw [hwa] at hbx HBX
 have HB : Hold _ := ⟨hbx⟩
 have HA : Hold _ := ⟨hA.below hbx⟩
 have HP : Hold _ := ⟨h0.below hbx⟩
 have HQ : Hold _ := ⟨h1.below hbx⟩
 have hcap := hA.cap
 have hcm := hA.max
 obtain ⟨ANS, hANS⟩ : ∃ X, decide (0 < A ∧ A < P ∧ A ^ Q % P = 1) = X := ⟨_, rfl⟩
 have HANS : Hold _ := ⟨hANS⟩
 rw [hANS]
 have c0' := HBX.out.cells.1
 have HNA : Hold _ := ⟨hn⟩
 clear h h0 h1 hA hn hbx hANS
 by_cases hA0 : A = 0
 ·have hn0 : n = 0 := by rw [HNA.out, hA0]; rfl
  have HF : Hold (ANS = false) := ⟨by rw [← HANS.out]; exact decide_eq_false fun h => by omega⟩
  subst hn0
  clear hA0
  go_enter Tryz.func42, Tryz.ntmps42
  go_wp2
  go_ret
  exact ⟨by rw [HF.out]; rfl, HB.out⟩
 have hn0 : (0 : Int) < n := by
  have := blen_pos (show 0 < A by omega)
  have := HNA.out
  omega
 obtain ⟨K, hK⟩ : ∃ K, cmpI A P = K := ⟨_, rfl⟩
 have HK : Hold _ := ⟨hK⟩
 have HA0 : Hold (0 < A) := ⟨by omega⟩
 clear hK hA0
 go_enter Tryz.func42, Tryz.ntmps42
 go_wp2_with fail
 refine (rcmp_fit (RBits.of HA.out) (RBits.of HP.out) (by omega) (by omega)).mono ?_
 rintro en w1 ⟨_, rfl, rfl, hb1⟩
 rw [HK.out]
 have HB1 : Hold _ := ⟨hb1⟩
 have HX1 : Hold _ := ⟨HBX.out.below hb1 HBX.out.lt⟩
 clear hb1 c0'
 by_cases hlt : A < P
 ·have hK0 : K < 0 := by rw [← HK.out, cmpI_lt hlt]; decide
  have HLt : Hold _ := ⟨hlt⟩
  have c1' := HX1.out.cells.2.1
  have c0' := HX1.out.cells.1
  clear hlt
  go_wp2_with fail
  refine (dexp_fit (RBits.of (HA.out.below HB1.out)) (RBits.of (HQ.out.below HB1.out)) (RBits.of (HP.out.below HB1.out)) lA lQ lP hP).mono ?_
  rintro en w2 ⟨_, rfl, ⟨px, nx, cx, rfl, hx⟩, hb2⟩
  have HB2 : Hold _ := ⟨bstep HB1.out hb2⟩
  have HX : Hold _ := ⟨hx⟩
  clear hb2 hx c0' c1'
  go_wp2_with fail
  refine (small_calls 1 w2 (by decide)).mono ?_
  rintro en w3 ⟨p3, n3, c3, rfl, hn3, hb3, _⟩
  have HB3 : Hold _ := ⟨bstep HB2.out hb3⟩
  have HX3 : Hold _ := ⟨HX.out.below hb3⟩
  have HN3 : Hold _ := ⟨hn3⟩
  obtain ⟨Y, hY⟩ : ∃ Y, A ^ Q % P = Y := ⟨_, rfl⟩
  rw [hY] at HX3
  have HYl : Hold (blen Y ≤ 100000) := ⟨by rw [← hY]; exact Nat.le_trans (blen_mono (Nat.le_of_lt (Nat.mod_lt _ hP))) lP⟩
  have HF : Hold (ANS = decide (Y = 1)) := ⟨by
   rw [← HANS.out, ← hY]
   exact decide_eq_decide.2 ⟨fun h => h.2.2, fun h => ⟨HA0.out, HLt.out, h⟩⟩⟩
  clear hb3 hn3 hY
  go_wp2_with fail
  refine (rcmp_fit (RBits.of HX3.out) (RBits.of HN3.out) (by have := HYl.out; omega) (by have : blen 1 ≤ 1 := (blen_le 1 1).2 (by decide); omega)).mono ?_
  rintro en w4 ⟨_, rfl, rfl, hb4⟩
  have HB4 : Hold _ := ⟨bstep HB3.out hb4⟩
  have e0 : ((cmpI Y 1 : Int) == 0) = decide (Y = 1) := by
   by_cases hnm : Y = 1
   ·simp [hnm, cmpI_zero.2]
   ·have : cmpI Y 1 ≠ 0 := fun h0 => hnm (cmpI_zero.1 h0)
    simp [hnm, this]
  have HE : Hold _ := ⟨e0⟩
  generalize cmpI Y 1 = K2 at *
  have HBe : Hold _ := ⟨bstep HB.out HB4.out⟩
  clear e0 hb4
  go_wp2
  go_ret
  exact ⟨by rw [HF.out, ← HE.out]; rfl, HBe.out⟩
 ·have hK0 : ¬ K < 0 := by
   rw [← HK.out]
   rcases Nat.lt_or_ge P A with h | h
   ·have := cmpI_pos.2 h; omega
   ·rw [Nat.le_antisymm h (by omega), cmpI_self]; decide
  have HF : Hold (ANS = false) := ⟨by rw [← HANS.out]; exact decide_eq_false fun h => hlt h.2.1⟩
  have HBe : Hold _ := ⟨bstep HB.out HB1.out⟩
  clear hlt
  go_wp2
  go_ret
  exact ⟨by rw [HF.out]; rfl, HBe.out⟩
end Go.Proofs.YtcbhgfiafamflaaGreatDoor
