/- So many bytes of a key, by the document. -/
import Derived.Test.YtnpobaaaoelalaaDoorMacE
namespace Go.Proofs.YtnpobaaaoelalaaDoor
open Go Go.RowKit Go.Proofs.YtnpobaaaoelalaaDoor.Flow

set_option maxHeartbeats 4000000 in
set_option maxRecDepth 100000 in
theorem refexpand_calls (w : World) (pk : Option Addr) (nk ck : Nat) (key : List Nat) (pi : Option Addr) (ni ci : Nat) (info : List Nat) (n : Nat) (hr : PartOk w ⟨pk, nk, ck, key⟩) (hzk : pk = none → ck = 0) (hI : PartOk w ⟨pi, ni, ci, info⟩) (hzi : pi = none → ci = 0)
    (hnk : nk ≤ 1000) (hni : ni ≤ 1000) (hn : n ≤ 8160) :
    Calls Tryd.prog 31 #[.slice pk nk ck, .slice pi ni ci, .int .i64 n] w (GivesOwn ((exps key info ((n + 31) / 32)).take n) w) := by
  have HI : Hold (PartOk w ⟨pi, ni, ci, info⟩) := ⟨hI⟩
  have HKy : Hold (PartOk w ⟨pk, nk, ck, key⟩) := ⟨hr⟩
  have HZ : Hold ((pk = none → ck = 0) ∧ (pi = none → ci = 0)) := ⟨hzk, hzi⟩
  obtain ⟨K, hK⟩ : ∃ K, (n + 31) / 32 = K := ⟨_, rfl⟩
  have hKn : n ≤ 32 * K := by omega
  have hKm : 32 * K < n + 32 := by omega
  have hK255 : K ≤ 255 := by omega
  rw [hK]
  clear hK hI hr hzk hzi
  have HO0 : Hold (Own ((w.alloc (.cells #[] 5)).alloc (.cells #[] 5)) w.heap.size (.slice (some ⟨w.heap.size, 0, none⟩) 0 0) (exps key info 0)) := ⟨(Own.lit w [] (by decide)).belowS ((Below.refl _ _).alloc (Nat.le_refl _) _)⟩
  have HL0 : Hold (OwnIs w.heap.size (tks key info 0) (.slice (some ⟨w.heap.size + 1, 0, none⟩) 0 0) ((w.alloc (.cells #[] 5)).alloc (.cells #[] 5))) := ⟨by
    have h := Own.lit (w.alloc (.cells #[] 5)) [] (by decide)
    rw [show (w.alloc (.cells #[] 5)).heap.size = w.heap.size + 1 by simp] at h
    exact OwnIs.mk (h.mono (Nat.le_succ _))⟩
  have HB0 : Hold (Below w.heap.size w ((w.alloc (.cells #[] 5)).alloc (.cells #[] 5))) := ⟨((Below.refl _ _).alloc (Nat.le_refl _) _).alloc (by simp) _⟩
  go_enter Tryd.func31, Tryd.ntmps31
  go_wp2
  go_loopw [7, 8, 9] (fun x y i wr => ∃ (k : Nat) (u v : Value), k ≤ K ∧ u = x ∧ v = y ∧ i = .int .i64 ((k + 1 : Nat) : Int) ∧ Hold (Own wr w.heap.size u (exps key info k)) ∧ Hold (OwnIs w.heap.size (tks key info k) v wr) ∧ Hold (Below w.heap.size w wr)) (fun _ _ i _ => K + 1 - (intOf i).toNat)
  case atStart => exact ⟨0, _, _, by omega, rfl, rfl, rfl, HO0, HL0, HB0⟩
  case round =>
    obtain ⟨k, u, v, hk, rfl, rfl, rfl, HU, HV, HB⟩ := hrel
    have hsz := HB.out.size
    obtain ⟨pu, cu, rfl, ru, nu, zu, _⟩ := HU.out.elim
    have hlu : (exps key info k).length = 32 * k := exps_length key info k
    rw [hlu] at ru HU ⊢
    clear hlu
    by_cases hkK : k < K
    · have ht : 32 * (k : Int) < n := by omega
      obtain ⟨p, c, rfl, rv, zv⟩ : ∃ p c, v = .slice p (tks key info k).length c ∧ RowIn wr .u8 p (tks key info k).length c (tks key info k) ∧ (p = none → c = 0) := by
        have h := HV.out
        cases h with
        | of p c _ h hn hz hp => exact ⟨p, c, rfl, h, hz⟩
      have hlt : (tks key info k).length ≤ 32 := by
        cases k with
        | zero => simp [tks]
        | succ k => rw [tks_length]; exact Nat.le_refl _
      obtain ⟨T, hT⟩ : ∃ T, tks key info k = T := ⟨_, rfl⟩
      have HT : Hold (tks key info k = T) := ⟨hT⟩
      have HT8 : Hold (Bytes8 T) := ⟨by rw [← hT]; exact tks_bytes key info k⟩
      rw [hT] at rv hlt ⊢
      have hba : Below wr.heap.size wr (wr.alloc (.cells #[.int .u8 ((k + 1 : Nat) : Int)] 5)) := (Below.refl _ _).alloc (Nat.le_refl _) _
      have HWa : Hold (Below w.heap.size w (wr.alloc (.cells #[.int .u8 ((k + 1 : Nat) : Int)] 5))) := ⟨bstepS HB.out hba⟩
      have hP := parts3 (wr.alloc (.cells #[.int .u8 ((k + 1 : Nat) : Int)] 5)) ⟨p, T.length, c, T⟩ ⟨pi, ni, ci, info⟩ ⟨some ⟨wr.heap.size, 0, none⟩, 1, 1, [k + 1]⟩ ⟨rv.below hba, HT8.out⟩ (HI.out.below HWa.out) ⟨lit_row wr [k + 1] (show 1 ≤ 9223372036854775807 by decide), fun x hx => by obtain rfl := List.mem_singleton.1 hx; omega⟩
      rw [show (wr.alloc (.cells #[.int .u8 ((k + 1 : Nat) : Int)] 5)).heap.size = wr.heap.size + 1 by simp] at hP
      have HP : Hold _ := ⟨hP⟩
      have HZP : Hold (Whole0 [(⟨p, T.length, c, T⟩ : Part), ⟨pi, ni, ci, info⟩, ⟨some ⟨wr.heap.size, 0, none⟩, 1, 1, [k + 1]⟩]) := ⟨fun P hP => by
        rcases List.mem_cons.1 hP with rfl | hP
        · exact zv
        · rcases List.mem_cons.1 hP with rfl | hP
          · exact HZ.out.2
          · obtain rfl := List.mem_singleton.1 hP
            exact fun h => by cases h⟩
      have hbp : Below (wr.alloc (.cells #[.int .u8 ((k + 1 : Nat) : Int)] 5)).heap.size (wr.alloc (.cells #[.int .u8 ((k + 1 : Nat) : Int)] 5)) ((wr.alloc (.cells #[.int .u8 ((k + 1 : Nat) : Int)] 5)).alloc (.cells #[.slice p T.length c, .slice pi ni ci, .slice (some ⟨wr.heap.size, 0, none⟩) 1 1] 25)) := (Below.refl _ _).alloc (Nat.le_refl _) _
      have HBp : Hold (Below wr.heap.size wr ((wr.alloc (.cells #[.int .u8 ((k + 1 : Nat) : Int)] 5)).alloc (.cells #[.slice p T.length c, .slice pi ni ci, .slice (some ⟨wr.heap.size, 0, none⟩) 1 1] 25))) := ⟨bstepS hba hbp⟩
      have HWh : Hold (whole [(⟨p, T.length, c, T⟩ : Part), ⟨pi, ni, ci, info⟩, ⟨some ⟨wr.heap.size, 0, none⟩, 1, 1, [k + 1]⟩] = T ++ (info ++ [k + 1])) := ⟨by simp [whole]⟩
      have HWl : Hold ((T ++ (info ++ [k + 1])).length ≤ 2000) := ⟨by
        have hIl := HI.out.row.len
        dsimp only at hIl
        simp
        omega⟩
      clear hP hba hbp rv hT
      go_wp2_with fail
      refine calls_at (w1 := (wr.alloc (.cells #[.int .u8 ((k + 1 : Nat) : Int)] 5)).alloc (.cells #[.slice p T.length c, .slice pi ni ci, .slice (some ⟨wr.heap.size, 0, none⟩) 1 1] 25)) (by kernel_rfl) ?_
      refine (join_calls _ (some ⟨wr.heap.size + 1, 0, none⟩) 3 3 _ HP.out HZP.out (by rw [HWh.out]; have := HWl.out; omega)).mono ?_
      rintro e w4 ⟨v4, rfl, ho4, hb4⟩
      rw [HWh.out] at ho4
      obtain ⟨Y, hY⟩ : ∃ Y, T ++ (info ++ [k + 1]) = Y := ⟨_, rfl⟩
      rw [hY] at ho4 HWl
      have HTk : Hold (hmac key Y = tks key info (k + 1) ∧ Bytes8 Y) := ⟨by rw [← hY, tks, HT.out, Nat.mod_eq_of_lt (show k + 1 < 256 by omega)], by
        rw [← hY]
        intro x hx
        rcases List.mem_append.1 hx with h | h
        · exact HT8.out x h
        · rcases List.mem_append.1 h with h | h
          · exact HI.out.bytes x h
          · obtain rfl := List.mem_singleton.1 h; omega⟩
      obtain ⟨p4, c4, _, r4, n4, z4, _⟩ := ho4
      have HB4 : Hold (Below wr.heap.size wr w4) := ⟨bstepS HBp.out hb4⟩
      have HBw4 : Hold (Below w.heap.size w w4) := ⟨bstepS HB.out HB4.out⟩
      have hK4 := HKy.out.below HBw4.out
      clear hY HP HZP HBp HWh n4 hb4
      go_wp2_with fail
      refine (reftag_calls w4 pk nk ck key p4 Y.length c4 Y hK4.row hK4.bytes HZ.out.1 hnk ⟨r4, HTk.out.2⟩ z4 (by have := HWl.out; omega)).mono ?_
      rintro e w5 ⟨v5, rfl, ho5, hb5⟩
      rw [HTk.out.1] at ho5
      obtain ⟨p5, c5, _, r5, n5, z5, l5⟩ := ho5
      rw [tks_length] at r5 ⊢
      have HB5 : Hold (Below wr.heap.size wr w5) := ⟨bstepS HB4.out hb5⟩
      have HBw5 : Hold (Below w.heap.size w w5) := ⟨bstepS HB.out HB5.out⟩
      have hz4 := HB4.out.size
      have HU5 : Hold (Own w5 w.heap.size (.slice pu (32 * k) cu) (exps key info k)) := ⟨HU.out.belowS HB5.out⟩
      have HQN : Hold (∀ g, (Value.slice pu (32 * k) cu).ownBlock = some g → ∀ q, p5 = some q → q.block ≠ g) := ⟨fun g hg q hq => by
        have := HU.out.lt g hg
        have := n5 q hq
        omega⟩
      have HR5 : Hold (RowIn w5 .u8 p5 32 c5 (tks key info (k + 1))) := ⟨r5⟩
      have HZ5 : Hold ((p5 = none → c5 = 0) ∧ (∀ q, p5 = some q → q.block < w5.heap.size) ∧ New w.heap.size p5) := ⟨z5, l5, n5.mono (by omega)⟩
      have hmx : Hold ((exps key info k).length + 32 ≤ 140737488355328) := ⟨by rw [exps_length]; omega⟩
      have hs5 := HBw5.out.size
      clear r5 n5 z5 l5 r4 z4 hK4 hb5
      go_wp2_with (at_builtin; refine wpList_app rfl _ _ rfl rfl HU5.out rfl HR5.out HZ5.out.1 hmx.out hs5 ?_; intro v6 w6 ho6 hg6; refine Paused.out ?_)
      refine ⟨?_⟩
      have hr6 : RowIn w6 .u8 p5 32 c5 (tks key info (k + 1)) := HR5.out.grown hg6 (fun a ha e => HQN.out _ e.symm a ha rfl)
      have HV6 : Hold (OwnIs w.heap.size (tks key info (k + 1)) (.slice p5 32 c5) w6) := ⟨by
        have h := OwnIs.of (lo := w.heap.size) (bs := tks key info (k + 1)) p5 c5 w6 (by rw [tks_length]; exact hr6) HZ5.out.2.2 HZ5.out.1 (fun q hq => Nat.lt_of_lt_of_le (HZ5.out.2.1 q hq) hg6.size)
        rw [tks_length] at h
        exact h⟩
      have HU6 : Hold (Own w6 w.heap.size v6 (exps key info (k + 1))) := ⟨ho6⟩
      have HB6 : Hold (Below w.heap.size w w6) := ⟨HBw5.out.trans (grown_below hg6 hs5 HU5.out.ge)⟩
      clear hr6 ho6 hg6
      go_wp2
      go_roundw
      case rel => exact ⟨k + 1, _, _, by omega, rfl, rfl, by go_num, HU6, HV6, HB6⟩
      case measure => simp [intOf]; omega
    · obtain rfl : k = K := by omega
      have ht : ¬ 32 * (k : Int) < n := by omega
      have hcc := ru.cap
      have hcm := ru.max
      have hl : ((exps key info k).take n).length = n := by rw [List.length_take, exps_length]; omega
      have hx : OwnIs w.heap.size ((exps key info k).take n) (.slice pu n cu) wr := by
        have h := OwnIs.of (lo := w.heap.size) (bs := (exps key info k).take n) pu cu wr (by rw [hl]; exact ru.take n hKn) nu zu (fun q hq => by
          subst hq
          exact HU.out.lt q.block rfl)
        rw [hl] at h
        exact h
      have HX : Hold _ := ⟨hx⟩
      clear hx hl ru nu zu HU HV
      go_wp2
      go_ret
      exact ⟨_, rfl, HX.out, HB.out⟩
end Go.Proofs.YtnpobaaaoelalaaDoor
