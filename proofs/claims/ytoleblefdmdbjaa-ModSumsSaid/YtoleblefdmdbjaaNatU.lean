/- The document's number of bytes. -/
import Derived.Test.YtoleblefdmdbjaaNatT
namespace Go.Proofs.Ytoleblefdmdbjaa
open Go Go.RowKit Go.Proofs.Ytoleblefdmdbjaa.Flow

theorem bit_be {bs : List Nat} (h : Bytes8 bs) {j k m : Nat} (hm : j + m + 1 = bs.length) (hk : k < 8) : bit (be bs) (8 * j + k) = decide (bs.getD m 0 / 2 ^ k % 2 = 1) := by
  refine bit_byte ?_ hk
  unfold be
  rw [le_div _ h.reverse, getD_rev (by omega)]
  congr 1; omega

set_option maxHeartbeats 1000000 in
set_option maxRecDepth 100000 in
theorem of_calls (w : World) (p : Option Addr) (n c : Nat) (bs : List Nat) (h : RowIn w .u8 p n c bs) (hb8 : Bytes8 bs) (hn : n ≤ 1000) :
    Calls Try.prog 55 #[.slice p n c] w (GivesBits (be bs) w) := by
  obtain ⟨i0, hi, hz0, hz1, hz2⟩ := info_parts Try.info_bool
  have HL := Lib.hid h.len
  have hown := World.ownsRow_made w (base := w.heap.size) (e := 4) (size := 1) #[] 0 (Nat.le_refl _) (by simp [maxLen]) (by simp)
  obtain ⟨N, hN⟩ : ∃ N, be bs = N := ⟨_, rfl⟩
  have HN := Lib.hid hN
  clear hN
  go_enter Try.func55, Try.ntmps55
  go_wp2
  go_loopw [3, 4, 5] (fun v i _ wr => ∃ j m : Nat, j + m ≤ n ∧ n ≤ j + m ∧ i = .int .i64 ((m : Int) - 1) ∧ wr.ownsRow w.heap.size 4 1 v (8 * j) ((bitsUp N (8 * j)).map Value.bool) ∧ Below w.heap.size w wr) (fun _ i _ _ => (intOf i + 1).toNat)
  case atStart =>
    refine ⟨0, n, by omega, by omega, rfl, ?_, (Below.refl _ _).alloc (Nat.le_refl _) _⟩
    simpa [bitsUp] using hown
  case round =>
    obtain ⟨j, m, hj1, hj2, rfl, ho, hbw⟩ := hrel
    cases m with
    | zero =>
      have hjn : j = n := by omega
      have HJ := Lib.hid hjn
      clear hjn
      obtain ⟨q, d, rfl, hrow, hnew⟩ := BRow.of_owns ho
      have hlt : N < 2 ^ (8 * j) := by
        have := hb8.reverse.lt
        rw [← HN.out]
        unfold be
        rw [B8_pow] at this
        rw [HJ.out, HL.out]
        simpa using this
      have HLT := Lib.hid hlt
      clear hlt
      go_wp2_with fail
      refine (trimB_calls wr q (8 * j) d N hrow HLT.out).mono ?_
      rintro e w1 ⟨m, rfl, hm, rfl⟩
      go_wp2
      go_ret
      rw [HN.out]
      exact ⟨q, m, d, rfl, hm, hbw, hnew⟩
    | succ m =>
      obtain ⟨b, off, rfl, hb, hc⟩ := (h.row (by omega)).pos (by omega)
      obtain ⟨x, hx⟩ : ∃ x, bs.getD m 0 = x := ⟨_, rfl⟩
      have hci : w.cell? ⟨b, off + m, none⟩ = some (.int .u8 (x : Nat)) := hc m x (by rw [← hx, List.getD_eq_getElem?_getD]; simp [show m < bs.length by have := HL.out; omega])
      have hx8 : x < 256 := by rw [← hx]; exact hb8.get m
      have HX := Lib.hid hx
      clear hc hx
      have e1 : (((m + 1 : Nat) : Int) - 1) = (m : Int) := by omega
      simp only [e1]
      clear e1
      obtain ⟨wo, rfl⟩ : ∃ wo : World, wo = wr := ⟨_, rfl⟩
      go_wp2
      go_loopw [3, 5] (fun v k wr => ∃ q : Nat, q ≤ 8 ∧ k = .int .i64 q ∧ wr.ownsRow w.heap.size 4 1 v (8 * j + q) ((bitsUp N (8 * j + q)).map Value.bool) ∧ Below w.heap.size w wr) (fun _ k _ => 8 - (intOf k).toNat)
      case atStart => exact ⟨0, by omega, rfl, ho, hbw⟩
      case round =>
        obtain ⟨q, hq, rfl, ho2, hbw2⟩ := hrel
        by_cases hq8 : q < 8
        · have hq8' : q < 8 := hq8
          have hbt : bit N (8 * j + q) = (((x : Int) / 2 ^ q).tmod 2 == 1) := by
            rw [← HN.out, bit_be hb8 (m := m) (by have := HL.out; omega) hq8', HX.out, Bool.eq_iff_iff]
            have e : ((x : Int) / 2 ^ q) = ((x / 2 ^ q : Nat) : Int) := by simp [Int.natCast_ediv]
            rw [e, Int.tmod_eq_emod_of_nonneg (Int.natCast_nonneg _)]
            simp only [decide_eq_true_eq, beq_iff_eq]
            omega
          have HB := Lib.hid hbt
          clear hbt hq8'
          have hci2 : wr.cell? ⟨b, off + m, none⟩ = some (.int .u8 (x : Nat)) := by rw [(bcell hbw2).1 _ _ hb]; exact hci
          go_wp2_with (at_builtin; refine wpList_append_own _ rfl _ _ 31 rfl w.heap.size 4 i0 (.bool false) 1 1 Try.underlying31 hi hz0 hz1 hz2 rfl (by decide) _ _ _ rfl (ho2.alloc _) ⟨wr.heap.size, 0, none⟩ 1 1 [.bool (((x : Int) / 2 ^ q).tmod 2 == 1)] rfl rfl ?c1 ?c2 ?c3 ?c4 ?c5 ?_)
          case c1 =>
            intro jj u hj
            match jj, hj with
            | 0, hj => simp at hj; subst hj; simp [Addr.add]
          case c2 => intro u hu; simp at hu; subst hu; rfl
          case c3 => unfold maxLen; omega
          case c4 => omega
          case c5 => have := hbw2.size; simp; omega
          intro v' w1 ho' hg _
          have hbw1 : Below w.heap.size w w1 := (hbw2.alloc hbw2.size _).grown hg (by have := hbw2.size; simp; omega) (fun j hj => (ho2.lt j hj).1)
          have ho1 : w1.ownsRow w.heap.size 4 1 v' (8 * j + (q + 1)) ((bitsUp N (8 * j + (q + 1))).map Value.bool) := by
            rw [← Nat.add_assoc, bitsUp_succ, List.map_append, HB.out]; exact ho'
          clear ho' hg ho2
          go_wp2
          go_roundw
          case rel => exact ⟨q + 1, by omega, by go_num, ho1, hbw1⟩
          case measure => simp [intOf]; omega
        · have hq9 : q = 8 := by omega
          subst hq9
          go_wp2
          go_roundw
          case rel => exact ⟨j + 1, m, by omega, by omega, rfl, ho2, hbw2⟩
          case measure => simp [intOf]

end Go.Proofs.Ytoleblefdmdbjaa
