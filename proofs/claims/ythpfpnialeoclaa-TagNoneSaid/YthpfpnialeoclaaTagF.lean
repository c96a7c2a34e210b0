/- tag: a number out of bytes, the key's factor, the lowest bytes of a number, the ring. -/
import Derived.Test.YthpfpnialeoclaaSliB
import Derived.Test.YthpfpnialeoclaaTagO
import Derived.Test.YthpfpnialeoclaaRing
import Derived.Test.YthpfpnialeoclaaNatI
import Derived.Test.YthpfpnialeoclaaNatK
namespace Go.Proofs.Ythpfpnialeoclaa
open Go Go.RowKit Go.Proofs.Ythpfpnialeoclaa.Flow

theorem be_rev (bs : List Nat) : be bs.reverse = le bs := by unfold be; rw [List.reverse_reverse]

set_option maxHeartbeats 1000000 in
set_option maxRecDepth 100000 in
theorem number_fit (w : World) (p : Option Addr) (n c : Nat) (bs : List Nat) (h : RowIn w .u8 p n c bs) (hz : p = none → c = 0) (h8 : Bytes8 bs) (h0 : 0 < n) (hn : n ≤ 100) :
    Calls Try.prog 10 #[.slice p n c] w fun e w' => ∃ v, e = .returned v ∧ Fit 32 (le bs) v w' ∧ Below w.heap.size w w' := by
  have hb0 : Below w.heap.size w (w.alloc (.cells #[.slice none 0 0] 32)) := (Below.refl _ _).alloc (Nat.le_refl _) _
  have hbx : Hold (NatBox (w.alloc (.cells #[.slice none 0 0] 32)) w.heap.size (.slice none 0 0)) := ⟨NatBox.made w _⟩
  have HR : Hold (RowIn (w.alloc (.cells #[.slice none 0 0] 32)) .u8 p n c bs) := ⟨h.below hb0⟩
  have HL : Hold (n = bs.length) := ⟨h.len⟩
  have H8 : Hold (Bytes8 bs) := ⟨h8⟩
  have HB0 : Hold _ := ⟨hb0⟩
  have HLe : Hold (le bs < B32 32) := ⟨by
    have h1 := h8.lt
    have h2 : B8 bs.length ≤ B8 (4 * 32) := B8_mono (by rw [← h.len]; omega)
    rw [B8_four] at h2
    exact Nat.lt_of_lt_of_le h1 h2⟩
  clear h h8 hb0
  go_enter Try.func10, Try.ntmps10
  go_wp2_with fail
  refine (clone8_calls _ p n c bs HR.out hz (by omega)).mono ?_
  rintro e w1 ⟨v1, rfl, ho1, hb1⟩
  obtain ⟨g, cg, rfl, hgw, hgl⟩ := ho1.there (by rw [← HL.out]; exact h0)
  rw [← HL.out] at ho1
  rw [← HL.out]
  have HO1 : Hold _ := ⟨ho1⟩
  have HB1 : Hold _ := ⟨hb1⟩
  clear ho1 hb1
  go_wp2_with fail
  refine (reverse8_calls w1 _ g n cg bs HO1.out HL.out (by omega)).mono ?_
  rintro e w2 ⟨⟨v2, rfl⟩, ho2, hbut⟩
  have hgw' : w.heap.size + 1 ≤ g := by simpa using hgw
  have hb2 : Below (w.heap.size + 1) w1 w2 := hbut.below hgw' (by have := HB1.out.size; simpa using this)
  have hbx2 := (hbx.out.below HB1.out (by simp)).below hb2 (by omega)
  obtain ⟨p2, c2, e2, hrow2, _, hz2, _⟩ := ho2.elim
  rw [List.length_reverse, ← HL.out] at e2 hrow2
  obtain ⟨rfl, _, rfl⟩ := Value.slice.inj e2
  have HR2 : Hold _ := ⟨hrow2⟩
  have HX2 : Hold _ := ⟨hbx2⟩
  have HB2 : Hold (Below w.heap.size w w2) := ⟨(HB0.out.trans (HB1.out.mono (by simp))).trans (hb2.mono (by omega))⟩
  have hsz2 : w.heap.size < w2.heap.size := hbx2.lt
  clear ho2 hbut hb2 hbx2 hrow2 e2 hz2
  go_wp2_with fail
  refine (fromBytes_calls w2 _ n cg bs.reverse HR2.out H8.out.reverse (by omega)).mono ?_
  rintro e w3 ⟨q, m, d, rfl, hn3, hb3, _⟩
  rw [be_rev] at hn3
  have hbx3 := HX2.out.below hb3 HX2.out.lt
  have HN3 : Hold _ := ⟨hn3⟩
  have hbx4 : NatBox (w3.alloc (.cells #[.slice q m d] 32)) w.heap.size (.slice none 0 0) := hbx3.below ((Below.refl _ _).alloc (Nat.le_refl _) _) hbx3.lt
  have c4 := hbx4.cell
  have f4 := hbx4.free
  have HX4 : Hold _ := ⟨hbx4⟩
  have HB3 : Hold (Below w.heap.size w (w3.alloc (.cells #[.slice q m d] 32))) := ⟨bstep' HB2.out (hb3.alloc hb3.size _)⟩
  clear hn3 hb3 hbx3 hbx4
  go_wp2
  refine bodyPost_ret (v := .agg #[.slice q m d]) (by simp [results, Try.results10, go_sem, c4]) rfl ⟨_, rfl, Fit.of ((HN3.out.below ((Below.refl _ _).alloc (Nat.le_refl _) _)).store HX4.out _) HLe.out, HB3.out.setCell (Nat.le_refl _) _⟩

theorem and15 {x : Nat} (h : x < 256) : bits BinOp.and IntKind.u8 (x : Int) 15 = ((x % 16 : Nat) : Int) := by
  have key : ∀ x : Fin 256, bits BinOp.and IntKind.u8 (x.1 : Int) 15 = ((x.1 % 16 : Nat) : Int) := by decide +kernel
  exact key ⟨x, h⟩
theorem and252 {x : Nat} (h : x < 256) : bits BinOp.and IntKind.u8 (x : Int) 252 = ((x / 4 * 4 : Nat) : Int) := by
  have key : ∀ x : Fin 256, bits BinOp.and IntKind.u8 (x.1 : Int) 252 = ((x.1 / 4 * 4 : Nat) : Int) := by decide +kernel
  exact key ⟨x, h⟩

set_option maxHeartbeats 4000000 in
set_option maxRecDepth 100000 in
theorem factor_fit (w : World) (p : Option Addr) (c : Nat) (bs : List Nat) (h : RowIn w .u8 p 16 c bs) (hz : p = none → c = 0) (h8 : Bytes8 bs) :
    Calls Try.prog 9 #[.slice p 16 c] w fun e w' => ∃ v, e = .returned v ∧ Fit 32 (le (clamp bs)) v w' ∧ Below w.heap.size w w' := by
  have hb0 : Below w.heap.size w (w.alloc (.cells #[.slice none 0 0] 32)) := (Below.refl _ _).alloc (Nat.le_refl _) _
  have hbx : Hold (NatBox (w.alloc (.cells #[.slice none 0 0] 32)) w.heap.size (.slice none 0 0)) := ⟨NatBox.made w _⟩
  have HR : Hold (RowIn (w.alloc (.cells #[.slice none 0 0] 32)) .u8 p 16 c bs) := ⟨h.below hb0⟩
  have HL : Hold (16 = bs.length) := ⟨h.len⟩
  have H8 : Hold (Bytes8 bs) := ⟨h8⟩
  have HB0 : Hold _ := ⟨hb0⟩
  clear h h8 hb0
  go_enter Try.func9, Try.ntmps9
  go_wp2_with fail
  refine (clone8_calls _ p 16 c bs HR.out hz (by decide)).mono ?_
  rintro e w1 ⟨v1, rfl, ho1, hb1⟩
  obtain ⟨g, cg, rfl, hgw, hgl⟩ := ho1.there (by rw [← HL.out]; decide)
  rw [← HL.out] at ho1
  rw [← HL.out]
  have hgw' : w.heap.size + 1 ≤ g := by simpa using hgw
  have hbx1 := hbx.out.below hb1 (by simp)
  have hsz1 : w.heap.size + 1 ≤ w1.heap.size := hbx1.lt
  have HX1 : Hold _ := ⟨hbx1⟩
  have HO1 : Hold (Own w1 (w.heap.size + 1) (.slice (some ⟨g, 0, none⟩) 16 cg) bs) := ⟨ho1.mono (by simp)⟩
  have HB1 : Hold (Below w.heap.size w w1) := ⟨bstep' HB0.out hb1⟩
  clear ho1 hb1 hbx1 hgw
  go_wp2
  go_loopw [10] (fun i wr => ∃ k : Nat, k ≤ 4 ∧ i = .int .i64 k ∧ Hold (Own wr (w.heap.size + 1) (.slice (some ⟨g, 0, none⟩) 16 cg) (low4 bs (four.take k))) ∧ Hold (Below (w.heap.size + 1) w1 wr)) (fun i _ => 4 - (intOf i).toNat)
  case atStart => exact ⟨0, by omega, rfl, HO1, ⟨Below.refl _ _⟩⟩
  case round =>
    obtain ⟨k, hk4, rfl, HO, HBl⟩ := hrel
    by_cases hk : k < 4
    · obtain ⟨I, hI⟩ : ∃ I, four.getD k 0 = I := ⟨_, rfl⟩
      have hix := idx4 k hk
      have hI16 : I < 16 := by rw [← hI]; rcases (by omega : k = 0 ∨ k = 1 ∨ k = 2 ∨ k = 3) with rfl | rfl | rfl | rfl <;> decide
      have HT : Hold (four.take (k + 1) = four.take k ++ [I]) := ⟨by rw [← hI]; rcases (by omega : k = 0 ∨ k = 1 ∨ k = 2 ∨ k = 3) with rfl | rfl | rfl | rfl <;> rfl⟩
      rw [hI] at hix
      clear hI
      obtain ⟨x, hx⟩ : ∃ x, (low4 bs (four.take k)).getD I 0 = x := ⟨_, rfl⟩
      have hci := HO.out.cell (i := I) (x := x) (by rw [← hx, List.getD_eq_getElem?_getD, List.getElem?_eq_getElem (by rw [low4_length, ← HL.out]; exact hI16)]; rfl)
      have hfr := HO.out.free I
      have HS : Hold _ := ⟨HO.out.set I (x % 16)⟩
      have HR : Hold (low4 bs (four.take (k + 1)) = (low4 bs (four.take k)).set I (x % 16)) := ⟨by rw [HT.out, low4_snoc, hx]⟩
      have hx8 : x < 256 := by rw [← hx]; exact (low4_bytes H8.out _).get I
      have hand := and15 hx8
      have HB1 : Hold (Below (w.heap.size + 1) w1 (wr.setCell ⟨g, I, none⟩ (.int .u8 ((x % 16 : Nat) : Int)))) := ⟨HBl.out.grown HS.out.2 (by have := HBl.out.size; omega) (fun j hj => by cases hj; exact hgw')⟩
      clear hx
      go_wp2
      go_roundw
      case rel => exact ⟨k + 1, by omega, by go_num, ⟨by rw [HR.out]; exact HS.out.1⟩, HB1⟩
      case measure => simp [intOf]; omega
    · obtain rfl : k = 4 := by omega
      rw [show four.take 4 = four from rfl] at HO
      obtain ⟨R1, hR1⟩ : ∃ R, low4 bs four = R := ⟨_, rfl⟩
      rw [hR1] at HO
      have HR1 : Hold (R1 = low4 bs four) := ⟨by rw [hR1]⟩
      have hl1 : Hold (R1.length = 16) := ⟨by rw [← hR1, low4_length, ← HL.out]⟩
      have h81 : Hold (Bytes8 R1) := ⟨by rw [HR1.out]; exact low4_bytes H8.out _⟩
      clear hR1 HO1
      go_wp2
      go_loopw [21] (fun i w3 => ∃ k : Nat, k ≤ 3 ∧ i = .int .i64 k ∧ Hold (Own w3 (w.heap.size + 1) (.slice (some ⟨g, 0, none⟩) 16 cg) (high6 R1 (three.take k))) ∧ Hold (Below (w.heap.size + 1) w1 w3)) (fun i _ => 3 - (intOf i).toNat)
      case atStart => exact ⟨0, by omega, rfl, HO, HBl⟩
      case round =>
        obtain ⟨k, hk4, rfl, HO, HBl⟩ := hrel
        by_cases hk : k < 3
        · obtain ⟨I, hI⟩ : ∃ I, three.getD k 0 = I := ⟨_, rfl⟩
          have hix := idx3 k hk
          have hI16 : I < 16 := by rw [← hI]; rcases (by omega : k = 0 ∨ k = 1 ∨ k = 2) with rfl | rfl | rfl <;> decide
          have HT : Hold (three.take (k + 1) = three.take k ++ [I]) := ⟨by rw [← hI]; rcases (by omega : k = 0 ∨ k = 1 ∨ k = 2) with rfl | rfl | rfl <;> rfl⟩
          rw [hI] at hix
          clear hI
          obtain ⟨x, hx⟩ : ∃ x, (high6 R1 (three.take k)).getD I 0 = x := ⟨_, rfl⟩
          have hci := HO.out.cell (i := I) (x := x) (by rw [← hx, List.getD_eq_getElem?_getD, List.getElem?_eq_getElem (by rw [high6_length, hl1.out]; exact hI16)]; rfl)
          have hfr := HO.out.free I
          have HS : Hold _ := ⟨HO.out.set I (x / 4 * 4)⟩
          have HR : Hold (high6 R1 (three.take (k + 1)) = (high6 R1 (three.take k)).set I (x / 4 * 4)) := ⟨by rw [HT.out, high6_snoc, hx]⟩
          have hx8 : x < 256 := by rw [← hx]; exact (high6_bytes h81.out _).get I
          have hand := and252 hx8
          have HB1 : Hold (Below (w.heap.size + 1) w1 (wr.setCell ⟨g, I, none⟩ (.int .u8 ((x / 4 * 4 : Nat) : Int)))) := ⟨HBl.out.grown HS.out.2 (by have := HBl.out.size; omega) (fun j hj => by cases hj; exact hgw')⟩
          clear hx
          go_wp2
          go_roundw
          case rel => exact ⟨k + 1, by omega, by go_num, ⟨by rw [HR.out]; exact HS.out.1⟩, HB1⟩
          case measure => simp [intOf]; omega
        · obtain rfl : k = 3 := by omega
          rw [show three.take 3 = three from rfl] at HO
          obtain ⟨R, hR⟩ : ∃ R, high6 R1 three = R := ⟨_, rfl⟩
          rw [hR] at HO
          have HRc : Hold (R = clamp bs) := ⟨by rw [← hR, HR1.out]; rfl⟩
          have hlR : Hold (R.length = 16) := ⟨by rw [← hR, high6_length, hl1.out]⟩
          have h8R : Hold (Bytes8 R) := ⟨by rw [HRc.out]; exact clamp_bytes H8.out⟩
          obtain ⟨_, _, e, hrowR, _, _, _⟩ := HO.out.elim
          rw [hlR.out] at e hrowR
          simp only [Value.slice.injEq, true_and] at e
          obtain ⟨rfl, rfl⟩ := e
          have HRow : Hold _ := ⟨hrowR⟩
          have HX2 : Hold _ := ⟨HX1.out.below HBl.out (by omega)⟩
          clear hR HR1 hl1 h81 hrowR HO
          go_wp2_with fail
          refine (number_fit _ _ 16 _ R HRow.out (fun h => nomatch h) h8R.out (by decide) (by decide)).mono ?_
          rintro e w4 ⟨v4, rfl, hf4, hb4⟩
          obtain ⟨q, m, d, rfl, hn4, hlt4⟩ := hf4
          have hx4 := HX2.out.below hb4 HX2.out.lt
          have c4 := hx4.cell
          have f4 := hx4.free
          have HN4 : Hold _ := ⟨hn4⟩
          have HX4 : Hold _ := ⟨hx4⟩
          have HL4 : Hold _ := ⟨hlt4⟩
          have HB4 : Hold (Below w.heap.size w w4) := ⟨bstep' (HB1.out.trans (HBl.out.mono (by omega))) hb4⟩
          clear hn4 hx4 hlt4 hb4
          go_wp2
          refine bodyPost_ret (v := .agg #[.slice q m d]) (by simp [results, Try.results9, go_sem, c4]) rfl ⟨_, rfl, ?_, HB4.out.setCell (Nat.le_refl _) _⟩
          rw [← HRc.out]
          exact Fit.of (HN4.out.store HX4.out _) HL4.out

end Go.Proofs.Ythpfpnialeoclaa
