/- The document's tag. -/
import Derived.Test.YthpfpnialeoclaaNatO
import Derived.Test.YthpfpnialeoclaaTagM
import Derived.Test.YthpfpnialeoclaaTagL
import Derived.Test.YthpfpnialeoclaaRefN
import Derived.Test.YthpfpnialeoclaaTagN
import Derived.Test.YthpfpnialeoclaaTagX
/-! A number's bytes out of its bits. -/
namespace Go.Proofs.Ythpfpnialeoclaa
open Go Go.RowKit

theorem byte_more {M k i : Nat} (h : M < 2 ^ k) :
    (M + 2 ^ k) / B8 i % 256 = if i = k / 8 then M / B8 (k / 8) % 256 + 2 ^ (k % 8) else M / B8 i % 256 := by
  obtain ⟨q, r, rfl, hr, hq, hr'⟩ : ∃ q r, k = 8 * q + r ∧ r < 8 ∧ k / 8 = q ∧ k % 8 = r := ⟨k / 8, k % 8, by omega, by omega, rfl, rfl⟩
  rw [hq, hr']
  have e2 : 2 ^ (8 * q + r) = B8 q * 2 ^ r := by rw [Nat.pow_add, ← B8_pow]
  rw [e2] at h ⊢
  have h2 : 2 ^ r * 2 ≤ 256 := by
    rw [← Nat.pow_succ, show (256 : Nat) = 2 ^ 8 from rfl]
    exact Nat.pow_le_pow_right (by omega) (by omega)
  by_cases h1 : i = q
  · subst h1
    rw [if_pos rfl, Nat.add_mul_div_left _ _ (B8_pos i)]
    have h3 : M / B8 i < 2 ^ r := by rw [Nat.div_lt_iff_lt_mul (B8_pos i), Nat.mul_comm]; exact h
    generalize M / B8 i = z at *
    generalize 2 ^ r = y at *
    clear h e2
    omega
  · rw [if_neg h1]
    rcases Nat.lt_or_ge i q with h3 | h3
    · obtain ⟨d, rfl⟩ : ∃ d, q = i + (d + 1) := ⟨q - i - 1, by omega⟩
      rw [B8_add, Nat.mul_assoc, Nat.add_mul_div_left _ _ (B8_pos i), B8_succ, Nat.mul_assoc, Nat.add_mul_mod_self_left]
    · have h4 : B8 q * 256 ≤ B8 i := by rw [Nat.mul_comm, ← B8_succ]; exact B8_mono (by omega)
      have h5 : M + B8 q * 2 ^ r < B8 i := by
        refine Nat.lt_of_lt_of_le ?_ h4
        have h6 : B8 q * (2 ^ r * 2) ≤ B8 q * 256 := Nat.mul_le_mul_left _ h2
        rw [← Nat.mul_assoc] at h6
        omega
      rw [Nat.div_eq_of_lt h5, Nat.div_eq_of_lt (by omega)]

theorem bytes_bit {S k : Nat} (hk : k < 128) (hb : bit S k = true) :
    bytesLE (S % 2 ^ (k + 1)) 16 = (bytesLE (S % 2 ^ k) 16).set (k / 8) (S % 2 ^ k / B8 (k / 8) % 256 + 2 ^ (k % 8)) := by
  have hlt : S % 2 ^ k < 2 ^ k := Nat.mod_lt _ (Nat.pow_pos (by omega))
  rw [mod_bit, if_pos hb]
  apply List.ext_getElem?
  intro i
  rw [List.getElem?_set]
  by_cases hi : i < 16
  · rw [bytesLE_get hi, bytesLE_get hi, byte_more hlt, bytesLE_length]
    by_cases h1 : k / 8 = i
    · rw [if_pos h1, if_pos h1.symm, if_pos (by omega)]
    · rw [if_neg h1, if_neg (fun h => h1 h.symm)]
  · rw [List.getElem?_eq_none (by rw [bytesLE_length]; omega), if_neg (by omega), List.getElem?_eq_none (by rw [bytesLE_length]; omega)]
theorem bytes_nobit {S k : Nat} (hb : bit S k = false) : bytesLE (S % 2 ^ (k + 1)) 16 = bytesLE (S % 2 ^ k) 16 := by
  rw [mod_bit, hb]; simp
theorem bytes_high {S k : Nat} (hk : 128 ≤ k) : bytesLE (S % 2 ^ (k + 1)) 16 = bytesLE (S % 2 ^ k) 16 := by
  cases hb : bit S k with
  | false => exact bytes_nobit hb
  | true =>
    have hlt : S % 2 ^ k < 2 ^ k := Nat.mod_lt _ (Nat.pow_pos (by omega))
    rw [mod_bit, if_pos hb]
    apply List.ext_getElem?
    intro i
    by_cases hi : i < 16
    · rw [bytesLE_get hi, bytesLE_get hi, byte_more hlt, if_neg (by omega)]
    · rw [List.getElem?_eq_none (by rw [bytesLE_length]; omega), List.getElem?_eq_none (by rw [bytesLE_length]; omega)]
theorem byte_room {S k : Nat} : S % 2 ^ k / B8 (k / 8) % 256 + 2 ^ (k % 8) < 256 := by
  have hlt : S % 2 ^ k < 2 ^ k := Nat.mod_lt _ (Nat.pow_pos (by omega))
  have h := byte_more (i := k / 8) hlt
  rw [if_pos rfl] at h
  rw [← h]
  exact Nat.mod_lt _ (by omega)
theorem bytes_all {S : Nat} : bytesLE (S % 2 ^ blen S) 16 = bytesLE S 16 := by rw [Nat.mod_eq_of_lt (blen_lt S)]
theorem bytes_none (S : Nat) : bytesLE (S % 2 ^ 0) 16 = List.replicate 16 0 := by
  rw [Nat.pow_zero, Nat.mod_one]; simp [bytesLE, List.range_succ, List.replicate]
end Go.Proofs.Ythpfpnialeoclaa

namespace Go.Proofs.Ythpfpnialeoclaa
open Go Go.RowKit Go.Proofs.Ythpfpnialeoclaa.Flow

theorem idx4 (k : Nat) (hk : k < 4) (w : World) :
    (Instr.index 42 (.agg #[Value.int .i64 3, Value.int .i64 7, Value.int .i64 11, Value.int .i64 15]) (.int .i64 (k : Nat))).run Try.prog w = .ok (.int .i64 (four.getD k 0 : Nat)) w := by
  rcases (by omega : k = 0 ∨ k = 1 ∨ k = 2 ∨ k = 3) with rfl | rfl | rfl | rfl <;> kernel_rfl
theorem idx3 (k : Nat) (hk : k < 3) (w : World) :
    (Instr.index 43 (.agg #[Value.int .i64 4, Value.int .i64 8, Value.int .i64 12]) (.int .i64 (k : Nat))).run Try.prog w = .ok (.int .i64 (three.getD k 0 : Nat)) w := by
  rcases (by omega : k = 0 ∨ k = 1 ∨ k = 2) with rfl | rfl | rfl <;> kernel_rfl

theorem RowIn.drop {w : World} {k : IntKind} {b off n c : Nat} {xs : List Nat} (h : RowIn w k (some ⟨b, off, none⟩) n c xs) (m : Nat) (hm : m ≤ n) : RowIn w k (some ⟨b, off + m, none⟩) (n - m) (c - m) (xs.drop m) := by
  have hl := h.len
  have hc := h.cap
  have hx := h.max
  refine ⟨by rw [List.length_drop]; omega, by omega, by omega, fun h0 => ?_⟩
  obtain ⟨b', off', e, hb, hr⟩ := (h.row (by omega)).pos (by omega)
  simp only [Option.some.injEq, Addr.mk.injEq, and_true] at e
  obtain ⟨rfl, rfl⟩ := e
  refine ⟨by rw [List.length_drop]; omega, by omega, by omega, .inr ⟨b, off + m, rfl, hb, fun i x hx => ?_⟩⟩
  rw [Nat.add_assoc]
  exact hr (m + i) x (by rw [List.getElem?_drop] at hx; exact hx)
theorem blen_pp {A : Nat} (h : A < pp) : blen A ≤ 130 := (blen_le A 130).2 (Nat.lt_trans h (by decide))
theorem blen_bytes {xs : List Nat} (h : Bytes8 xs) {n : Nat} (hn : xs.length ≤ n) : blen (le xs) ≤ 8 * n := by
  rw [blen_le, ← B8_pow]
  exact Nat.lt_of_lt_of_le h.lt (B8_mono hn)

theorem make_u8' {i : Int} (n : Nat) (hi : i = (n : Nat)) (h : n ≤ 4294967296) (w : World) : (Instr.makeSlice 22 (.int .i64 i) (.int .i64 i)).run Try.prog w =
    .ok (.slice (some ⟨w.heap.size, 0, none⟩) n n) (w.alloc (.cells (zeros .u8 n) 5)) := by rw [hi]; exact make_u8 n h w

set_option maxHeartbeats 4000000 in
set_option maxRecDepth 100000 in
theorem refof_calls (w : World) (pk : Option Addr) (nk ck : Nat) (key : List Nat) (pb : Option Addr) (nb cb : Nat) (xs : List Nat)
    (hk : RowIn w .u8 pk nk ck key) (h8 : Bytes8 key) (hnk : nk = 32) (hb : RowIn w .u8 pb nb cb xs) (h8b : Bytes8 xs) (hnb : nb ≤ 1000) :
    Calls Try.prog 8 #[.slice pk nk ck, .slice pb nb cb] w (GivesOwn (tagOf key xs) w) := by
  subst hnk
  have hkl := hk.len
  have hkc := hk.cap
  have hkm := hk.max
  obtain ⟨bk, ok, rfl, hbk, hck⟩ := (hk.row (by omega)).pos (by omega)
  have HK : Hold (RowIn w .u8 (some ⟨bk, ok, none⟩) 32 ck key) := ⟨hk⟩
  have HX : Hold (RowIn w .u8 pb nb cb xs) := ⟨hb⟩
  have H8 : Hold (Bytes8 key) := ⟨h8⟩
  have H8b : Hold (Bytes8 xs) := ⟨h8b⟩
  have HCK : Hold _ := ⟨hck⟩
  have HKL : Hold (32 = key.length) := ⟨hkl⟩
  clear hk hb h8 h8b hck hkl
  have hbd : Below w.heap.size w (w.alloc (.cells #[] 5)) := (Below.refl _ _).alloc (Nat.le_refl _) _
  have hrow0 : Hold (RowIn (w.alloc (.cells #[] 5)) .u8 (some ⟨bk, ok, none⟩) 16 ck (key.take 16)) := ⟨(HK.out.below hbd).take 16 (by omega)⟩
  have HO0 : Hold (Own (w.alloc (.cells #[] 5)) w.heap.size (.slice (some ⟨w.heap.size, 0, none⟩) 0 0) []) := ⟨Own.lit w [] (by decide)⟩
  have hmx : Hold (([] : List Nat).length + 16 ≤ 140737488355328) := ⟨by simp⟩
  have hsz3 := hbd.size
  go_enter Try.func8, Try.ntmps8
  go_wp2_with (at_builtin; refine wpList_app rfl _ _ rfl rfl HO0.out rfl hrow0.out (fun h => nomatch h) hmx.out hsz3 ?_; intro v1 w2 ho1 hg1; refine Paused.out ?_)
  refine ⟨?_⟩
  rw [List.nil_append] at ho1
  have hb2 : Below w.heap.size w w2 := hbd.trans (grown_below hg1 hsz3 (fun b hb => by cases hb; exact Nat.le_refl _))
  clear hg1 hrow0 HO0 hmx hsz3 hbd
  obtain ⟨g, cg, rfl, hgw, hgl⟩ := ho1.there (by rw [List.length_take]; have := HKL.out; omega)
  have hl16 : Hold ((key.take 16).length = 16) := ⟨by rw [List.length_take]; have := HKL.out; omega⟩
  rw [hl16.out]
  rw [hl16.out] at ho1
  have HO1 : Hold _ := ⟨ho1⟩
  obtain ⟨R0, hR0⟩ : ∃ R, key.take 16 = R := ⟨_, rfl⟩
  rw [hR0] at HO1 hl16
  have HR0 : Hold _ := ⟨hR0⟩
  clear ho1 hR0
  go_wp2
  go_loopw [23] (fun i wr => ∃ k : Nat, k ≤ 4 ∧ i = .int .i64 k ∧ Hold (Own wr w.heap.size (.slice (some ⟨g, 0, none⟩) 16 cg) (low4 R0 (four.take k))) ∧ Hold (Below w.heap.size w wr)) (fun i _ => 4 - (intOf i).toNat)
  case atStart => exact ⟨0, by omega, rfl, HO1, ⟨hb2⟩⟩
  case round =>
    obtain ⟨k, hk4, rfl, HO, HBl⟩ := hrel
    by_cases hk : k < 4
    · obtain ⟨I, hI⟩ : ∃ I, four.getD k 0 = I := ⟨_, rfl⟩
      have hix := idx4 k hk
      have hI16 : I < 16 := by rw [← hI]; rcases (by omega : k = 0 ∨ k = 1 ∨ k = 2 ∨ k = 3) with rfl | rfl | rfl | rfl <;> decide
      have HT : Hold (four.take (k + 1) = four.take k ++ [I]) := ⟨by rw [← hI]; rcases (by omega : k = 0 ∨ k = 1 ∨ k = 2 ∨ k = 3) with rfl | rfl | rfl | rfl <;> rfl⟩
      rw [hI] at hix
      clear hI
      obtain ⟨x, hx⟩ : ∃ x, (low4 R0 (four.take k)).getD I 0 = x := ⟨_, rfl⟩
      have hci := HO.out.cell (i := I) (x := x) (by rw [← hx, List.getD_eq_getElem?_getD, List.getElem?_eq_getElem (by rw [low4_length, hl16.out]; exact hI16)]; rfl)
      have hfr := HO.out.free I
      have HS : Hold _ := ⟨HO.out.set I (x % 16)⟩
      have HX : Hold _ := ⟨hx⟩
      have HR : Hold (low4 R0 (four.take (k + 1)) = (low4 R0 (four.take k)).set I (x % 16)) := ⟨by rw [HT.out, low4_snoc, hx]⟩
      rw [show ((x % 16 : Nat) : Int) = (x : Int) % 16 from by omega] at HS
      have hx8 : x < 256 := by rw [← hx]; exact (low4_bytes (by rw [← HR0.out]; exact H8.out.take 16) _).get I
      have HB1 : Hold (Below w.heap.size w (wr.setCell ⟨g, I, none⟩ (.int .u8 ((x : Int) % 16)))) := ⟨HBl.out.grown HS.out.2 HBl.out.size (fun j hj => by cases hj; exact hgw)⟩
      clear hx
      go_wp2
      go_roundw
      case rel => exact ⟨k + 1, by omega, by go_num, ⟨by rw [HR.out]; exact HS.out.1⟩, HB1⟩
      case measure => simp [intOf]; omega
    · obtain rfl : k = 4 := by omega
      rw [show four.take 4 = four from rfl] at HO
      obtain ⟨R1, hR1⟩ : ∃ R, low4 R0 four = R := ⟨_, rfl⟩
      rw [hR1] at HO
      have HR1 : Hold (R1 = low4 (key.take 16) four) := ⟨by rw [HR0.out, hR1]⟩
      have hl1 : Hold (R1.length = 16) := ⟨by rw [← hR1, low4_length, hl16.out]⟩
      have h81 : Hold (Bytes8 R1) := ⟨by rw [HR1.out]; exact low4_bytes (H8.out.take 16) _⟩
      have hgr : g < wr.heap.size := by
        obtain ⟨_, _, e, _, hh⟩ := HO.out.there (by rw [hl1.out]; omega)
        simp only [Value.slice.injEq, Option.some.injEq, Addr.mk.injEq, and_true] at e
        omega
      clear hR1 HR0 hl16 HO1 hb2 hgl
      go_wp2
      go_loopw [36] (fun i w3 => ∃ k : Nat, k ≤ 3 ∧ i = .int .i64 k ∧ Hold (Own w3 w.heap.size (.slice (some ⟨g, 0, none⟩) 16 cg) (high6 R1 (three.take k))) ∧ Hold (Below w.heap.size w w3)) (fun i _ => 3 - (intOf i).toNat)
      case atStart => exact ⟨0, by omega, rfl, HO, HBl⟩
      case round =>
        obtain ⟨k, hk4, rfl, HO, HBl⟩ := hrel
        by_cases hk : k < 3
        · obtain ⟨I, hI⟩ : ∃ I, three.getD k 0 = I := ⟨_, rfl⟩
          have hix := idx3 k hk
          have hI16 : I < 16 := by rw [← hI]; rcases (by omega : k = 0 ∨ k = 1 ∨ k = 2) with rfl | rfl | rfl <;> decide
          have HT : Hold (three.take (k + 1) = three.take k ++ [I]) := ⟨by rw [← hI]; rcases (by omega : k = 0 ∨ k = 1 ∨ k = 2) with rfl | rfl | rfl <;> rfl⟩
          rw [hI] at hix
          clear hI
          obtain ⟨x, hx⟩ : ∃ x, (high6 R1 (three.take k)).getD I 0 = x := ⟨_, rfl⟩
          have hci := HO.out.cell (i := I) (x := x) (by rw [← hx, List.getD_eq_getElem?_getD, List.getElem?_eq_getElem (by rw [high6_length, hl1.out]; exact hI16)]; rfl)
          have hfr := HO.out.free I
          have HS : Hold _ := ⟨HO.out.set I (x / 4 * 4)⟩
          have HR : Hold (high6 R1 (three.take (k + 1)) = (high6 R1 (three.take k)).set I (x / 4 * 4)) := ⟨by rw [HT.out, high6_snoc, hx]⟩
          have hx8 : x < 256 := by rw [← hx]; exact (high6_bytes h81.out _).get I
          have hwr : IntKind.u8.wrap ((x : Int) / 4 * 4) = ((x / 4 * 4 : Nat) : Int) := by rw [IntKind.wrap_u8]; omega
          have HB1 : Hold (Below w.heap.size w (wr.setCell ⟨g, I, none⟩ (.int .u8 ((x / 4 * 4 : Nat) : Int)))) := ⟨HBl.out.grown HS.out.2 HBl.out.size (fun j hj => by cases hj; exact hgw)⟩
          clear hx
          go_wp2
          go_roundw
          case rel => exact ⟨k + 1, by omega, by go_num, ⟨by rw [HR.out]; exact HS.out.1⟩, HB1⟩
          case measure => simp [intOf]; omega
        · obtain rfl : k = 3 := by omega
          rw [show three.take 3 = three from rfl] at HO
          obtain ⟨R, hR⟩ : ∃ R, high6 R1 three = R := ⟨_, rfl⟩
          rw [hR] at HO
          have HRc : Hold (R = clamp (key.take 16)) := ⟨by rw [← hR, HR1.out]; rfl⟩
          have hlR : Hold (R.length = 16) := ⟨by rw [← hR, high6_length, hl1.out]⟩
          have h8R : Hold (Bytes8 R) := ⟨by rw [HRc.out]; exact clamp_bytes (H8.out.take 16)⟩
          obtain ⟨_, _, e, hrowR, _, _, _⟩ := HO.out.elim
          rw [hlR.out] at e hrowR
          simp only [Value.slice.injEq, true_and] at e
          obtain ⟨rfl, rfl⟩ := e
          have HRow : Hold _ := ⟨hrowR⟩
          clear hR HR1 hl1 h81 hrowR HO hgr
          go_wp2_with fail
          refine (small_calls 1 wr (by decide)).mono ?_
          rintro e w4 ⟨p1, n1, c1, rfl, hn1, hb4, _⟩
          go_wp2_with fail
          refine (shift_calls w4 p1 n1 c1 1 130 hn1 (by rw [bits_len hn1]; exact Nat.le_trans ((blen_le 1 1).2 (by decide)) (by decide)) (by decide)).mono ?_
          rintro e w5 ⟨p2, n2, c2, rfl, hn2, hb5, _⟩
          go_wp2_with fail
          refine (small_calls 5 w5 (by decide)).mono ?_
          rintro e w6 ⟨p3, n3, c3, rfl, hn3, hb6, _⟩
          have hn26 := hn2.below hb6
          go_wp2_with fail
          refine (rsub_calls w6 p2 n2 c2 (1 * 2 ^ 130) p3 n3 c3 5 hn26 hn3 (by rw [bits_len hn2]; exact Nat.le_trans ((blen_le _ 131).2 (by decide)) (by decide)) (by decide)).mono ?_
          rintro e w7 ⟨pP, nP, cP, rfl, hnP, hb7, _⟩
          have hb37 := bstep' (bstep' (bstep' hb4 hb5) hb6) hb7
          have HB7 : Hold (Below w.heap.size w w7) := ⟨bstep' HBl.out hb37⟩
          have HR7 : Hold _ := ⟨HRow.out.below hb37⟩
          have HP7 : Hold (BitsAt w7 pP nP cP pp) := ⟨by rw [show (1 * 2 ^ 130 - 5) = pp from by rw [Nat.one_mul]; rfl] at hnP; exact hnP⟩
          clear hn1 hn2 hn3 hn26 hnP hb4 hb5 hb6 hb7 hb37 HRow HBl
          have HA0 : Hold _ := ⟨bits_nil' (w7.alloc (.cells #[] 4)) w7.heap.size (by simp)⟩
          have HX7 : Hold (RowIn (w7.alloc (.cells #[] 4)) .u8 pb nb cb xs) := ⟨HX.out.below (bstep' HB7.out ((Below.refl _ _).alloc (Nat.le_refl _) _))⟩
          have HB77 : Hold (Below w7.heap.size w7 (w7.alloc (.cells #[] 4))) := ⟨(Below.refl _ _).alloc (Nat.le_refl _) _⟩
          have HPP : Hold (0 < pp) := ⟨by decide⟩
          obtain ⟨Rn, hRn⟩ : ∃ r, le R = r := ⟨_, rfl⟩
          obtain ⟨T, hT⟩ : ∃ T, stirred Rn xs.length 0 xs = T := ⟨_, rfl⟩
          have HRn : Hold (le R = Rn) := ⟨hRn⟩
          have HT : Hold (stirred Rn xs.length 0 xs = T) := ⟨hT⟩
          clear hRn hT
          go_wp2
          go_loopw [1, 11] (fun bv av wr => ∃ (p : Option Addr) (n c : Nat) (ys : List Nat) (q : Option Addr) (m d A : Nat), bv = .slice p n c ∧ av = .slice q m d ∧ n ≤ 1000 ∧ Hold (RowIn wr .u8 p n c ys) ∧ Hold (Bytes8 ys) ∧ Hold (BitsAt wr q m d A) ∧ Hold (A < pp) ∧ Hold (stirred Rn ys.length A ys = T) ∧ Hold (Below w7.heap.size w7 wr)) (fun bv _ _ => match bv with | .slice _ n _ => n | _ => 0)
          case atStart => exact ⟨_, _, _, xs, _, _, _, 0, rfl, rfl, hnb, HX7, H8b, HA0, HPP, HT, HB77⟩
          case round =>
            obtain ⟨p, n, c, ys, q, m, d, A, rfl, rfl, hn, HY, H8y, HA, HAp, HS, HBr⟩ := hrel
            by_cases hn0 : 0 < n
            · have hycap := HY.out.cap
              have hymax := HY.out.max
              obtain ⟨bp, op, rfl, hbp, hcp⟩ := (HY.out.row hn0).pos hn0
              have HYL : Hold (n = ys.length) := ⟨HY.out.len⟩
              clear hcp
              by_cases h16 : 16 < n
              · have h16' : (16 : Int) < n := by omega
                have hbd : Below wr.heap.size wr (wr.alloc (.cells #[] 5)) := (Below.refl _ _).alloc (Nat.le_refl _) _
                have hrow0 : Hold (RowIn (wr.alloc (.cells #[] 5)) .u8 (some ⟨bp, op, none⟩) 16 c (ys.take 16)) := ⟨(HY.out.below hbd).take 16 (by omega)⟩
                have HO0 : Hold (Own (wr.alloc (.cells #[] 5)) wr.heap.size (.slice (some ⟨wr.heap.size, 0, none⟩) 0 0) []) := ⟨Own.lit wr [] (by decide)⟩
                have hmx : Hold (([] : List Nat).length + 16 ≤ 140737488355328) := ⟨by rw [List.length_nil]; omega⟩
                have hsz3 := hbd.size
                go_wp2_with (at_builtin; refine wpList_app rfl _ _ rfl rfl HO0.out rfl hrow0.out (fun h => nomatch h) hmx.out hsz3 ?_; intro v1 w2 ho1 hg1; refine Paused.out ?_)
                refine ⟨?_⟩
                rw [List.nil_append] at ho1
                have hb2 : Below wr.heap.size wr w2 := hbd.trans (grown_below hg1 hsz3 (fun b hb => by cases hb; exact Nat.le_refl _))
                clear hg1 hrow0 HO0 hmx hsz3 hbd
                have hsz4 := hb2.size
                have hb21 : Below w2.heap.size w2 (w2.alloc (.cells #[.int .u8 1] 5)) := (Below.refl _ _).alloc (Nat.le_refl _) _
                have HO1 : Hold (Own (w2.alloc (.cells #[.int .u8 1] 5)) wr.heap.size v1 (ys.take 16)) := ⟨ho1.belowS hb21⟩
                have HL1 : Hold (RowIn (w2.alloc (.cells #[.int .u8 1] 5)) .u8 (some ⟨w2.heap.size, 0, none⟩) 1 1 [1]) := ⟨lit_row w2 [1] (by decide)⟩
                have hmx : Hold ((ys.take 16).length + 1 ≤ 140737488355328) := ⟨by rw [List.length_take]; omega⟩
                have hsz5 : wr.heap.size ≤ (w2.alloc (.cells #[.int .u8 1] 5)).heap.size := by simp; omega
                have HGe : Hold _ := ⟨ho1.ge⟩
                have HB21 : Hold (Below wr.heap.size wr (w2.alloc (.cells #[.int .u8 1] 5))) := ⟨bstep' hb2 hb21⟩
                clear ho1 hb2 hb21
                go_wp2_with (at_builtin; refine wpList_app rfl _ _ rfl rfl HO1.out rfl HL1.out (fun h => nomatch h) hmx.out hsz5 ?_; intro v2 w3 ho2 hg2; refine Paused.out ?_)
                refine ⟨?_⟩
                have HB3 : Hold (Below wr.heap.size wr w3) := ⟨HB21.out.trans (grown_below hg2 hsz5 HGe.out)⟩
                clear hg2 HO1 HL1 hmx hsz5 HGe HB21 hsz4
                have hlx : (ys.take 16 ++ [1]).length = 17 := by rw [List.length_append, List.length_take, List.length_singleton, ← HYL.out]; omega
                obtain ⟨px, cx, rfl, hrx, _, _, _⟩ := ho2.elim
                obtain ⟨X, hX⟩ : ∃ X, ys.take 16 ++ [1] = X := ⟨_, rfl⟩
                rw [hX] at hrx hlx
                rw [hlx] at hrx
                have HX3 : Hold (RowIn w3 .u8 px 17 cx X) := ⟨hrx⟩
                have HXe : Hold (ys.take 16 ++ [1] = X) := ⟨hX⟩
                have HX8 : Hold (Bytes8 X) := ⟨by
                  rw [← hX]; intro x hx
                  rcases List.mem_append.1 hx with h | h
                  · exact H8y.out.take _ x h
                  · rw [List.mem_singleton.1 h]; omega⟩
                rw [hX, hlx]
                clear hrx ho2 hX hlx
                go_wp2_with fail
                refine (low_calls w3 px 17 cx X HX3.out HX8.out (by omega)).mono ?_
                rintro e w4 ⟨p1, n1, c1, rfl, hn1, hb4, _⟩
                have HB4 : Hold (Below wr.heap.size wr w4) := ⟨bstep' HB3.out hb4⟩
                have HA4 : Hold _ := ⟨HA.out.below HB4.out⟩
                have HN1 : Hold _ := ⟨hn1⟩
                clear hn1 hb4 HX3 HB3
                go_wp2_with fail
                have hm : m ≤ 130 := by rw [bits_len HA.out]; exact blen_pp HAp.out
                have hX136 : blen (le X) ≤ 136 := blen_bytes HX8.out (n := 17) (by rw [← HXe.out, List.length_append, List.length_take, List.length_singleton]; omega)
                refine (radd_calls w4 q m d A p1 n1 c1 (le X) HA4.out HN1.out (by omega) (by rw [bits_len HN1.out]; omega)).mono ?_
                rintro e w5 ⟨p2, n2, c2, rfl, hn2, hb5, _⟩
                have HB5 : Hold (Below wr.heap.size wr w5) := ⟨bstep' HB4.out hb5⟩
                have HN2 : Hold _ := ⟨hn2⟩
                have HR5 : Hold _ := ⟨HR7.out.below (bstep' HBr.out HB5.out)⟩
                clear hn2 hb5 HA4 HN1 HB4
                go_wp2_with fail
                refine (low_calls w5 (some ⟨g, 0, none⟩) 16 cg R HR5.out h8R.out (by omega)).mono ?_
                rintro e w6 ⟨p3, n3, c3, rfl, hn3, hb6, _⟩
                rw [HRn.out] at hn3
                have hn26 := HN2.out.below hb6
                have HB6 : Hold (Below wr.heap.size wr w6) := ⟨bstep' HB5.out hb6⟩
                have hR128 : blen Rn ≤ 128 := by rw [← HRn.out]; exact blen_bytes h8R.out (n := 16) (by rw [hlR.out]; exact Nat.le_refl _)
                have hS : blen (A + le X) ≤ 137 := by
                  rw [blen_le] at hX136 ⊢
                  have h1 := (blen_le A 130).1 (blen_pp HAp.out)
                  have h2 : (2 : Nat) ^ 130 ≤ 2 ^ 136 := Nat.pow_le_pow_right (by decide) (by decide)
                  have h3 : (2 : Nat) ^ 137 = 2 ^ 136 + 2 ^ 136 := by decide
                  omega
                clear hb6 HB5 HN2 HR5
                go_wp2_with fail
                refine (rmul_calls w6 p2 n2 c2 (A + le X) p3 n3 c3 Rn hn26 hn3 (by rw [bits_len hn26]; omega) (by rw [bits_len hn3]; omega)).mono ?_
                rintro e w7' ⟨p4, n4, c4, rfl, hn4, hb7, _⟩
                have HB7' : Hold (Below wr.heap.size wr w7') := ⟨bstep' HB6.out hb7⟩
                have hM : blen ((A + le X) * Rn) ≤ 265 := Nat.le_trans (blen_mul_le _ _) (by omega)
                have hP := HP7.out.below (bstep' HBr.out HB7'.out)
                clear hn26 hn3 hb7 HB6
                go_wp2_with fail
                refine (rdiv_calls w7' p4 n4 c4 ((A + le X) * Rn) pP nP cP pp hn4 hP (by rw [bits_len hn4]; omega) (by rw [bits_len hP]; exact Nat.le_trans ((blen_le pp 130).2 (by decide)) (by decide)) HPP.out).mono ?_
                rintro e w8 ⟨p5, n5, c5, p6, n6, c6, rfl, _, hn6, hb8, _, _⟩
                have HB8 : Hold (Below w7.heap.size w7 w8) := ⟨bstep' HBr.out (bstep' HB7'.out hb8)⟩
                have HYD : Hold _ := ⟨(HY.out.below (bstep' HB7'.out hb8)).drop 16 (by omega)⟩
                have HST : Hold (stirred Rn (ys.drop 16).length ((A + le X) * Rn % pp) (ys.drop 16) = T) := ⟨by
                  have h1 := stirred_step (r := Rn) (a := A) (xs := ys) (by rw [← HYL.out]; exact hn0)
                  rw [HS.out] at h1
                  rw [← HXe.out]
                  exact h1.symm⟩
                have HN6 : Hold _ := ⟨hn6⟩
                have HLT : Hold ((A + le X) * Rn % pp < pp) := ⟨Nat.mod_lt _ HPP.out⟩
                have HD8 : Hold (Bytes8 (ys.drop 16)) := ⟨fun x hx => H8y.out x (List.mem_of_mem_drop hx)⟩
                clear hn4 hn6 hb8 hP HB7' HS HY
                go_wp2
                go_roundw
                case rel => exact ⟨_, _, _, ys.drop 16, _, _, _, (A + le X) * Rn % pp, rfl, rfl, by omega, HYD, HD8, HN6, HLT, HST, HB8⟩
                case measure => simp; omega
              · have h16' : ¬ (16 : Int) < n := by omega
                by_cases hcn : n < c
                · have hcn' : (n : Int) < c := by omega
                  have hbd : Below wr.heap.size wr (wr.alloc (.cells #[] 5)) := (Below.refl _ _).alloc (Nat.le_refl _) _
                  have hrow0 : Hold (RowIn (wr.alloc (.cells #[] 5)) .u8 (some ⟨bp, op, none⟩) n c (ys.take n)) := ⟨(HY.out.below hbd).take n (by omega)⟩
                  have HO0 : Hold (Own (wr.alloc (.cells #[] 5)) wr.heap.size (.slice (some ⟨wr.heap.size, 0, none⟩) 0 0) []) := ⟨Own.lit wr [] (by decide)⟩
                  have hmx : Hold (([] : List Nat).length + n ≤ 140737488355328) := ⟨by rw [List.length_nil]; omega⟩
                  have hsz3 := hbd.size
                  go_wp2_with (at_builtin; refine wpList_app rfl _ _ rfl rfl HO0.out rfl hrow0.out (fun h => nomatch h) hmx.out hsz3 ?_; intro v1 w2 ho1 hg1; refine Paused.out ?_)
                  refine ⟨?_⟩
                  rw [List.nil_append] at ho1
                  have hb2 : Below wr.heap.size wr w2 := hbd.trans (grown_below hg1 hsz3 (fun b hb => by cases hb; exact Nat.le_refl _))
                  clear hg1 hrow0 HO0 hmx hsz3 hbd
                  have hsz4 := hb2.size
                  have hb21 : Below w2.heap.size w2 (w2.alloc (.cells #[.int .u8 1] 5)) := (Below.refl _ _).alloc (Nat.le_refl _) _
                  have HO1 : Hold (Own (w2.alloc (.cells #[.int .u8 1] 5)) wr.heap.size v1 (ys.take n)) := ⟨ho1.belowS hb21⟩
                  have HL1 : Hold (RowIn (w2.alloc (.cells #[.int .u8 1] 5)) .u8 (some ⟨w2.heap.size, 0, none⟩) 1 1 [1]) := ⟨lit_row w2 [1] (by decide)⟩
                  have hmx : Hold ((ys.take n).length + 1 ≤ 140737488355328) := ⟨by rw [List.length_take]; omega⟩
                  have hsz5 : wr.heap.size ≤ (w2.alloc (.cells #[.int .u8 1] 5)).heap.size := by simp; omega
                  have HGe : Hold _ := ⟨ho1.ge⟩
                  have HB21 : Hold (Below wr.heap.size wr (w2.alloc (.cells #[.int .u8 1] 5))) := ⟨bstep' hb2 hb21⟩
                  clear ho1 hb2 hb21
                  go_wp2_with (at_builtin; refine wpList_app rfl _ _ rfl rfl HO1.out rfl HL1.out (fun h => nomatch h) hmx.out hsz5 ?_; intro v2 w3 ho2 hg2; refine Paused.out ?_)
                  refine ⟨?_⟩
                  have HB3 : Hold (Below wr.heap.size wr w3) := ⟨HB21.out.trans (grown_below hg2 hsz5 HGe.out)⟩
                  clear hg2 HO1 HL1 hmx hsz5 HGe HB21 hsz4
                  have hlx : (ys.take n ++ [1]).length = (n + 1) := by rw [List.length_append, List.length_take, List.length_singleton, ← HYL.out]; omega
                  obtain ⟨px, cx, rfl, hrx, _, _, _⟩ := ho2.elim
                  obtain ⟨X, hX⟩ : ∃ X, ys.take n ++ [1] = X := ⟨_, rfl⟩
                  rw [hX] at hrx hlx
                  rw [hlx] at hrx
                  have HX3 : Hold (RowIn w3 .u8 px (n + 1) cx X) := ⟨hrx⟩
                  have HXe : Hold (ys.take n ++ [1] = X) := ⟨hX⟩
                  have HX8 : Hold (Bytes8 X) := ⟨by
                    rw [← hX]; intro x hx
                    rcases List.mem_append.1 hx with h | h
                    · exact H8y.out.take _ x h
                    · rw [List.mem_singleton.1 h]; omega⟩
                  rw [hX, hlx]
                  clear hrx ho2 hX hlx
                  go_wp2_with fail
                  refine (low_calls w3 px (n + 1) cx X HX3.out HX8.out (by omega)).mono ?_
                  rintro e w4 ⟨p1, n1, c1, rfl, hn1, hb4, _⟩
                  have HB4 : Hold (Below wr.heap.size wr w4) := ⟨bstep' HB3.out hb4⟩
                  have HA4 : Hold _ := ⟨HA.out.below HB4.out⟩
                  have HN1 : Hold _ := ⟨hn1⟩
                  clear hn1 hb4 HX3 HB3
                  go_wp2_with fail
                  have hm : m ≤ 130 := by rw [bits_len HA.out]; exact blen_pp HAp.out
                  have hX136 : blen (le X) ≤ 136 := blen_bytes HX8.out (n := 17) (by rw [← HXe.out, List.length_append, List.length_take, List.length_singleton]; omega)
                  refine (radd_calls w4 q m d A p1 n1 c1 (le X) HA4.out HN1.out (by omega) (by rw [bits_len HN1.out]; omega)).mono ?_
                  rintro e w5 ⟨p2, n2, c2, rfl, hn2, hb5, _⟩
                  have HB5 : Hold (Below wr.heap.size wr w5) := ⟨bstep' HB4.out hb5⟩
                  have HN2 : Hold _ := ⟨hn2⟩
                  have HR5 : Hold _ := ⟨HR7.out.below (bstep' HBr.out HB5.out)⟩
                  clear hn2 hb5 HA4 HN1 HB4
                  go_wp2_with fail
                  refine (low_calls w5 (some ⟨g, 0, none⟩) 16 cg R HR5.out h8R.out (by omega)).mono ?_
                  rintro e w6 ⟨p3, n3, c3, rfl, hn3, hb6, _⟩
                  rw [HRn.out] at hn3
                  have hn26 := HN2.out.below hb6
                  have HB6 : Hold (Below wr.heap.size wr w6) := ⟨bstep' HB5.out hb6⟩
                  have hR128 : blen Rn ≤ 128 := by rw [← HRn.out]; exact blen_bytes h8R.out (n := 16) (by rw [hlR.out]; exact Nat.le_refl _)
                  have hS : blen (A + le X) ≤ 137 := by
                    rw [blen_le] at hX136 ⊢
                    have h1 := (blen_le A 130).1 (blen_pp HAp.out)
                    have h2 : (2 : Nat) ^ 130 ≤ 2 ^ 136 := Nat.pow_le_pow_right (by decide) (by decide)
                    have h3 : (2 : Nat) ^ 137 = 2 ^ 136 + 2 ^ 136 := by decide
                    omega
                  clear hb6 HB5 HN2 HR5
                  go_wp2_with fail
                  refine (rmul_calls w6 p2 n2 c2 (A + le X) p3 n3 c3 Rn hn26 hn3 (by rw [bits_len hn26]; omega) (by rw [bits_len hn3]; omega)).mono ?_
                  rintro e w7' ⟨p4, n4, c4, rfl, hn4, hb7, _⟩
                  have HB7' : Hold (Below wr.heap.size wr w7') := ⟨bstep' HB6.out hb7⟩
                  have hM : blen ((A + le X) * Rn) ≤ 265 := Nat.le_trans (blen_mul_le _ _) (by omega)
                  have hP := HP7.out.below (bstep' HBr.out HB7'.out)
                  clear hn26 hn3 hb7 HB6
                  go_wp2_with fail
                  refine (rdiv_calls w7' p4 n4 c4 ((A + le X) * Rn) pP nP cP pp hn4 hP (by rw [bits_len hn4]; omega) (by rw [bits_len hP]; exact Nat.le_trans ((blen_le pp 130).2 (by decide)) (by decide)) HPP.out).mono ?_
                  rintro e w8 ⟨p5, n5, c5, p6, n6, c6, rfl, _, hn6, hb8, _, _⟩
                  have HB8 : Hold (Below w7.heap.size w7 w8) := ⟨bstep' HBr.out (bstep' HB7'.out hb8)⟩
                  have HYD : Hold _ := ⟨(HY.out.below (bstep' HB7'.out hb8)).drop n (by omega)⟩
                  have HST : Hold (stirred Rn (ys.drop n).length ((A + le X) * Rn % pp) (ys.drop n) = T) := ⟨by
                    have h1 := stirred_step (r := Rn) (a := A) (xs := ys) (by rw [← HYL.out]; exact hn0)
                    rw [HS.out] at h1
                    rw [← HXe.out]
                    have e1 : ys.take 16 = ys.take n := by rw [List.take_of_length_le (by have := HYL.out; omega), List.take_of_length_le (by have := HYL.out; omega)]
                    have e2 : ys.drop 16 = ys.drop n := by rw [List.drop_of_length_le (by have := HYL.out; omega), List.drop_of_length_le (by have := HYL.out; omega)]
                    unfold stir at h1
                    rw [e1, e2] at h1
                    exact h1.symm⟩
                  have HN6 : Hold _ := ⟨hn6⟩
                  have HLT : Hold ((A + le X) * Rn % pp < pp) := ⟨Nat.mod_lt _ HPP.out⟩
                  have HD8 : Hold (Bytes8 (ys.drop n)) := ⟨fun x hx => H8y.out x (List.mem_of_mem_drop hx)⟩
                  clear hn4 hn6 hb8 hP HB7' HS HY
                  rw [Nat.sub_self] at HYD
                  go_wp2
                  go_roundw
                  case rel => exact ⟨_, _, _, ys.drop n, _, _, _, (A + le X) * Rn % pp, rfl, rfl, by omega, HYD, HD8, HN6, HLT, HST, HB8⟩
                  case measure => simp; omega
                · obtain rfl : n = c := by omega
                  have hbd : Below wr.heap.size wr (wr.alloc (.cells #[] 5)) := (Below.refl _ _).alloc (Nat.le_refl _) _
                  have hrow0 : Hold (RowIn (wr.alloc (.cells #[] 5)) .u8 (some ⟨bp, op, none⟩) n n (ys.take n)) := ⟨(HY.out.below hbd).take n (by omega)⟩
                  have HO0 : Hold (Own (wr.alloc (.cells #[] 5)) wr.heap.size (.slice (some ⟨wr.heap.size, 0, none⟩) 0 0) []) := ⟨Own.lit wr [] (by decide)⟩
                  have hmx : Hold (([] : List Nat).length + n ≤ 140737488355328) := ⟨by rw [List.length_nil]; omega⟩
                  have hsz3 := hbd.size
                  go_wp2_with (at_builtin; refine wpList_app rfl _ _ rfl rfl HO0.out rfl hrow0.out (fun h => nomatch h) hmx.out hsz3 ?_; intro v1 w2 ho1 hg1; refine Paused.out ?_)
                  refine ⟨?_⟩
                  rw [List.nil_append] at ho1
                  have hb2 : Below wr.heap.size wr w2 := hbd.trans (grown_below hg1 hsz3 (fun b hb => by cases hb; exact Nat.le_refl _))
                  clear hg1 hrow0 HO0 hmx hsz3 hbd
                  have hsz4 := hb2.size
                  have hb21 : Below w2.heap.size w2 (w2.alloc (.cells #[.int .u8 1] 5)) := (Below.refl _ _).alloc (Nat.le_refl _) _
                  have HO1 : Hold (Own (w2.alloc (.cells #[.int .u8 1] 5)) wr.heap.size v1 (ys.take n)) := ⟨ho1.belowS hb21⟩
                  have HL1 : Hold (RowIn (w2.alloc (.cells #[.int .u8 1] 5)) .u8 (some ⟨w2.heap.size, 0, none⟩) 1 1 [1]) := ⟨lit_row w2 [1] (by decide)⟩
                  have hmx : Hold ((ys.take n).length + 1 ≤ 140737488355328) := ⟨by rw [List.length_take]; omega⟩
                  have hsz5 : wr.heap.size ≤ (w2.alloc (.cells #[.int .u8 1] 5)).heap.size := by simp; omega
                  have HGe : Hold _ := ⟨ho1.ge⟩
                  have HB21 : Hold (Below wr.heap.size wr (w2.alloc (.cells #[.int .u8 1] 5))) := ⟨bstep' hb2 hb21⟩
                  clear ho1 hb2 hb21
                  go_wp2_with (at_builtin; refine wpList_app rfl _ _ rfl rfl HO1.out rfl HL1.out (fun h => nomatch h) hmx.out hsz5 ?_; intro v2 w3 ho2 hg2; refine Paused.out ?_)
                  refine ⟨?_⟩
                  have HB3 : Hold (Below wr.heap.size wr w3) := ⟨HB21.out.trans (grown_below hg2 hsz5 HGe.out)⟩
                  clear hg2 HO1 HL1 hmx hsz5 HGe HB21 hsz4
                  have hlx : (ys.take n ++ [1]).length = (n + 1) := by rw [List.length_append, List.length_take, List.length_singleton, ← HYL.out]; omega
                  obtain ⟨px, cx, rfl, hrx, _, _, _⟩ := ho2.elim
                  obtain ⟨X, hX⟩ : ∃ X, ys.take n ++ [1] = X := ⟨_, rfl⟩
                  rw [hX] at hrx hlx
                  rw [hlx] at hrx
                  have HX3 : Hold (RowIn w3 .u8 px (n + 1) cx X) := ⟨hrx⟩
                  have HXe : Hold (ys.take n ++ [1] = X) := ⟨hX⟩
                  have HX8 : Hold (Bytes8 X) := ⟨by
                    rw [← hX]; intro x hx
                    rcases List.mem_append.1 hx with h | h
                    · exact H8y.out.take _ x h
                    · rw [List.mem_singleton.1 h]; omega⟩
                  rw [hX, hlx]
                  clear hrx ho2 hX hlx
                  go_wp2_with fail
                  refine (low_calls w3 px (n + 1) cx X HX3.out HX8.out (by omega)).mono ?_
                  rintro e w4 ⟨p1, n1, c1, rfl, hn1, hb4, _⟩
                  have HB4 : Hold (Below wr.heap.size wr w4) := ⟨bstep' HB3.out hb4⟩
                  have HA4 : Hold _ := ⟨HA.out.below HB4.out⟩
                  have HN1 : Hold _ := ⟨hn1⟩
                  clear hn1 hb4 HX3 HB3
                  go_wp2_with fail
                  have hm : m ≤ 130 := by rw [bits_len HA.out]; exact blen_pp HAp.out
                  have hX136 : blen (le X) ≤ 136 := blen_bytes HX8.out (n := 17) (by rw [← HXe.out, List.length_append, List.length_take, List.length_singleton]; omega)
                  refine (radd_calls w4 q m d A p1 n1 c1 (le X) HA4.out HN1.out (by omega) (by rw [bits_len HN1.out]; omega)).mono ?_
                  rintro e w5 ⟨p2, n2, c2, rfl, hn2, hb5, _⟩
                  have HB5 : Hold (Below wr.heap.size wr w5) := ⟨bstep' HB4.out hb5⟩
                  have HN2 : Hold _ := ⟨hn2⟩
                  have HR5 : Hold _ := ⟨HR7.out.below (bstep' HBr.out HB5.out)⟩
                  clear hn2 hb5 HA4 HN1 HB4
                  go_wp2_with fail
                  refine (low_calls w5 (some ⟨g, 0, none⟩) 16 cg R HR5.out h8R.out (by omega)).mono ?_
                  rintro e w6 ⟨p3, n3, c3, rfl, hn3, hb6, _⟩
                  rw [HRn.out] at hn3
                  have hn26 := HN2.out.below hb6
                  have HB6 : Hold (Below wr.heap.size wr w6) := ⟨bstep' HB5.out hb6⟩
                  have hR128 : blen Rn ≤ 128 := by rw [← HRn.out]; exact blen_bytes h8R.out (n := 16) (by rw [hlR.out]; exact Nat.le_refl _)
                  have hS : blen (A + le X) ≤ 137 := by
                    rw [blen_le] at hX136 ⊢
                    have h1 := (blen_le A 130).1 (blen_pp HAp.out)
                    have h2 : (2 : Nat) ^ 130 ≤ 2 ^ 136 := Nat.pow_le_pow_right (by decide) (by decide)
                    have h3 : (2 : Nat) ^ 137 = 2 ^ 136 + 2 ^ 136 := by decide
                    omega
                  clear hb6 HB5 HN2 HR5
                  go_wp2_with fail
                  refine (rmul_calls w6 p2 n2 c2 (A + le X) p3 n3 c3 Rn hn26 hn3 (by rw [bits_len hn26]; omega) (by rw [bits_len hn3]; omega)).mono ?_
                  rintro e w7' ⟨p4, n4, c4, rfl, hn4, hb7, _⟩
                  have HB7' : Hold (Below wr.heap.size wr w7') := ⟨bstep' HB6.out hb7⟩
                  have hM : blen ((A + le X) * Rn) ≤ 265 := Nat.le_trans (blen_mul_le _ _) (by omega)
                  have hP := HP7.out.below (bstep' HBr.out HB7'.out)
                  clear hn26 hn3 hb7 HB6
                  go_wp2_with fail
                  refine (rdiv_calls w7' p4 n4 c4 ((A + le X) * Rn) pP nP cP pp hn4 hP (by rw [bits_len hn4]; omega) (by rw [bits_len hP]; exact Nat.le_trans ((blen_le pp 130).2 (by decide)) (by decide)) HPP.out).mono ?_
                  rintro e w8 ⟨p5, n5, c5, p6, n6, c6, rfl, _, hn6, hb8, _, _⟩
                  have HB8 : Hold (Below w7.heap.size w7 w8) := ⟨bstep' HBr.out (bstep' HB7'.out hb8)⟩
                  have HYD : Hold (RowIn w8 .u8 (some ⟨bp, op, none⟩) 0 0 (ys.drop n)) := ⟨⟨by rw [List.length_drop, ← HYL.out]; omega, Nat.le_refl _, by omega, fun h => absurd h (by omega)⟩⟩
                  have HST : Hold (stirred Rn (ys.drop n).length ((A + le X) * Rn % pp) (ys.drop n) = T) := ⟨by
                    have h1 := stirred_step (r := Rn) (a := A) (xs := ys) (by rw [← HYL.out]; exact hn0)
                    rw [HS.out] at h1
                    rw [← HXe.out]
                    have e1 : ys.take 16 = ys.take n := by rw [List.take_of_length_le (by have := HYL.out; omega), List.take_of_length_le (by have := HYL.out; omega)]
                    have e2 : ys.drop 16 = ys.drop n := by rw [List.drop_of_length_le (by have := HYL.out; omega), List.drop_of_length_le (by have := HYL.out; omega)]
                    unfold stir at h1
                    rw [e1, e2] at h1
                    exact h1.symm⟩
                  have HN6 : Hold _ := ⟨hn6⟩
                  have HLT : Hold ((A + le X) * Rn % pp < pp) := ⟨Nat.mod_lt _ HPP.out⟩
                  have HD8 : Hold (Bytes8 (ys.drop n)) := ⟨fun x hx => H8y.out x (List.mem_of_mem_drop hx)⟩
                  clear hn4 hn6 hb8 hP HB7' HS HY
                  go_wp2
                  go_roundw
                  case rel => exact ⟨_, _, _, ys.drop n, _, _, _, (A + le X) * Rn % pp, rfl, rfl, by omega, HYD, HD8, HN6, HLT, HST, HB8⟩
                  case measure => simp; omega
            · have hyn : ys = [] := List.eq_nil_of_length_eq_zero (by have := HY.out.len; omega)
              have HTA : Hold (T = A) := ⟨by have h := HS.out; rw [hyn] at h; rw [← h]; exact stirred_nil _ _ _⟩
              have hbw := bstep' HB7.out HBr.out
              have hrow9 : Hold _ := ⟨(HK.out.below hbw).drop 16 (by omega)⟩
              have HB9 : Hold (Below w.heap.size w wr) := ⟨hbw⟩
              have hm : m ≤ 130 := by rw [bits_len HA.out]; exact blen_pp HAp.out
              clear hbw hyn HS
              go_wp2_with fail
              refine (low_calls wr (some ⟨bk, ok + 16, none⟩) 16 (ck - 16) (key.drop 16) hrow9.out (fun x hx => H8.out x (List.mem_of_mem_drop hx)) (by omega)).mono ?_
              rintro e w5 ⟨p1, n1, c1, rfl, hn1, hb5, _⟩
              have HA5 : Hold _ := ⟨HA.out.below hb5⟩
              have HB5 : Hold (Below w.heap.size w w5) := ⟨bstep' HB9.out hb5⟩
              have h1l : n1 ≤ 128 := by
                rw [bits_len hn1]
                exact blen_bytes (fun x hx => H8.out x (List.mem_of_mem_drop hx)) (n := 16) (by rw [List.length_drop, ← HKL.out]; decide)
              have HN1 : Hold _ := ⟨hn1⟩
              clear hn1 hb5 HA HB9
              go_wp2_with fail
              refine (radd_calls w5 q m d A p1 n1 c1 (le (key.drop 16)) HA5.out HN1.out (by omega) (by omega)).mono ?_
              rintro e w6 ⟨pS, nS, cS, rfl, hnS, hb6, _⟩
              have HB6 : Hold (Below w.heap.size w w6) := ⟨bstep' HB5.out hb6⟩
              obtain ⟨S, hSd⟩ : ∃ S, A + le (key.drop 16) = S := ⟨_, rfl⟩
              rw [hSd] at hnS
              have HSd : Hold (tagOf key xs = bytesLE S 16) := ⟨by
                unfold tagOf tagNum
                rw [← HRc.out, HRn.out, HT.out, HTA.out, hSd]⟩
              have HSl : Hold (nS = blen S) := ⟨bits_len hnS⟩
              have hn9 : nS ≤ 1000 := by
                rw [HSl.out, ← hSd]
                have h1 : A < 2 ^ 130 := (blen_le A 130).1 (blen_pp HAp.out)
                have h2 : le (key.drop 16) < 2 ^ 128 := (blen_le _ 128).1 (blen_bytes (fun x hx => H8.out x (List.mem_of_mem_drop hx)) (n := 16) (by rw [List.length_drop, ← HKL.out]; decide))
                refine Nat.le_trans ((blen_le _ 131).2 ?_) (by decide)
                have h3 : (2 : Nat) ^ 131 = 2 ^ 130 + 2 ^ 130 := by decide
                have h4 : (2 : Nat) ^ 128 ≤ 2 ^ 130 := by decide
                omega
              have HNS : Hold (BitsAt w6 pS nS cS S) := ⟨hnS⟩
              clear hnS hb6 HA5 HN1 HB5 hSd HTA hrow9 HR7 HP7 HB7 HX7 HA0 HB77 HT HRn HBr HAp HY H8y HRc hlR h8R
              have hmk := fun wx => make_u8' (i := 16) 16 rfl (by omega) wx
              go_wp2
              go_loopw [90] (fun i wr => ∃ k : Nat, k ≤ nS ∧ i = .int .i64 k ∧ w6.heap.size < wr.heap.size ∧ Hold (Below w6.heap.size w6 wr) ∧ Hold (Blk wr w6.heap.size 5 .u8 (bytesLE (S % 2 ^ k) 16))) (fun i _ => nS - (intOf i).toNat)
              case atStart =>
                refine ⟨0, by omega, rfl, by simp, ⟨(Below.refl _ _).alloc (Nat.le_refl _) _⟩, ⟨?_⟩⟩
                rw [bytes_none]
                exact Blk.zeros w6 5 .u8 16
              case round =>
                obtain ⟨k, hk, rfl, hsz, HBl, HBk⟩ := hrel
                by_cases hkn : k < nS
                · obtain ⟨b, off, rfl, hb, hc⟩ := HNS.out.pos (by omega)
                  obtain ⟨x, hx⟩ : ∃ x, bit S k = x := ⟨_, rfl⟩
                  have hci : wr.cell? ⟨b, off + k, none⟩ = some (.bool x) := by
                    rw [(bcell HBl.out).1 _ _ hb]
                    exact hc k x (by rw [bitsOf_get (by rw [← HSl.out]; exact hkn), hx])
                  have HX := Lib.hid hx
                  clear hc hx
                  cases x with
                  | false =>
                    have HE : Hold (bytesLE (S % 2 ^ (k + 1)) 16 = bytesLE (S % 2 ^ k) 16) := ⟨bytes_nobit HX.out⟩
                    go_wp2
                    go_roundw
                    case rel => exact ⟨k + 1, by omega, by go_num, hsz, HBl, by rw [HE.out]; exact HBk⟩
                    case measure => simp [intOf]; omega
                  | true =>
                    by_cases hk8 : k < 128
                    · have hk8' : (k : Int) < 128 := by omega
                      have HE : Hold _ := ⟨bytes_bit (S := S) hk8 HX.out⟩
                      obtain ⟨q, hq⟩ : ∃ q, k / 8 = q := ⟨_, rfl⟩
                      obtain ⟨r, hr⟩ : ∃ r, k % 8 = r := ⟨_, rfl⟩
                      have hq16 : q < 16 := by omega
                      have hq16' : (q : Int) < 16 := by omega
                      obtain ⟨y, hy⟩ : ∃ y, 2 ^ r = y := ⟨_, rfl⟩
                      obtain ⟨v, hv⟩ : ∃ v, S % 2 ^ k / B8 q % 256 = v := ⟨_, rfl⟩
                      have hlt := byte_room (S := S) (k := k)
                      rw [hq, hr, hy, hv] at HE hlt
                      have hget : (bytesLE (S % 2 ^ k) 16)[q]? = some v := by rw [bytesLE_get hq16, hv]
                      have HG : Hold _ := ⟨hget⟩
                      have hr8 : r < 8 := by omega
                      have hz8 : y ≤ 128 := by rw [← hy]; exact Nat.pow_le_pow_right (show 0 < 2 by omega) (show r ≤ 7 by omega)
                      have t1 : IntKind.i64.wrap ((k : Int) / 8) = (q : Int) := by rw [IntWalk.i64_in _ (by omega)]; omega
                      have t2 : (k : Int).tmod 8 = (r : Int) := by rw [Int.tmod_eq_emod_of_nonneg (by omega)]; omega
                      have t8 : IntKind.u8.wrap ((v : Int) + y) = (v : Int) + y := IntWalk.u8_in _ (by omega)
                      have t9 : IntKind.u8.wrap ((2 : Int) ^ r) = y := by
                        rw [show ((2 : Int) ^ r) = (y : Nat) by rw [← hy, Int.natCast_pow]; rfl]
                        exact IntWalk.u8_in _ (by omega)
                      clear hq hr hv hget
                      have HJ := Lib.hid hy
                      clear hy
                      go_wp2
                      refine wp_region_duties (by kernel_rfl) (by kernel_rfl)
                        [some (.slice (some ⟨w6.heap.size, 0, none⟩) 16 16), some (.int .i64 k), some (.int .i64 (q : Nat)), some (.slice (some ⟨w6.heap.size, 0, none⟩) 16 16), some (.int .i64 k), some (.int .i64 (q : Nat)), some (.pointer (some ⟨w6.heap.size, q, none⟩)), some (.int .u8 (v : Nat)), some (.int .i64 k), some (.int .i64 (r : Nat)), some (.int .u8 (y : Nat)), some (.int .u8 (v + y : Nat)), some (.pointer (some ⟨w6.heap.size, q, none⟩)), none]
                        [false, false, false, false, false, false, false, false, false, false, false, false, false, true] rfl
                        (fun _ _ => True)
                        (fun D w' => Below w6.heap.size w6 w' ∧ w6.heap.size < w'.heap.size ∧ Blk w' w6.heap.size 5 .u8 (if D 13 then (bytesLE (S % 2 ^ k) 16).set q (v + y) else bytesLE (S % 2 ^ k) 16))
                        (fun _ _ _ => True)
                        (fun _ _ _ _ h _ => h) ⟨HBl.out.trans ((Below.refl _ _).drew.mono HBl.out.size), hsz, HBk.out⟩ ?_ ?_
                      · simp only [Duties, Nat.reduceAdd]
                        refine ⟨?_, ?_, ?_, ?_, ?_, ?_, ?_, ?_, ?_, ?_, ?_, ?_, ?_, ?_, trivial⟩
                        case refine_8 =>
                          intro D sp w' hD hW hdp ⟨hb', hsz', hblk'⟩
                          have h13 : D 13 = false := hW 13 (List.mem_of_elem_eq_true (by kernel_rfl))
                          rw [h13] at hblk'
                          simp only [Bool.false_eq_true, if_false] at hblk'
                          have hcl : w'.cell? ⟨w6.heap.size, q, none⟩ = some (.int .u8 (v : Nat)) := hblk'.cell HG.out
                          simp [asked, Region.wanted, Oper.gives, execOp, Act.eval, Act.put, go_sem, hcl]
                        case refine_14 =>
                          intro D sp w' hD hW hdp ⟨hb', hsz', hblk'⟩
                          rw [hD] at hblk'
                          simp only [Bool.false_eq_true, if_false] at hblk'
                          have hcl : w'.cell? ⟨w6.heap.size, q, none⟩ = some (.int .u8 (v : Nat)) := hblk'.cell HG.out
                          have hfr := hblk'.free q
                          (with_reducible refine asked_skip (w1 := w'.setCell ⟨w6.heap.size, q, none⟩ (.int .u8 (v + y : Nat))) ?_ ?_ ?_)
                          · simp only [Region.wanted]
                          · simp [execOp, Act.eval, Act.put, go_sem, hcl, hfr]
                          · refine ⟨trivial, trivial, hb'.setCell (Nat.le_refl _) _, by simpa using hsz', ?_⟩
                            simp only [decide_true, Bool.or_true, if_true]
                            exact hblk'.set _ _
                        all_goals
                          intro D sp w' hD hW hdp ⟨hb', hsz', hblk'⟩
                          simp [asked, Region.wanted, Oper.gives, execOp, Act.eval, Act.put, go_sem, t1, t2, t8, t9, hq16']
                      · intro sp w' hsp ⟨hb', hsz', hblk'⟩
                        have hblk2 : Hold (Blk w' w6.heap.size 5 .u8 ((bytesLE (S % 2 ^ k) 16).set q (v + y))) := ⟨hblk'⟩
                        clear hblk' hsp t1 t2 t8 t9
                        simp only [frameOf, Nat.reduceAdd]
                        go_simp
                        go_wp2
                        go_roundw
                        case rel => exact ⟨k + 1, by omega, by go_num, hsz', ⟨hb'⟩, by rw [HE.out]; exact hblk2⟩
                        case measure => simp [intOf]; omega
                    · have hk8' : ¬ (k : Int) < 128 := by omega
                      have HE : Hold (bytesLE (S % 2 ^ (k + 1)) 16 = bytesLE (S % 2 ^ k) 16) := ⟨bytes_high (by omega)⟩
                      go_wp2
                      go_roundw
                      case rel => exact ⟨k + 1, by omega, by go_num, hsz, HBl, by rw [HE.out]; exact HBk⟩
                      case measure => simp [intOf]; omega
                · obtain rfl : k = nS := by omega
                  have HF : Hold (Blk wr w6.heap.size 5 .u8 (tagOf key xs)) := ⟨by
                    have h := HBk.out
                    rw [HSl.out, bytes_all, ← HSd.out] at h
                    exact h⟩
                  have HFB := HBl.out
                  go_wp2
                  go_ret
                  have hr := HF.out.row (n := (tagOf key xs).length) (c := 16) rfl (by rw [tagOf_length]; exact Nat.le_refl _) (by omega)
                  have h := OwnIs.of (lo := w.heap.size) (bs := tagOf key xs) (some ⟨w6.heap.size, 0, none⟩) 16 wr ⟨rfl, by rw [tagOf_length]; exact Nat.le_refl _, by omega, fun _ => hr⟩ (fun q hq => by cases hq; exact HB6.out.size) (fun h => nomatch h) (fun q hq => by cases hq; exact hsz)
                  rw [tagOf_length] at h
                  exact ⟨_, rfl, h, bstep' HB6.out HFB⟩
end Go.Proofs.Ythpfpnialeoclaa
