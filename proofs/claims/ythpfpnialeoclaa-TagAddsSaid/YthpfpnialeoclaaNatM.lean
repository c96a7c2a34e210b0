/- Division by one word. -/
import Derived.Test.YthpfpnialeoclaaNatH
import Derived.Test.YthpfpnialeoclaaNatD
import Derived.Deep.QuietTactic
import Derived.BigQuiet
namespace Go.Proofs.Ythpfpnialeoclaa
open Go Go.RowKit Go.Proofs.Ythpfpnialeoclaa.Flow

theorem shl32_or (h l : Nat) (hh : h < 4294967296) (hl : l < 4294967296) : bits BinOp.or IntKind.u64 ((h : Int) * 4294967296) (l : Int) = ((h * 4294967296 + l : Nat) : Int) := by
  have e : (h : Int) * 4294967296 = ((h * 4294967296 : Nat) : Int) := by omega
  rw [e, u64_or_nat _ _ (by omega) (by omega), nat_join 32 (h * 4294967296) l (by omega) (by omega)]

set_option maxHeartbeats 1000000 in
theorem div32_calls (hi lo y : Nat) (w : World) (h1 : hi < y) (h2 : lo < 4294967296) (h3 : y < 4294967296) :
    Calls Try.prog 61 #[.int .u32 hi, .int .u32 lo, .int .u32 y] w fun e w' =>
      e = .returned (.tuple #[.int .u32 ((hi * 4294967296 + lo) / y : Nat), .int .u32 ((hi * 4294967296 + lo) % y : Nat)]) ∧ Below w.heap.size w w' := by
  have hy0 : ((y : Int) == 0) = false := by rw [beq_eq_false_iff_ne]; omega
  have hy1 : ((y : Int) != 0) = true := by rw [bne_iff_ne]; omega
  have hlt : decide ((y : Int) ≤ hi) = false := by simp; omega
  go_enter Try.func61, Try.ntmps61
  go_wp2
  rw [shl32_or hi lo (by omega) h2]
  obtain ⟨z, hz⟩ : ∃ z, hi * 4294967296 + lo = z := ⟨_, rfl⟩
  rw [hz]
  have hz1 : z < 18446744073709551616 := by omega
  have hz2 : z < 4294967296 * y := by
    have := Nat.mul_le_mul_left 4294967296 (Nat.succ_le_of_lt h1)
    omega
  have hq : z / y < 4294967296 := (Nat.div_lt_iff_lt_mul (by omega)).2 hz2
  have hr : z % y < y := Nat.mod_lt _ (by omega)
  have hq' : (z : Int) / y < 4294967296 := by rw [← Int.natCast_ediv]; omega
  have hr' : (z : Int) % y < y := by rw [← Int.natCast_emod]; omega
  have hq0 : 0 ≤ (z : Int) / y := by rw [← Int.natCast_ediv]; exact Int.natCast_nonneg _
  have hr0 : 0 ≤ (z : Int) % y := by rw [← Int.natCast_emod]; exact Int.natCast_nonneg _
  have HZ := Lib.hid hz
  clear hz
  go_quiet (fail)
  go_wp2
  go_ret2
  refine ⟨?_, below_drewN (Below.refl _ _) _⟩
  rw [HZ.out]
  simp [Int.natCast_ediv, Int.natCast_emod]

/-- The quotient's words so far, the highest first, and the rest. -/
def divGo (ws : List Nat) (y : Nat) : Nat → List Nat × Nat
  | 0 => ([], 0)
  | k + 1 => ((((divGo ws y k).2 * 4294967296 + ws.getD (ws.length - 1 - k) 0) / y) :: (divGo ws y k).1, ((divGo ws y k).2 * 4294967296 + ws.getD (ws.length - 1 - k) 0) % y)

theorem divGo_spec (ws : List Nat) (y : Nat) (hw : Words ws) (hy : 0 < y) : ∀ k, k ≤ ws.length → (divGo ws y k).1.length = k ∧ Words (divGo ws y k).1 ∧ (divGo ws y k).2 < y ∧
    val (ws.drop (ws.length - k)) = val (divGo ws y k).1 * y + (divGo ws y k).2
  | 0, _ => by simp [divGo, Words.nil, val, hy]
  | k + 1, hk => by
    obtain ⟨h1, h2, h3, h4⟩ := divGo_spec ws y hw hy k (by omega)
    have hx := hw.get (ws.length - 1 - k)
    have hd : ws.drop (ws.length - (k + 1)) = ws.getD (ws.length - 1 - k) 0 :: ws.drop (ws.length - k) := by
      rw [List.drop_eq_getElem_cons (by omega), List.getD_eq_getElem?_getD]
      have e : ws.length - (k + 1) = ws.length - 1 - k := by omega
      simp only [e, List.getElem?_eq_getElem (show ws.length - 1 - k < ws.length by omega), Option.getD_some]
      congr 2; omega
    simp only [divGo]
    rw [hd]
    generalize ws.getD (ws.length - 1 - k) 0 = x at *
    generalize (divGo ws y k).1 = Q at *
    generalize (divGo ws y k).2 = r at *
    have hdm := Nat.div_add_mod (r * 4294967296 + x) y
    have hm := Nat.mod_lt (r * 4294967296 + x) hy
    have hq : (r * 4294967296 + x) / y < 4294967296 := by
      rw [Nat.div_lt_iff_lt_mul hy]
      have := Nat.mul_le_mul_left 4294967296 (Nat.succ_le_of_lt h3)
      omega
    generalize (r * 4294967296 + x) / y = q at *
    generalize (r * 4294967296 + x) % y = s at *
    refine ⟨by simp [h1], ?_, hm, ?_⟩
    · intro z hz
      rcases List.mem_cons.1 hz with rfl | hz
      · exact hq
      · exact h2 z hz
    · simp only [val]
      rw [h4, Nat.add_mul]
      have e1 : 4294967296 * val Q * y = 4294967296 * (val Q * y) := Nat.mul_assoc _ _ _
      have e2 : y * q = q * y := Nat.mul_comm _ _
      omega

set_option maxHeartbeats 1000000 in
theorem divWord_calls (w : World) (p : Option Addr) (n c : Nat) (ws : List Nat) (y : Nat) (h : Row w .u32 p n c ws) (hw : Words ws) (hn : n < 1000000) (hy0 : 0 < y) (hy : y < 4294967296) :
    Calls Try.prog 54 #[.slice p n c, .int .u32 y] w fun e w' => ∃ q d, e = .returned (.tuple #[.slice q n d, .int .u32 (val ws % y : Nat)]) ∧
      Row w' .u32 q n d (divGo ws y n).1 ∧ Below w.heap.size w w' ∧ New w.heap.size q := by
  have HL := Lib.hid h.len
  have hmk := make_u32 n (by omega)
  go_enter Try.func54, Try.ntmps54
  go_wp2
  go_loopw [7, 8] (fun r i wr => ∃ k m : Nat, k + m ≤ n ∧ n ≤ k + m ∧ i = .int .i64 ((m : Int) - 1) ∧ r = .int .u32 ((divGo ws y k).2 : Nat) ∧ Below w.heap.size w wr ∧ Blk wr w.heap.size 67 .u32 (List.replicate m 0 ++ (divGo ws y k).1)) (fun _ i _ => (intOf i + 1).toNat)
  case atStart =>
    refine ⟨0, n, by omega, by omega, rfl, rfl, (Below.refl _ _).alloc (Nat.le_refl _) _, ?_⟩
    simp only [divGo, List.append_nil]
    exact Blk.zeros _ _ _ _
  case round =>
    obtain ⟨k, m, hkm, hkm2, rfl, rfl, hbw, hblk⟩ := hrel
    have hk : k ≤ ws.length := by have := HL.out; omega
    obtain ⟨g1, g2, g3, g4⟩ := divGo_spec ws y hw hy0 k hk
    cases m with
    | succ j =>
      have hrow := h.below hbw
      obtain ⟨b, off, rfl, hb, hc⟩ := hrow.pos (by omega)
      obtain ⟨x, hx⟩ : ∃ x, ws.getD j 0 = x := ⟨_, rfl⟩
      have hcx : wr.cell? ⟨b, off + j, none⟩ = some (.int .u32 (x : Nat)) := hc _ _ (by
        rw [← hx, List.getD_eq_getElem?_getD]; simp [show j < ws.length by have := HL.out; omega])
      have hx1 : x < 4294967296 := by rw [← hx]; exact hw.get _
      have hstep : Hid ((divGo ws y (k + 1)) = (((divGo ws y k).2 * 4294967296 + x) / y :: (divGo ws y k).1, ((divGo ws y k).2 * 4294967296 + x) % y)) := by
        have e : ws.length - 1 - k = j := by have := HL.out; omega
        show divGo ws y (k + 1) = _
        rw [divGo, e, hx]
      clear hc hx g4
      generalize hQ : (divGo ws y k).1 = Q at *
      generalize hR : (divGo ws y k).2 = r at *
      have hcl : wr.cell? ⟨w.heap.size, j, none⟩ = some (.int .u32 (0 : Nat)) := hblk.cell (by rw [List.getElem?_append_left (by simp)]; simp)
      have hfr := hblk.free j
      have hset : Hid (∀ v, Blk (wr.setCell ⟨w.heap.size, j, none⟩ (.int .u32 ((v : Nat)))) w.heap.size 67 .u32 (List.replicate j 0 ++ (v :: Q))) := fun v => by
        have h5 := hblk.set j v
        rw [List.set_append_left _ _ (by simp), List.replicate_succ', List.set_append_right _ _ (by simp)] at h5
        simpa using h5
      have e1 : (((j + 1 : Nat) : Int) - 1) = (j : Int) := by omega
      simp only [e1]
      clear e1 hQ hR
      have hgl := hblk.lt
      go_wp2_with fail
      refine (div32_calls r x y _ g3 hx1 hy).mono ?_
      rintro e w2 ⟨rfl, hb2⟩
      have hcl2 := ((bcell hb2).1 _ j hgl).trans hcl
      have hfr2 := ((bcell hb2).2 _ j hgl).trans hfr
      go_wp2
      go_roundw
      case rel =>
        have ed : ((r : Int) * 4294967296 + x) / y = (((r * 4294967296 + x) / y : Nat) : Int) := by simp [Int.natCast_ediv]
        have em : ((r : Int) * 4294967296 + x) % y = (((r * 4294967296 + x) % y : Nat) : Int) := by simp [Int.natCast_emod]
        rw [ed, em]
        refine ⟨k + 1, j, by omega, by omega, rfl, by rw [hstep.out], (hbw.trans (hb2.mono hbw.size)).setCell (Nat.le_refl _) _, ?_⟩
        rw [hstep.out]
        have h6 := (hset.out ((r * 4294967296 + x) / y))
        have h7 := h6
        unfold Blk at h7 ⊢
        have h8 : (w2.setCell ⟨w.heap.size, j, none⟩ (.int .u32 (((r * 4294967296 + x) / y : Nat)))).heap[w.heap.size]? = (wr.setCell ⟨w.heap.size, j, none⟩ (.int .u32 (((r * 4294967296 + x) / y : Nat)))).heap[w.heap.size]? := by
          simp only [World.setCell, Array.getElem?_modify, if_true]
          rw [hb2.block _ hgl]
        rw [h8]; exact h7
      case measure => simp [intOf]
    | zero =>
      have hkn : k = n := by omega
      have HK := Lib.hid hkn
      rw [hkn, List.replicate_zero, List.nil_append] at hblk
      have hrow := hblk.row (n := n) (c := n) (by rw [← hkn]; exact g1.symm) (Nat.le_refl _) (by omega)
      have hv : (divGo ws y k).2 = val ws % y := by
        have e0 : ws.length - k = 0 := by have := HL.out; omega
        rw [e0, List.drop_zero] at g4
        rw [g4, Nat.mul_comm, Nat.mul_add_mod, Nat.mod_eq_of_lt g3]
      have HV := Lib.hid hv
      clear hv hkn g1 g2 g3 g4
      go_wp2
      go_ret2
      refine ⟨_, _, ?_, hrow, hbw, fun q hq => by cases hq; exact Nat.le_refl _⟩
      rw [← HV.out]; rfl

end Go.Proofs.Ythpfpnialeoclaa
