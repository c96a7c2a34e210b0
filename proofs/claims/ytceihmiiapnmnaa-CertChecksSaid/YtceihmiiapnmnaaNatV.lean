/- A number's small value; one of its bits. -/
import Derived.Test.YtceihmiiapnmnaaDocW
import Derived.Test.YtceihmiiapnmnaaNatN
import Derived.Test.YtceihmiiapnmnaaFit
import Derived.Test.YtceihmiiapnmnaaNatI
namespace Go.Proofs.Ytceihmiiapnmnaa
open Go Go.RowKit Go.Proofs.Ytceihmiiapnmnaa.Flow
set_option maxRecDepth 100000

/-- What is told of a number as a small one. -/
def GivesUint (N : Nat) (w : World) (e : Ending) (w' : World) : Prop :=
  e = .returned (.tuple #[.int .u64 ((if blen N ≤ 64 then N else 0 : Nat) : Int), .bool (decide (blen N ≤ 64))]) ∧ Below w.heap.size w w'

theorem val_two {ws : List Nat} (hw : Words ws) (h : ws.length ≤ 2) : val ws = ws.getD 1 0 * 4294967296 + ws.getD 0 0 := by
  match ws, h with
  | [], _ => simp [val]
  | [x], _ => simp [val]
  | [x, y], _ => simp [val]; omega

set_option maxHeartbeats 1000000 in
theorem uint_calls (w : World) (p : Option Addr) (n c N : Nat) (h : NatAt w p n c N) (hn : n < 1000000) :
    Calls Try.prog 29 #[.agg #[.slice p n c]] w (GivesUint N w) := by
  have hbx := Box1.mk1 w (.slice p n c) 43
  by_cases hN : blen N ≤ 64
  · have hn2 : n ≤ 2 := h.len_le (k := 2) (by have := (blen_le N 64).1 hN; exact this)
    obtain ⟨ws, r1, r2, r3, r4⟩ := h.ex
    have hv := val_two r2 (by have := r1.len; omega)
    obtain ⟨y, hy⟩ : ∃ y, ws.getD 1 0 = y := ⟨_, rfl⟩
    obtain ⟨x, hx⟩ : ∃ x, ws.getD 0 0 = x := ⟨_, rfl⟩
    have hy4 : y < 4294967296 := by rw [← hy]; exact r2.get 1
    have hx4 : x < 4294967296 := by rw [← hx]; exact r2.get 0
    rw [hy, hx, r4] at hv
    have HY := Lib.hid hy
    have HX := Lib.hid hx
    have HV := Lib.hid hv
    have HB : Hid (blen N ≤ 64) := Lib.hid hN
    have HI : Hid (¬ (64 : Int) < (blen N : Nat)) := Lib.hid (by omega)
    clear hv hx hy r4 hN
    go_enter Try.func29, Try.ntmps29
    go_wp2_with fail
    refine (bits_calls _ p n c N (h.below hbx.bel) hn).mono ?_
    rintro e w1 ⟨rfl, hb1⟩
    have hbx1 := hbx.later hb1
    have hI := HI.out
    go_wp2
    clear hI
    have t1 : IntKind.u64.wrap ((y : Int) * 4294967296) = (y : Int) * 4294967296 := IntWalk.u64_in _ (by omega)
    have t2 := shl32_or y x hy4 hx4
    have t3 : IntKind.u64.wrap (y : Int) = y := IntWalk.u64_in _ (by omega)
    have t4 : IntKind.u64.wrap (x : Int) = x := IntWalk.u64_in _ (by omega)
    refine wp_region_duties (by kernel_rfl) (by kernel_rfl)
      [some (.agg #[.slice p n c]), none, some (.int .u64 y), some (.int .u64 ((y : Int) * 4294967296)), some (.agg #[.slice p n c]), none, some (.int .u64 x), some (.int .u64 ((y * 4294967296 + x : Nat) : Int)),
        some (.int .u64 ((y * 4294967296 + x : Nat) : Int)), some (.bool true)]
      [false, true, false, false, false, true, false, false, false, false] rfl
      (fun _ _ => True)
      (fun _ w' => Box1 w w' (.slice p n c))
      (fun i v w' => match i with
        | 1 => v = .int .u32 y
        | _ => v = .int .u32 x)
      (fun _ _ _ _ h _ => h) (hbx1.below (Below.refl _ _).drew (Nat.le_refl _)) ?_ ?_
    · simp only [Duties, Nat.reduceAdd]
      refine ⟨?_, ?_, ?_, ?_, ?_, ?_, ?_, ?_, ?_, ?_, trivial⟩
      case refine_2 =>
        intro D sp w' hD hW hdp hbx'
        (with_reducible refine asked_call (w1 := w') (f := 51) (args := #[.agg #[.slice p n c], .int .i64 1]) ?_ ?_ ?_)
        · simp only [Region.wanted]
        · simp [Act.eval, Act.put, go_sem]
        · refine (word_calls w' p n c ws 1 y (r1.below hbx'.bel) (by omega) HY.out).mono ?_
          rintro e w2 ⟨rfl, hb⟩
          exact ⟨_, rfl, trivial, rfl, hbx'.later hb⟩
      case refine_6 =>
        intro D sp w' hD hW hdp hbx'
        (with_reducible refine asked_call (w1 := w') (f := 51) (args := #[.agg #[.slice p n c], .int .i64 0]) ?_ ?_ ?_)
        · simp only [Region.wanted]
        · simp [Act.eval, Act.put, go_sem]
        · refine (word_calls w' p n c ws 0 x (r1.below hbx'.bel) (by omega) HX.out).mono ?_
          rintro e w2 ⟨rfl, hb⟩
          exact ⟨_, rfl, trivial, rfl, hbx'.later hb⟩
      case refine_3 =>
        intro D sp w' hD hW hdp hbx'
        have k1 : sp 1 = .int .u32 y := (hdp 1 (List.mem_of_elem_eq_true (by kernel_rfl))).2
        simp [asked, Region.wanted, Oper.gives, execOp, Act.eval, Act.put, go_sem, k1, t3]
      case refine_7 =>
        intro D sp w' hD hW hdp hbx'
        have k1 : sp 5 = .int .u32 x := (hdp 5 (List.mem_of_elem_eq_true (by kernel_rfl))).2
        simp [asked, Region.wanted, Oper.gives, execOp, Act.eval, Act.put, go_sem, k1, t4]
      all_goals
        intro D sp w' hD hW hdp hbx'
        have c0 := hbx'.c0
        simp [asked, Region.wanted, Oper.gives, execOp, Act.eval, Act.put, go_sem, c0, t1, t2]
    · intro sp w' hsp hbx'
      clear hsp t1 t2 t3 t4
      simp only [frameOf, Nat.reduceAdd]
      generalize sp 1 = u1 at *
      generalize sp 5 = u5 at *
      go_simp
      go_wp2
      go_ret2
      refine ⟨?_, hbx'.bel⟩
      have hB := HB.out
      rw [if_pos hB, decide_eq_true hB, HV.out]
      simp
  · have HB : Hid (¬ blen N ≤ 64) := Lib.hid hN
    have HI : Hid ((64 : Int) < (blen N : Nat)) := Lib.hid (by omega)
    clear hN
    go_enter Try.func29, Try.ntmps29
    go_wp2_with fail
    refine (bits_calls _ p n c N (h.below hbx.bel) hn).mono ?_
    rintro e w1 ⟨rfl, hb1⟩
    have hbx1 := hbx.later hb1
    have hI := HI.out
    go_wp2
    go_ret2
    refine ⟨?_, hbx1.bel⟩
    rw [if_neg HB.out, decide_eq_false HB.out]
    rfl

theorem bit_word {N i x : Nat} (h : N / B32 (i / 32) % 4294967296 = x) : x / 2 ^ (i % 32) % 2 = (bit N i).toNat := by
  have e : B32 (i / 32) = 2 ^ (32 * (i / 32)) := by unfold B32; rw [Nat.pow_mul]
  have h2 : bit N i = bit x (i % 32) := by
    rw [bit_testBit, bit_testBit, ← h, e, show (4294967296 : Nat) = 2 ^ 32 from rfl, Nat.testBit_mod_two_pow, Nat.testBit_div_two_pow]
    have : i % 32 < 32 := Nat.mod_lt _ (by omega)
    rw [Nat.mod_add_div]
    simp [this]
  rw [h2]
  unfold bit
  by_cases h3 : x / 2 ^ (i % 32) % 2 = 1
  · simp [h3]
  · have h4 : x / 2 ^ (i % 32) % 2 < 2 := Nat.mod_lt _ (by omega)
    have : x / 2 ^ (i % 32) % 2 = 0 := by omega
    simp [this]

/-- One of a number's bits, at any place. -/
def bitAt (N : Nat) (i : Int) : Nat := if 0 ≤ i then (bit N i.toNat).toNat else 0

set_option maxHeartbeats 1000000 in
theorem bit_calls (w : World) (p : Option Addr) (n c N : Nat) (i : Int) (h : NatAt w p n c N) (_hn : n < 1000000) (hi : -9223372036854775808 ≤ i) (hi2 : i ≤ 9223372036854775807) :
    Calls Try.prog 87 #[.agg #[.slice p n c], .int .i64 i] w fun e w' => e = .returned (.int .i64 (bitAt N i : Nat)) ∧ Below w.heap.size w w' := by
  have hbx := Box1.mk1 w (.slice p n c) 43
  by_cases h0 : i < 0
  · have HA : Hid (bitAt N i = 0) := Lib.hid (by unfold bitAt; rw [if_neg (by omega)])
    go_enter Try.func87, Try.ntmps87
    go_wp2
    go_ret
    exact ⟨by rw [HA.out]; rfl, hbx.bel⟩
  · obtain ⟨j, rfl⟩ := Int.eq_ofNat_of_zero_le (show 0 ≤ i by omega)
    have HA : Hid (bitAt N (j : Int) = (bit N j).toNat) := Lib.hid (by unfold bitAt; rw [if_pos (by omega), Int.toNat_natCast])
    obtain ⟨ws, r1, r2, r3, r4⟩ := h.ex
    obtain ⟨q, hq⟩ : ∃ q, j / 32 = q := ⟨_, rfl⟩
    obtain ⟨r, hr⟩ : ∃ r, j % 32 = r := ⟨_, rfl⟩
    obtain ⟨x, hx⟩ : ∃ x, ws.getD q 0 = x := ⟨_, rfl⟩
    have hx4 : x < 4294967296 := by rw [← hx]; exact r2.get _
    have hd := digit ws r2 q
    rw [hx, r4] at hd
    have hbw := bit_word (N := N) (i := j) (x := x) (by rw [hq]; exact hd)
    rw [hr] at hbw
    have hr5 : r < 32 := by omega
    have HX := Lib.hid hx
    have HW := Lib.hid hbw
    have eq1 : Hid ((j : Int) / 32 = (q : Nat)) := Lib.hid (by omega)
    have er1 : Hid ((j : Int) % 32 = (r : Nat)) := Lib.hid (by omega)
    have hq9 : q < 9223372036854775807 := by omega
    have hz4 : x / 2 ^ r < 4294967296 := Nat.lt_of_le_of_lt (Nat.div_le_self _ _) hx4
    have hand : bits BinOp.and IntKind.u32 ((x : Int) / 2 ^ r) 1 = ((x / 2 ^ r % 2 : Nat) : Int) := by
      have e1 : ((x : Int) / 2 ^ r) = ((x / 2 ^ r : Nat) : Int) := by simp [Int.natCast_ediv]
      have := u32_and_nat (x / 2 ^ r) 1 hz4 (by omega)
      rw [e1]
      exact this.trans (by rw [Nat.and_one_is_mod])
    have HAN := Lib.hid hand
    clear hd hbw hx hq hr r4 hand
    go_enter Try.func87, Try.ntmps87
    go_wp2_with fail
    rw [eq1.out]
    refine (word_calls _ p n c ws q x (r1.below hbx.bel) (by omega) HX.out).mono ?_
    rintro e w1 ⟨rfl, hb1⟩
    have hbx1 := hbx.later hb1
    have hE := er1.out
    go_wp2
    clear hE
    go_ret
    refine ⟨?_, hbx1.bel⟩
    rw [HAN.out, HW.out, HA.out, IntWalk.wrap64_in _ (by have : (bit N j).toNat ≤ 1 := Bool.toNat_le _; omega)]
    rfl

end Go.Proofs.Ytceihmiiapnmnaa
