/- The document's step. -/
import Derived.Test.YtcbhgfiafamflaaGreatDoorRing
set_option maxRecDepth 1000000
set_option maxHeartbeats 16000000
namespace Go.Proofs.YtcbhgfiafamflaaGreatDoor
open Go Go.RowKit Go.Proofs.YtcbhgfiafamflaaGreatDoor.Flow
theorem value_calls (w : World) (p : Option Addr) (n c N : Nat) (h : BitsAt w p n c N) :
  Calls Tryz.prog 118 #[.slice p n c] w fun e w' => e = .returned (.int .i64 (if N < 65536 then (N : Int) else -1)) ∧ Below w.heap.size w w' := by
 have hn := bits_len h
 by_cases h16 : 16 < n
 ·have hN : ¬ N < 65536 := fun hlt => by have := (blen_le N 16).2 hlt; omega
  have h16' : (16 : Int) < n := by omega
  rw [if_neg hN]
  clear hN
  go_enter Tryz.func118, Tryz.ntmps118
  go_wp2
  go_ret
  exact ⟨rfl, Below.refl _ _⟩
 ·have hN : N < 65536 := (blen_le N 16).1 (by omega)
  have h16' : ¬ (16 : Int) < n := by omega
  rw [if_pos hN]
  have HN : Hold _ := ⟨hn⟩
  have HL : Hold (N < 2 ^ n) := ⟨by rw [hn]; exact blen_lt N⟩
  have HH : Hold _ := ⟨h⟩
  clear hN hn h
  go_enter Tryz.func118, Tryz.ntmps118
  go_wp2
  go_loopw [3, 11] (fun sv iv wr => w = wr ∧ ∃ k : Nat, k ≤ n ∧ iv = .int .i64 k ∧ sv = .int .i64 ((N % 2 ^ k : Nat) : Int)) (fun _ iv _ => n - (intOf iv).toNat)
  case atStart => exact ⟨rfl, 0, by omega, rfl, by simp [Nat.mod_one]⟩
  case round =>
   obtain ⟨rfl, k, hk, rfl, rfl⟩ := hrel
   obtain ⟨V, hV⟩ : ∃ V, N % 2 ^ k = V := ⟨_, rfl⟩
   rw [hV]
   by_cases hkn : k < n
   ·obtain ⟨b, off, rfl, hb, hc⟩ := BRow.pos HH.out (by omega)
    have hci := hc k (bit N k) (bitsOf_get (by rw [← HN.out]; exact hkn))
    have hk16 : k < 16 := by omega
    have hsh : ∀ x : Nat, x < 16 → (1 : Int) * 2 ^ x = ((2 ^ x : Nat) : Int) := fun x _ => by simp
    have h2k : 2 ^ k ≤ 32768 := by
     have : 2 ^ k ≤ 2 ^ 15 := Nat.pow_le_pow_right (by omega) (by omega)
     omega
    have hV2 : V < 2 ^ k := by rw [← hV]; exact Nat.mod_lt _ (Nat.pow_pos (by omega))
    have HS : Hold (N % 2 ^ (k + 1) = V + (if bit N k then 2 ^ k else 0)) := ⟨by rw [← hV]; exact mod_bit N k⟩
    clear hc hV
    cases hbit : bit N k with
    | true =>
     rw [hbit] at hci HS
     go_wp2
     go_roundw
     case rel =>
      refine ⟨trivial, k + 1, by omega, by go_num, ?_⟩
      rw [HS.out, if_pos rfl, show (2 : Int) ^ k = ((2 ^ k : Nat) : Int) by simp]
      generalize 2 ^ k = P at *
      congr 1
      unfold wrap64
      omega
     case measure => simp [intOf]; omega
    | false =>
     rw [hbit] at hci HS
     go_wp2
     go_roundw
     case rel => exact ⟨trivial, k + 1, by omega, by go_num, by rw [HS.out]; simp⟩
     case measure => simp [intOf]; omega
   ·obtain rfl : k = n := by omega
    have HV : Hold (V = N) := ⟨by rw [← hV]; exact Nat.mod_eq_of_lt HL.out⟩
    clear hV
    go_wp2
    go_ret
    exact ⟨by rw [HV.out]; rfl, Below.refl _ _⟩
open Classical in
theorem dsmall_calls (w : World) (p : Option Addr) (n c N : Nat) (h : BitsAt w p n c N) :
  Calls Tryz.prog 81 #[.slice p n c] w fun e w' => e = .returned (.bool (decide (SmallP N))) ∧ Below w.heap.size w w' := by
 obtain ⟨V, hV⟩ : ∃ V : Int, (if N < 65536 then (N : Int) else -1) = V := ⟨_, rfl⟩
 by_cases h2 : V < 2
 ·have hno : Hold (decide (SmallP N) = false) := ⟨decide_eq_false fun hs => by
   rw [if_pos hs.2.1] at hV
   have := hs.1; omega⟩
  go_enter Tryz.func81, Tryz.ntmps81
  go_wp2_with fail
  refine (value_calls w p n c N h).mono ?_
  rintro e w1 ⟨rfl, hb⟩
  rw [hV]
  clear hV
  go_wp2
  go_ret
  exact ⟨by rw [hno.out]; rfl, hb⟩
 ·have hlt : N < 65536 := Nat.lt_of_not_le fun hge => by rw [if_neg (by omega)] at hV; omega
  rw [if_pos hlt] at hV
  subst hV
  have h2' : ¬ (N : Int) < 2 := h2
  have HLT : Hold (N < 65536) := ⟨hlt⟩
  have H2 : Hold (2 ≤ N) := ⟨by omega⟩
  go_enter Tryz.func81, Tryz.ntmps81
  go_wp2_with fail
  refine (value_calls w p n c N h).mono ?_
  rintro e w1 ⟨rfl, hb⟩
  rw [if_pos hlt]
  clear h
  have HB : Hold _ := ⟨hb⟩
  clear hb h2
  go_wp2
  go_loopw [4] (fun dv wr => w1 = wr ∧ ∃ d : Nat, 2 ≤ d ∧ d ≤ 256 ∧ dv = .int .i64 d ∧ Hold (∀ e, 2 ≤ e → e < d → N % e ≠ 0)) (fun dv _ => 300 - (intOf dv).toNat)
  case atStart => exact ⟨rfl, 2, by omega, by omega, rfl, ⟨fun e h1 h2 => by omega⟩⟩
  case round =>
   obtain ⟨rfl, d, hd2, hd, rfl, HD⟩ := hrel
   obtain ⟨S, hS⟩ : ∃ S, d * d = S := ⟨_, rfl⟩
   have hS' : (d : Int) * d = (S : Nat) := by rw [← hS]; simp
   have hSl : S ≤ 65536 := by rw [← hS]; exact Nat.mul_le_mul hd hd
   by_cases hdd : S ≤ N
   ·have hdlt : d < 256 := Nat.lt_of_not_le fun hge => by
     have := Nat.mul_le_mul hge hge
     have := HLT.out
     omega
    have hmod : (N : Int).tmod d = ((N % d : Nat) : Int) := by rw [Int.tmod_eq_emod_of_nonneg (by omega)]; simp
    obtain ⟨R, hR⟩ : ∃ R, N % d = R := ⟨_, rfl⟩
    rw [hR] at hmod
    have hd0 : ¬ (d : Int) = 0 := by omega
    have hdd' : (S : Int) ≤ N := by omega
    rcases Nat.eq_zero_or_pos R with h0 | h0
    ·have hno : Hold (decide (SmallP N) = false) := ⟨decide_eq_false fun hs => hs.2.2 d hd2 (by omega) (by omega)⟩
     subst h0
     have hS2 := Lib.hid hS
     have hR2 := Lib.hid hR
     clear hS hR
     go_wp2
     go_ret
     exact ⟨by rw [hno.out]; rfl, HB.out⟩
    ·have hR0 : ((R : Int) == 0) = false := by rw [beq_eq_false_iff_ne]; omega
     have HD' : Hold (∀ e, 2 ≤ e → e < d + 1 → N % e ≠ 0) := ⟨fun e h1 h2 => by
      rcases (by omega : e < d ∨ e = d) with h3 | rfl
      ·exact HD.out e h1 h3
      ·rw [hR]; omega⟩
     have hS2 := Lib.hid hS
     have hR2 := Lib.hid hR
     clear hS hR
     go_wp2
     go_roundw
     case rel => exact ⟨trivial, d + 1, by omega, by omega, by go_num, HD'⟩
     case measure => simp [intOf]; omega
   ·have hyes : Hold (decide (SmallP N) = true) := ⟨decide_eq_true ⟨H2.out, HLT.out, fun e h1 h2 => HD.out e h1 (Nat.lt_of_not_le fun hge => by
     have := Nat.mul_le_mul hge hge; omega)⟩⟩
    have hdd' : ¬ (S : Int) ≤ N := by omega
    have hS2 := Lib.hid hS
    clear hS
    go_wp2
    go_ret
    exact ⟨by rw [hyes.out]; rfl, HB.out⟩
theorem dsame_fit {w : World} {v u : Value} {N M : Nat} (h : RBits N v w) (k : RBits M u w) (hN : blen N ≤ 1000000) (hM : blen M ≤ 1000000) :
  Calls Tryz.prog 141 #[v, u] w fun e w' => e = .returned (.bool (decide (N = M))) ∧ Below w.heap.size w w' := by
 go_enter Tryz.func141, Tryz.ntmps141
 go_wp2_with fail
 refine (rcmp_fit h k hN hM).mono ?_
 rintro e w' ⟨_, rfl, rfl, hb⟩
 have e0 : ((cmpI N M : Int) == 0) = decide (N = M) := by
  by_cases hnm : N = M
  ·simp [hnm, cmpI_zero.2]
  ·have : cmpI N M ≠ 0 := fun h0 => hnm (cmpI_zero.1 h0)
   simp [hnm, this]
 have HE := Lib.hid e0
 have hbb := Lib.hid hb
 generalize cmpI N M = K at *
 clear e0 hb
 go_wp2
 go_ret
 exact ⟨by rw [← HE.out]; rfl, hbb.out⟩
end Go.Proofs.YtcbhgfiafamflaaGreatDoor
namespace Go.Proofs.YtcbhgfiafamflaaGreatDoor
open Go Go.RowKit Go.Proofs.YtcbhgfiafamflaaGreatDoor.Flow
theorem dpow_step (A E M i : Nat) (b : Bool) (hb : bit E i = b) : A ^ (E / 2 ^ i) % M = if b then ((A ^ (E / 2 ^ (i + 1)) % M * (A ^ (E / 2 ^ (i + 1)) % M)) % M * (A % M)) % M else (A ^ (E / 2 ^ (i + 1)) % M * (A ^ (E / 2 ^ (i + 1)) % M)) % M := by
 rw [bit_div E i, hb]
 generalize E / 2 ^ (i + 1) = q
 have e : A ^ (2 * q) = A ^ q * A ^ q := by rw [← Nat.pow_add]; congr 1; omega
 cases b with
 | false => simp only [Bool.toNat_false, Nat.add_zero, Bool.false_eq_true, if_false, e, ← Nat.mul_mod]
 | true => simp only [Bool.toNat_true, if_true, Nat.pow_succ, e, ← Nat.mul_mod]
theorem dexp_fit {w : World} {v u t : Value} {A E M : Nat} (h : RBits A v w) (k : RBits E u w) (l : RBits M t w) (hA : blen A ≤ 100000) (hE : blen E ≤ 100000) (hM : blen M ≤ 100000) (hM0 : 0 < M) :
  Calls Tryz.prog 44 #[v, u, t] w fun en w' => ∃ x, en = .returned x ∧ RBits (A ^ E % M) x w' ∧ Below w.heap.size w w' := by
 obtain ⟨p, n, c, rfl, h⟩ := h
 obtain ⟨q, m, d, rfl, k⟩ := k
 obtain ⟨r, s, e, rfl, l⟩ := l
 have hm := bits_len k
 have HM : Hold (m = blen E) := ⟨hm⟩
 have HA : Hold _ := ⟨h⟩
 have HE : Hold _ := ⟨k⟩
 have HL : Hold _ := ⟨l⟩
 have hmm : m ≤ 100000 := by omega
 have hblm : Hold (∀ x, blen (x % M) ≤ 100000) := ⟨fun x => Nat.le_trans (blen_mono (Nat.le_of_lt (Nat.mod_lt x hM0))) hM⟩
 clear h k l hm
 go_enter Tryz.func44, Tryz.ntmps44
 go_wp2_with fail
 refine (small_calls 1 w (by decide)).mono ?_
 rintro en w1 ⟨p1, n1, c1, rfl, hn1, hb1, _⟩
 have HL1 : Hold _ := ⟨HL.out.below hb1⟩
 go_wp2_with fail
 refine (dof_fit (RBits.of hn1) (RBits.of HL1.out) (by have : blen 1 ≤ 1 := (blen_le 1 1).2 (by decide); omega) (by omega) hM0).mono ?_
 rintro en w2 ⟨x2, rfl, hx2, hb2⟩
 have HX2 : Hold _ := ⟨hx2⟩
 have HB2 : Hold _ := ⟨bstep hb1 hb2⟩
 clear hn1 hb1 hx2 hb2
 go_wp2_with fail
 refine (dof_fit (RBits.of (HA.out.below HB2.out)) (RBits.of (HL.out.below HB2.out)) (by omega) (by omega) hM0).mono ?_
 rintro en w3 ⟨x3, rfl, hx3, hb3⟩
 have HX3 : Hold _ := ⟨hx3⟩
 have HX2' : Hold _ := ⟨HX2.out.below hb3⟩
 have HB3 : Hold _ := ⟨bstep HB2.out hb3⟩
 clear hx3 hb3
 go_wp2
 go_loopw [7, 8] (fun rv iv wr => ∃ j : Nat, j ≤ m ∧ iv = .int .i64 ((j : Int) - 1) ∧ Hold (RBits (A ^ (E / 2 ^ j) % M) rv wr) ∧ Hold (Below w3.heap.size w3 wr)) (fun _ iv _ => (intOf iv + 1).toNat)
 case atStart =>
  refine ⟨m, Nat.le_refl _, rfl, ⟨?_⟩, ⟨Below.refl _ _⟩⟩
  rw [HM.out, Nat.div_eq_of_lt (blen_lt E), Nat.pow_zero]
  exact HX2'.out
 case round =>
  obtain ⟨j, hj, rfl, HR, HBr⟩ := hrel
  cases j with
  | zero =>
   have HR0 : Hold (RBits (A ^ E % M) u7 wr) := ⟨by have := HR.out; rwa [Nat.pow_zero, Nat.div_one] at this⟩
   go_wp2
   go_ret
   exact ⟨_, rfl, HR0.out, bstep HB3.out HBr.out⟩
  | succ j =>
   have e1 : (((j + 1 : Nat) : Int) - 1) = (j : Int) := by omega
   simp only [e1]
   have HBr3 : Hold _ := ⟨bstep HB3.out HBr.out⟩
   have HEr : Hold _ := ⟨HE.out.below HBr3.out⟩
   have HLr : Hold _ := ⟨HL.out.below HBr3.out⟩
   have HS : Hold _ := ⟨fun b hb => dpow_step A E M j b hb⟩
   clear e1
   go_wp2_with fail
   refine (dmul_fit HR.out HR.out (RBits.of HLr.out) (hblm.out _) (hblm.out _) (by omega) hM0).mono ?_
   rintro en w4 ⟨x4, rfl, hx4, hb4⟩
   have HE4 : Hold _ := ⟨HEr.out.below hb4⟩
   obtain ⟨b, off, rfl, hbs, hc⟩ := BRow.pos HE4.out (by omega)
   obtain ⟨B, hB⟩ : ∃ B, bit E j = B := ⟨_, rfl⟩
   have hcj := hc j B (by rw [← hB]; exact bitsOf_get (by rw [← HM.out]; omega))
   have HX4 : Hold _ := ⟨hx4⟩
   have HB4 : Hold _ := ⟨HBr.out.trans (hb4.mono HBr.out.size)⟩
   have HPS := HS.out B hB
   have HX34 : Hold _ := ⟨(HX3.out.below HBr.out).below hb4⟩
   have HL4 : Hold _ := ⟨HLr.out.below hb4⟩
   have HP : Hold _ := ⟨HPS⟩
   clear hx4 hb4 hc hB HPS
   cases B with
   | false =>
    go_wp2
    go_roundw
    case rel => exact ⟨j, by omega, rfl, ⟨by rw [HP.out, if_neg (by simp)]; exact HX4.out⟩, HB4⟩
    case measure => simp [intOf]
   | true =>
    go_wp2_with fail
    refine (dmul_fit HX4.out HX34.out (RBits.of HL4.out) (hblm.out _) (hblm.out _) (by omega) hM0).mono ?_
    rintro en w5 ⟨x5, rfl, hx5, hb5⟩
    have HX5 : Hold _ := ⟨hx5⟩
    have HB5 : Hold _ := ⟨HB4.out.trans (hb5.mono HB4.out.size)⟩
    clear hx5 hb5
    go_wp2
    go_roundw
    case rel => exact ⟨j, by omega, rfl, ⟨by rw [HP.out, if_pos trivial]; exact HX5.out⟩, HB5⟩
    case measure => simp [intOf]
end Go.Proofs.YtcbhgfiafamflaaGreatDoor
namespace Go.Proofs.YtcbhgfiafamflaaGreatDoor
open Go Go.RowKit Go.Proofs.YtcbhgfiafamflaaGreatDoor.Flow
structure NList (w : World) (p : Option Addr) (n c : Nat) (Ns : List Nat) : Prop where
 len : n = Ns.length
 cap : n ≤ c
 max : c ≤ 9223372036854775807
 at_ : 0 < n → ∃ b off, p = some ⟨b, off, none⟩ ∧ b < w.heap.size ∧ ∀ i N, Ns[i]? = some N → ∃ q m d, w.cell? ⟨b, off + i, none⟩ = some (.slice q m d) ∧ BitsAt w q m d N
theorem NList.below {w w' : World} {p : Option Addr} {n c : Nat} {Ns : List Nat} (h : NList w p n c Ns) (hb : Below w.heap.size w w') : NList w' p n c Ns := by
 refine ⟨h.len, h.cap, h.max, fun h0 => ?_⟩
 obtain ⟨b, off, h1, h2, h3⟩ := h.at_ h0
 refine ⟨b, off, h1, Nat.lt_of_lt_of_le h2 hb.size, fun i N hN => ?_⟩
 obtain ⟨q, m, d, h4, h5⟩ := h3 i N hN
 exact ⟨q, m, d, by rw [hb.cell (p := ⟨b, off + i, none⟩) h2]; exact h4, h5.below hb⟩
structure SBoxD (w : World) (b : Nat) (v0 v1 v2 : Value) : Prop where
 at_ : w.heap[b]? = some (.cells #[v0, v1, v2] 43 (0, 0))
theorem SBoxD.below {w w' : World} {b : Nat} {v0 v1 v2 : Value} (h : SBoxD w b v0 v1 v2) (hb : Below w.heap.size w w') : SBoxD w' b v0 v1 v2 := ⟨by rw [hb.block b (Array.getElem?_eq_some_iff.1 h.at_).1]; exact h.at_⟩
theorem SBoxD.cells {w : World} {b : Nat} {v0 v1 v2 : Value} (h : SBoxD w b v0 v1 v2) : w.cell? ⟨b, 0, none⟩ = some v0 ∧ w.cell? ⟨b, 1, none⟩ = some v1 ∧ w.cell? ⟨b, 2, none⟩ = some v2 := by
 have := h.at_
 exact ⟨by simp [World.cell?, this], by simp [World.cell?, this], by simp [World.cell?, this]⟩
theorem blen_pwl {n L : Nat} (hn : 0 < n) (hL : blen n ≤ L) : ∀ (ps : List Nat), blen (pwl n ps) ≤ L * ps.length + 1 := by
 refine snoc_ind ?_ ?_
 ·show blen 1 ≤ _
  have : blen 1 ≤ 1 := (blen_le 1 1).2 (by decide)
  omega
 ·intro l x ih
  rw [pwl_snoc, List.length_append, List.length_singleton, Nat.mul_succ]
  have h1 := blen_mul_le (pwl n l) (pw x n n)
  have h2 : blen (pw x n n) ≤ blen n := blen_mono (Nat.le_of_dvd hn (pw_dvd x n n))
  omega
theorem asked_not {P : Program} {o : Oper} {ops : Array Oper} {a : Act} {w : World} {K : Value → World → Prop}
  (hw : Region.wanted o (yielded ops a.tmps) = false) (hk : K undef w) : asked P o ops a w K := by
 unfold asked
 rw [if_neg (by rw [hw]; exact Bool.false_ne_true)]
 exact hk
open Classical in
theorem there_succ {P X i : Nat} {bs : List Nat} (h : bs[i]? = some X) : decide (SmallP P ∨ P ∈ bs.take (i + 1)) = (decide (SmallP P ∨ P ∈ bs.take i) || decide (X = P)) := by
 have hi : i < bs.length := (List.getElem?_eq_some_iff.1 h).1
 have e : bs[i] = X := by rw [List.getElem?_eq_getElem hi] at h; exact Option.some.inj h
 rw [List.take_succ_eq_append_getElem hi, e]
 by_cases h1 : SmallP P ∨ P ∈ bs.take i
 ·rw [decide_eq_true h1, decide_eq_true (by rcases h1 with h1 | h1; exact .inl h1; exact .inr (by simp [h1]))]; rfl
 ·rw [decide_eq_false h1, Bool.false_or]
  by_cases h2 : X = P
  ·rw [decide_eq_true h2, decide_eq_true (.inr (by simp [h2]))]
  ·rw [decide_eq_false h2]
   refine decide_eq_false fun h3 => ?_
   rcases h3 with h3 | h3
   ·exact h1 (.inl h3)
   ·rcases List.mem_append.1 h3 with h4 | h4
    ·exact h1 (.inr h4)
    ·simp at h4; exact h2 h4.symm
open Classical in
theorem dholds_calls (w : World) (pN : Option Addr) (nN cN N : Nat) (pB : Option Addr) (nB cB B : Nat) (pp : Option Addr) (np cp : Nat) (ps : List Nat) (pb : Option Addr) (nb cb : Nat) (bs : List Nat)
  (hN : BitsAt w pN nN cN N) (hB : BitsAt w pB nB cB B) (hP : NList w pp np cp ps) (hb : NList w pb nb cb bs)
  (lN : blen N ≤ 1100) (lB : blen B ≤ 1100) (lP : ∀ p ∈ ps, blen p ≤ 1100) (lb : ∀ p ∈ bs, blen p ≤ 1100) (hnp : np ≤ 1000000) (hnb : nb ≤ 1000000) :
  Calls Tryz.prog 119 #[.agg #[.slice pN nN cN, .slice pB nB cB, .slice pp np cp], .slice pb nb cb] w fun e w' => e = .returned (.bool (decide (HoldsP N B ps bs))) ∧ Below w.heap.size w w' := by
 have hnN := bits_len hN
 have hlp := hP.len
 have HNN : Hold _ := ⟨hnN⟩
 have HLP : Hold _ := ⟨hlp⟩
 have ha : Below w.heap.size w (w.alloc (.cells #[.slice pN nN cN, .slice pB nB cB, .slice pp np cp] 43)) := bal
 have HA : Hold _ := ⟨ha⟩
 have HSB : Hold (SBoxD (w.alloc (.cells #[.slice pN nN cN, .slice pB nB cB, .slice pp np cp] 43)) w.heap.size (.slice pN nN cN) (.slice pB nB cB) (.slice pp np cp)) := ⟨⟨heap_alloc_new w _⟩⟩
 have HN : Hold _ := ⟨hN⟩
 have HB : Hold _ := ⟨hB⟩
 have HP : Hold _ := ⟨hP⟩
 have HBe : Hold _ := ⟨hb⟩
 have HlP : Hold _ := ⟨lP⟩
 have Hlb : Hold _ := ⟨lb⟩
 obtain ⟨ANS, hANS⟩ : ∃ A, decide (HoldsP N B ps bs) = A := ⟨_, rfl⟩
 have HANS : Hold _ := ⟨hANS⟩
 rw [hANS]
 clear ha hN hB hP hb lP lb hnN hlp hANS
 go_enter Tryz.func119, Tryz.ntmps119
 go_wp2_with fail
 refine (small_calls 1 _ (by decide)).mono ?_
 rintro en w1 ⟨p1, n1, c1, rfl, hn1, hb1, _⟩
 have HN1 : Hold _ := ⟨hn1⟩
 have HSB1 : Hold _ := ⟨HSB.out.below hb1⟩
 have HB1 : Hold _ := ⟨bstep HA.out hb1⟩
 obtain ⟨c0, c1', c2⟩ := HSB1.out.cells
 clear hn1 hb1 HSB HA
 have hno : Hold ((nN < 2 ∨ np = 0 ∨ 32 < np) → ANS = false) := ⟨fun hbad => by
  rw [← HANS.out]
  refine decide_eq_false fun h => ?_
  have h1 := h.two
  have h2 := h.some
  have h3 := h.few
  rw [HNN.out, HLP.out] at hbad
  rcases hbad with h4 | h4 | h4
  ·have : blen N ≤ 1 := by omega
   have := (blen_le N 1).1 this
   omega
  ·exact h2 (List.eq_nil_of_length_eq_zero h4)
  ·omega⟩
 by_cases h1 : nN < 2
 ·have h1' : (nN : Int) < 2 := by omega
  have HF : Hold (ANS = false) := ⟨hno.out (.inl h1)⟩
  clear hno
  go_wp2
  go_ret
  exact ⟨by rw [HF.out]; rfl, HB1.out⟩
 by_cases h2 : np = 0
 ·have h1' : ¬ (nN : Int) < 2 := by omega
  have HF : Hold (ANS = false) := ⟨hno.out (.inr (.inl h2))⟩
  subst h2
  clear hno
  go_wp2
  go_ret
  exact ⟨by rw [HF.out]; rfl, HB1.out⟩
 by_cases h3 : 32 < np
 ·have h1' : ¬ (nN : Int) < 2 := by omega
  have h2' : ((np : Int) == 0) = false := by rw [beq_eq_false_iff_ne]; omega
  have h3' : (32 : Int) < np := by omega
  have HF : Hold (ANS = false) := ⟨hno.out (.inr (.inr h3))⟩
  clear hno
  go_wp2
  go_ret
  exact ⟨by rw [HF.out]; rfl, HB1.out⟩
 have h1' : ¬ (nN : Int) < 2 := by omega
 have h2' : ((np : Int) == 0) = false := by rw [beq_eq_false_iff_ne]; omega
 have h3' : ¬ (32 : Int) < np := by omega
 have hN2 : 2 ≤ N := Nat.lt_of_not_le fun hle => by
  have := (blen_le N 1).2 (by omega)
  have := HNN.out
  omega
 have HN2 : Hold _ := ⟨hN2⟩
 clear hno hN2
 go_wp2_with fail
 refine (rsub_fit (RBits.of (HN.out.below HB1.out)) (RBits.of HN1.out) (by omega) (by have := HN2.out; omega)).mono ?_
 rintro en w2 ⟨x6, rfl, hx6, hb2⟩
 obtain ⟨p6, n6, c6, rfl, h6⟩ := hx6
 have HN6 : Hold _ := ⟨h6⟩
 have HN1' : Hold _ := ⟨HN1.out.below hb2⟩
 have HSB2 : Hold _ := ⟨HSB1.out.below hb2⟩
 have HB2 : Hold _ := ⟨bstep HB1.out hb2⟩
 have LN : Hold (blen (N - 1) ≤ 1100) := ⟨Nat.le_trans (blen_mono (Nat.sub_le _ _)) lN⟩
 have hpl : Hold (∀ k, blen (pwl (N - 1) (ps.take k)) ≤ 1100 * k + 1) := ⟨fun k => Nat.le_trans (blen_pwl (by have := HN2.out; omega) LN.out (ps.take k)) (by
  have : (ps.take k).length ≤ k := List.length_take_le _ _
  have := Nat.mul_le_mul_left 1100 this
  omega)⟩
 obtain ⟨d0, d1, d2⟩ := HSB2.out.cells
 clear h6 hb2 HSB1 HN1 c0 c1' c2 HB1
 go_wp2
 go_loopw [7, 45] (fun fv iv wr => ∃ k : Nat, k ≤ np ∧ iv = .int .i64 k ∧ Hold (RBits (pwl (N - 1) (ps.take k)) fv wr) ∧ Hold (∀ i p, i < k → ps[i]? = some p → OneOk N B bs ps i p) ∧ Hold (Below w2.heap.size w2 wr)) (fun _ iv _ => np - (intOf iv).toNat)
 case atStart => exact ⟨0, by omega, rfl, ⟨RBits.of HN1'.out⟩, ⟨fun i p h => by omega⟩, ⟨Below.refl _ _⟩⟩
 case round =>
  obtain ⟨k, hk, rfl, HF, HO, HBr⟩ := hrel
  have HSr : Hold _ := ⟨HSB2.out.below HBr.out⟩
  obtain ⟨e0, e1, e2⟩ := HSr.out.cells
  by_cases hkn : k < np
  ·obtain ⟨P, hPk⟩ : ∃ P, ps[k]? = some P := ⟨ps[k]'(by rw [← HLP.out]; exact hkn), List.getElem?_eq_getElem _⟩
   have HBw : Hold _ := ⟨bstep HB2.out HBr.out⟩
   obtain ⟨bp, op, rfl, hbp, hcp⟩ := (HP.out.below HBw.out).at_ (by omega)
   obtain ⟨q9, m9, d9, h9, hn9⟩ := hcp k P hPk
   have HCP : Hold _ := ⟨hcp⟩
   have H9 : Hold _ := ⟨hn9⟩
   have HPk : Hold _ := ⟨hPk⟩
   have hlP : blen P ≤ 1100 := HlP.out P (List.mem_of_getElem? hPk)
   clear hcp hn9 hPk d0 d1 d2
   obtain ⟨wA, hwA⟩ : ∃ x, x = wr := ⟨_, rfl⟩
   subst hwA
   go_wp2
   go_loopw [10] (fun jv wq => ∃ j : Nat, j ≤ k ∧ jv = .int .i64 j ∧ Hold (∀ i p, i < j → ps[i]? = some p → p ≠ P) ∧ Hold (Below wA.heap.size wA wq)) (fun jv _ => k - (intOf jv).toNat)
   case atStart => exact ⟨0, by omega, rfl, ⟨fun i p h => by omega⟩, ⟨Below.refl _ _⟩⟩
   case round =>
    have hfail : Hold (¬ OneOk N B bs ps k P → ANS = false) := ⟨fun hn => by
     rw [← HANS.out]
     exact decide_eq_false fun h => hn (h.each k P HPk.out)⟩
    obtain ⟨j, hj, rfl, HJ, HBq⟩ := hrel
    have HSq : Hold _ := ⟨HSr.out.below HBq.out⟩
    obtain ⟨f0, f1, f2⟩ := HSq.out.cells
    have H9q : Hold _ := ⟨H9.out.below HBq.out⟩
    by_cases hjk : j < k
    ·obtain ⟨X, hXj⟩ : ∃ X, ps[j]? = some X := ⟨ps[j]'(by rw [← HLP.out]; omega), List.getElem?_eq_getElem _⟩
     obtain ⟨qx, mx, dx, hx, hnx⟩ := HCP.out j X hXj
     have hxq : wr.cell? ⟨bp, op + j, none⟩ = some (.slice qx mx dx) := by rw [(HBq.out).cell (p := ⟨bp, op + j, none⟩) hbp]; exact hx
     have HNX : Hold _ := ⟨hnx.below HBq.out⟩
     have hlX : blen X ≤ 1100 := HlP.out X (List.mem_of_getElem? hXj)
     have HXj : Hold _ := ⟨hXj⟩
     clear hx hnx hXj e0 e1 e2 h9
     go_wp2_with fail
     refine (dsame_fit (RBits.of H9q.out) (RBits.of HNX.out) (by omega) (by omega)).mono ?_
     rintro en w3 ⟨rfl, hb3⟩
     by_cases hPX : P = X
     ·rw [decide_eq_true hPX]
      have HF : Hold (ANS = false) := ⟨hfail.out fun hok => hok.1 (by
       rw [hPX]
       exact List.mem_of_getElem? (i := j) (by rw [List.getElem?_take, if_pos hjk]; exact HXj.out))⟩
      have HBe' : Hold _ := ⟨bstep (bstep HBw.out HBq.out) hb3⟩
      clear hb3
      go_wp2
      go_ret
      exact ⟨by rw [HF.out]; rfl, HBe'.out⟩
     ·rw [decide_eq_false hPX]
      have HJ' : Hold (∀ i p, i < j + 1 → ps[i]? = some p → p ≠ P) := ⟨fun i p hi hp => by
       rcases (by omega : i < j ∨ i = j) with h | rfl
       ·exact HJ.out i p h hp
       ·intro e
        rw [HXj.out] at hp
        cases hp
        exact hPX e.symm⟩
      have HBq' : Hold _ := ⟨bstep HBq.out hb3⟩
      clear hb3
      go_wp2
      go_roundw
      case rel => exact ⟨j + 1, by omega, by go_num, HJ', HBq'⟩
      case measure => simp [intOf]; omega
    ·obtain rfl : j = k := by omega
     have hnew : Hold (P ∉ ps.take j) := ⟨fun hm => by
      obtain ⟨i, hi, e⟩ := List.getElem_of_mem hm
      have hi' : i < j := by rw [List.length_take] at hi; omega
      exact HJ.out i P hi' (by rw [← e, List.getElem_take]; exact List.getElem?_eq_getElem _) rfl⟩
     clear e0 e1 e2 h9 HJ
     go_wp2_with fail
     refine (dsmall_calls wr q9 m9 d9 P H9q.out).mono ?_
     rintro en w3 ⟨rfl, hb3⟩
     obtain ⟨S0, hS0⟩ : ∃ b, decide (SmallP P) = b := ⟨_, rfl⟩
     rw [hS0]
     have HS0 : Hold _ := ⟨hS0⟩
     have HB3 : Hold _ := ⟨hb3⟩
     clear hb3 hS0
     go_wp2
     go_loopw [11, 66] (fun sv iv wq3 => ∃ i : Nat, i ≤ nb ∧ iv = .int .i64 i ∧ sv = .bool (decide (SmallP P ∨ P ∈ bs.take i)) ∧ Hold (Below w3.heap.size w3 wq3)) (fun _ iv _ => nb - (intOf iv).toNat)
     case atStart => exact ⟨0, by omega, rfl, by rw [← HS0.out]; simp, ⟨Below.refl _ _⟩⟩
     case round =>
      obtain ⟨i, hi, rfl, rfl, HB4⟩ := hrel
      have HB34 : Hold _ := ⟨bstep HB3.out HB4.out⟩
      have H9r : Hold _ := ⟨H9q.out.below HB34.out⟩
      by_cases hin : i < nb
      ·obtain ⟨X, hXi⟩ : ∃ X, bs[i]? = some X := ⟨bs[i]'(by rw [← HBe.out.len]; exact hin), List.getElem?_eq_getElem _⟩
       have hts := there_succ (P := P) hXi
       have hlX : blen X ≤ 1100 := Hlb.out X (List.mem_of_getElem? hXi)
       have HBT : Hold _ := ⟨bstep (bstep HBw.out HBq.out) HB34.out⟩
       obtain ⟨bb, ob, rfl, hbb, hcb⟩ := (HBe.out.below HBT.out).at_ (by omega)
       obtain ⟨qx, mx, dx, hx, hnx⟩ := hcb i X hXi
       have HNX : Hold _ := ⟨hnx⟩
       obtain ⟨S, hS⟩ : ∃ S, decide (SmallP P ∨ P ∈ bs.take i) = S := ⟨_, rfl⟩
       rw [hS] at hts
       rw [hS]
       clear hcb hnx hXi f0 f1 f2 hS
       cases S with
       | true =>
        have HT : Hold _ := ⟨hts⟩
        clear hts
        go_wp2
        go_roundw
        case rel => exact ⟨i + 1, by omega, by go_num, by rw [HT.out]; rfl, HB4⟩
        case measure => simp [intOf]; omega
       | false =>
        have HT : Hold _ := ⟨hts⟩
        clear hts
        go_wp2_with fail
        refine (dsame_fit (RBits.of HNX.out) (RBits.of H9r.out) (by omega) (by omega)).mono ?_
        rintro en w5 ⟨rfl, hb5⟩
        have HB5 : Hold _ := ⟨bstep HB4.out hb5⟩
        obtain ⟨D, hD⟩ : ∃ D, decide (X = P) = D := ⟨_, rfl⟩
        rw [hD]
        have HT' : Hold (decide (SmallP P ∨ P ∈ bs.take (i + 1)) = D) := ⟨by rw [HT.out, hD]; rfl⟩
        clear hb5 hD HT
        go_wp2
        go_roundw
        case rel => exact ⟨i + 1, by omega, by go_num, by rw [HT'.out], HB5⟩
        case measure => simp [intOf]; omega
      ·obtain rfl : i = nb := by omega
       have hta : bs.take i = bs := List.take_of_length_le (by rw [← HBe.out.len]; exact Nat.le_refl _)
       rw [hta]
       have hm9 : Hold (m9 = blen P) := ⟨bits_len H9r.out⟩
       by_cases hth : SmallP P ∨ P ∈ bs
       ·rw [decide_eq_true hth]
        have HTH : Hold _ := ⟨hth⟩
        by_cases hm2 : m9 < 2
        ·have HF : Hold (ANS = false) := ⟨hfail.out fun hok => by
          have := (blen_le P 1).1 (by have := hm9.out; omega)
          have := hok.2.2.1
          omega⟩
         have hm2' : (m9 : Int) < 2 := by omega
         have HBT : Hold _ := ⟨bstep (bstep HBw.out HBq.out) HB34.out⟩
         clear hta hth f0 f1 f2
         go_wp2
         go_ret
         exact ⟨by rw [HF.out]; rfl, HBT.out⟩
        ·have hm2' : ¬ (m9 : Int) < 2 := by omega
         have hP2 : Hold (2 ≤ P) := ⟨Nat.lt_of_not_le fun hle => by
          have := (blen_le P 1).2 (by omega)
          have := hm9.out
          omega⟩
         have HB2T : Hold _ := ⟨bstep (bstep HBr.out HBq.out) HB34.out⟩
         have HBA : Hold _ := ⟨bstep HBq.out HB34.out⟩
         clear hta hth f0 f1 f2 HB3 HB4 HB34
         go_wp2_with fail
         refine (rdiv_fit (RBits.of (HN6.out.below HB2T.out)) (RBits.of H9r.out) (by have := LN.out; omega) (by omega) (by have := hP2.out; omega)).mono ?_
         rintro en w5 ⟨pq, nq, cq, pr, nr, cr, rfl, hq, hr, hb5⟩
         have hlq : Hold (blen ((N - 1) / P) ≤ 1100) := ⟨Nat.le_trans (blen_mono (Nat.div_le_self _ _)) LN.out⟩
         have hnr := bits_len hr
         have HNR : Hold (nr = blen ((N - 1) % P)) := ⟨hnr⟩
         have HQ : Hold _ := ⟨hq⟩
         have HB5 : Hold _ := ⟨bstep HB2T.out hb5⟩
         have HBA5 : Hold _ := ⟨bstep HBA.out hb5⟩
         have H9s : Hold _ := ⟨H9r.out.below hb5⟩
         clear hnr hq hb5 hr
         by_cases hnr0 : 0 < nr
         ·have hnr0' : (0 : Int) < nr := by omega
          have HF : Hold (ANS = false) := ⟨hfail.out fun hok => by
           have h1 := hok.2.2.2.1
           have := HNR.out
           rw [h1] at this
           have h2 : blen 0 = 0 := rfl
           omega⟩
          have HBT : Hold _ := ⟨bstep HB2.out HB5.out⟩
          go_wp2
          go_ret
          exact ⟨by rw [HF.out]; rfl, HBT.out⟩
         ·have hnr0' : ¬ (0 : Int) < nr := by omega
          have HR0 : Hold ((N - 1) % P = 0) := ⟨by
           have h1 := HNR.out
           have h2 := blen_lt ((N - 1) % P)
           rw [← h1, show nr = 0 by omega] at h2
           omega⟩
          obtain ⟨Y, hYe⟩ : ∃ Y, B ^ ((N - 1) / P) % N = Y := ⟨_, rfl⟩
          have hYN : Y < N := by rw [← hYe]; exact Nat.mod_lt _ (by have := HN2.out; omega)
          have hYb : blen Y ≤ 1100 := Nat.le_trans (blen_mono (Nat.le_of_lt hYN)) lN
          have hN2' := HN2.out
          obtain ⟨Z, hZe⟩ : ∃ Z, subM Y 1 N = Z := ⟨_, rfl⟩
          have hZN : Z < N := by rw [← hZe]; exact subM_lt hN2'
          have hZb : blen Z ≤ 1100 := Nat.le_trans (blen_mono (Nat.le_of_lt hZN)) lN
          obtain ⟨G, hGe⟩ : ∃ G, Nat.gcd Z N = G := ⟨_, rfl⟩
          have hGb : Hold (blen G ≤ 1100) := ⟨by rw [← hGe]; exact Nat.le_trans (blen_mono (Nat.le_of_dvd (by omega) (Nat.gcd_dvd_right Z N))) lN⟩
          have HZe : Hold ((Y + N - 1) % N = Z) := ⟨by rw [← hZe, subM_eq hN2', Nat.mod_eq_of_lt hYN, Nat.mod_eq_of_lt (show 1 < N by omega)]⟩
          have hY : Hold (∀ w', RBits B (.slice pB nB cB) w' → RBits ((N - 1) / P) (.slice pq nq cq) w' → RBits N (.slice pN nN cN) w' → Calls Tryz.prog 44 #[.slice pB nB cB, .slice pq nq cq, .slice pN nN cN] w' fun en w'' => ∃ x, en = .returned x ∧ RBits Y x w'' ∧ Below w'.heap.size w' w'') :=
           ⟨fun w' a b c => by rw [← hYe]; exact dexp_fit a b c (by omega) (by have := hlq.out; omega) (by omega) (by omega)⟩
          have hZ : Hold (∀ w' v, RBits Y v w' → RBits 1 (.slice p1 n1 c1) w' → RBits N (.slice pN nN cN) w' → Calls Tryz.prog 143 #[v, .slice p1 n1 c1, .slice pN nN cN] w' fun en w'' => ∃ x, en = .returned x ∧ RBits Z x w'' ∧ Below w'.heap.size w' w'') :=
           ⟨fun w' v a b c => by rw [← hZe]; exact dsub_fit a b c (by omega) (by have : blen 1 ≤ 1 := (blen_le 1 1).2 (by decide); omega) (by omega) hN2'⟩
          have hG : Hold (∀ w' v, RBits Z v w' → RBits N (.slice pN nN cN) w' → Calls Tryz.prog 142 #[v, .slice pN nN cN] w' fun en w'' => ∃ x, en = .returned x ∧ RBits G x w'' ∧ Below w'.heap.size w' w'') :=
           ⟨fun w' v ⟨a1, a2, a3, a4, a5⟩ ⟨b1, b2, b3, b4, b5⟩ => by
            subst a4
            cases b4
            rw [← hGe]
            refine (rgcd_calls w' a1 a2 a3 Z pN nN cN N a5 b5 (by omega) (by omega)).mono ?_
            rintro en w'' ⟨x1, x2, x3, rfl, x4, x5⟩
            exact ⟨_, rfl, RBits.of x4, x5⟩⟩
          have HYe : Hold _ := ⟨hYe⟩
          have HGe : Hold _ := ⟨hGe⟩
          have HNx : Hold _ := ⟨HN.out.below (bstep HB2.out HB5.out)⟩
          have HBx : Hold _ := ⟨HB.out.below (bstep HB2.out HB5.out)⟩
          have H1x : Hold _ := ⟨HN1'.out.below HB5.out⟩
          have HQx : Hold _ := ⟨HQ.out⟩
          have HSBx : Hold _ := ⟨HSB2.out.below HB5.out⟩
          clear hYe hZe hGe hYN hYb hZN hZb hN2'
          go_wp2_with fail
          refine wp_region_duties (by kernel_rfl) (by kernel_rfl)
           [some (.pointer (some ⟨w.heap.size, 1, none⟩)), some (.slice pB nB cB), some (.slice pq nq cq), some (.pointer (some ⟨w.heap.size, 0, none⟩)), some (.slice pN nN cN), none, some (.slice p1 n1 c1), some (.pointer (some ⟨w.heap.size, 0, none⟩)), some (.slice pN nN cN), none, some (.pointer (some ⟨w.heap.size, 0, none⟩)), some (.slice pN nN cN), none, none]
           [false, false, false, false, false, true, false, false, false, true, false, false, true, true] rfl
           (fun w1 w2 => Below w1.heap.size w1 w2)
           (fun _ w' => Below w5.heap.size w5 w')
           (fun i v w' => match i with
            | 5 => RBits Y v w'
            | 9 => RBits Z v w'
            | 12 => RBits G v w'
            | 13 => RBits G v w'
            | _ => True)
           ?_ (Below.refl _ _).drew ?_ ?_
          ·intro i v w1 w2 hf hb
           split at hf
           ·exact hf.below hb
           ·exact hf.below hb
           ·exact hf.below hb
           ·exact hf.below hb
           ·trivial
          ·simp only [Duties, Nat.reduceAdd]
           refine ⟨?_, ?_, ?_, ?_, ?_, ?_, ?_, ?_, ?_, ?_, ?_, ?_, ?_, ?_, trivial⟩
           case refine_1 =>
            intro D sp w' hD hW hdp hbx'
            (with_reducible refine asked_value (w1 := w') (v := .pointer (some ⟨w.heap.size, 1, none⟩)) ?_ ?_ ?_)
            ·simp only [Region.wanted]
            ·simp [execOp, Act.eval, go_sem]
            ·exact ⟨rfl, rfl⟩
           case refine_2 =>
            intro D sp w' hD hW hdp hbx'
            have yy := (HSBx.out.below hbx').cells
            have y0 := yy.1
            have y1 := yy.2.1
            (with_reducible refine asked_value (w1 := w') (v := .slice pB nB cB) ?_ ?_ ?_)
            ·simp only [Region.wanted]
            ·simp [execOp, Act.eval, Act.put, go_sem, y1]
            ·exact ⟨rfl, rfl⟩
           case refine_3 =>
            intro D sp w' hD hW hdp hbx'
            (with_reducible refine asked_value (w1 := w') (v := .slice pq nq cq) ?_ ?_ ?_)
            ·simp only [Region.wanted]
            ·simp [execOp, Act.eval, Act.put, go_sem]
            ·exact ⟨rfl, rfl⟩
           case refine_4 =>
            intro D sp w' hD hW hdp hbx'
            (with_reducible refine asked_value (w1 := w') (v := .pointer (some ⟨w.heap.size, 0, none⟩)) ?_ ?_ ?_)
            ·simp only [Region.wanted]
            ·simp [execOp, Act.eval, Act.put, go_sem]
            ·exact ⟨rfl, rfl⟩
           case refine_5 =>
            intro D sp w' hD hW hdp hbx'
            have yy := (HSBx.out.below hbx').cells
            have y0 := yy.1
            have y1 := yy.2.1
            (with_reducible refine asked_value (w1 := w') (v := .slice pN nN cN) ?_ ?_ ?_)
            ·simp only [Region.wanted]
            ·simp [execOp, Act.eval, Act.put, go_sem, y0]
            ·exact ⟨rfl, rfl⟩
           case refine_6 =>
            intro D sp w' hD hW hdp hbx'
            (with_reducible refine asked_call (w1 := w') (f := 44) (args := #[.slice pB nB cB, .slice pq nq cq, .slice pN nN cN]) ?_ ?_ ?_)
            ·simp [Region.wanted, go_sem]
            ·simp [Act.eval, Act.put, go_sem]
            ·refine (hY.out w' (RBits.of (HBx.out.below hbx')) (RBits.of (HQx.out.below hbx')) (RBits.of (HNx.out.below hbx'))).mono ?_
             rintro e w9 ⟨u, rfl, hu, hb⟩
             exact ⟨u, rfl, hb, hu, bstep hbx' hb⟩
           case refine_7 =>
            intro D sp w' hD hW hdp hbx'
            (with_reducible refine asked_value (w1 := w') (v := .slice p1 n1 c1) ?_ ?_ ?_)
            ·simp only [Region.wanted]
            ·simp [execOp, Act.eval, Act.put, go_sem]
            ·exact ⟨rfl, rfl⟩
           case refine_8 =>
            intro D sp w' hD hW hdp hbx'
            (with_reducible refine asked_value (w1 := w') (v := .pointer (some ⟨w.heap.size, 0, none⟩)) ?_ ?_ ?_)
            ·simp only [Region.wanted]
            ·simp [execOp, Act.eval, Act.put, go_sem]
            ·exact ⟨rfl, rfl⟩
           case refine_9 =>
            intro D sp w' hD hW hdp hbx'
            have yy := (HSBx.out.below hbx').cells
            have y0 := yy.1
            have y1 := yy.2.1
            (with_reducible refine asked_value (w1 := w') (v := .slice pN nN cN) ?_ ?_ ?_)
            ·simp only [Region.wanted]
            ·simp [execOp, Act.eval, Act.put, go_sem, y0]
            ·exact ⟨rfl, rfl⟩
           case refine_10 =>
            intro D sp w' hD hW hdp hbx'
            have k5 : RBits Y (sp 5) w' := (hdp 5 (mq (by kernel_rfl))).2
            (with_reducible refine asked_call (w1 := w') (f := 143) (args := #[sp 5, .slice p1 n1 c1, .slice pN nN cN]) ?_ ?_ ?_)
            ·simp [Region.wanted, go_sem]
            ·simp [Act.eval, Act.put, go_sem]
            ·refine (hZ.out w' (sp 5) k5 (RBits.of (H1x.out.below hbx')) (RBits.of (HNx.out.below hbx'))).mono ?_
             rintro e w9 ⟨u, rfl, hu, hb⟩
             exact ⟨u, rfl, hb, hu, bstep hbx' hb⟩
           case refine_11 =>
            intro D sp w' hD hW hdp hbx'
            (with_reducible refine asked_value (w1 := w') (v := .pointer (some ⟨w.heap.size, 0, none⟩)) ?_ ?_ ?_)
            ·simp only [Region.wanted]
            ·simp [execOp, Act.eval, Act.put, go_sem]
            ·exact ⟨rfl, rfl⟩
           case refine_12 =>
            intro D sp w' hD hW hdp hbx'
            have yy := (HSBx.out.below hbx').cells
            have y0 := yy.1
            have y1 := yy.2.1
            (with_reducible refine asked_value (w1 := w') (v := .slice pN nN cN) ?_ ?_ ?_)
            ·simp only [Region.wanted]
            ·simp [execOp, Act.eval, Act.put, go_sem, y0]
            ·exact ⟨rfl, rfl⟩
           case refine_13 =>
            intro D sp w' hD hW hdp hbx'
            have k9 : RBits Z (sp 9) w' := (hdp 9 (mq (by kernel_rfl))).2
            (with_reducible refine asked_call (w1 := w') (f := 142) (args := #[sp 9, .slice pN nN cN]) ?_ ?_ ?_)
            ·simp [Region.wanted, go_sem]
            ·simp [Act.eval, Act.put, go_sem]
            ·refine (hG.out w' (sp 9) k9 (RBits.of (HNx.out.below hbx'))).mono ?_
             rintro e w9 ⟨u, rfl, hu, hb⟩
             exact ⟨u, rfl, hb, hu, bstep hbx' hb⟩
           case refine_14 =>
            intro D sp w' hD hW hdp hbx'
            have k12 : RBits G (sp 12) w' := (hdp 12 (mq (by kernel_rfl))).2
            (with_reducible refine asked_value (w1 := w') (v := sp 12) ?_ ?_ ?_)
            ·simp only [Region.wanted]
            ·simp [execOp, Act.eval, Act.put, go_sem]
            ·exact ⟨Below.refl _ _, k12, hbx'⟩
          ·intro sp w7 hsp hbx'
           have h13 : RBits G (sp 13) w7 := hsp 13 rfl
           have HG13 : Hold _ := ⟨h13⟩
           have HB7 : Hold _ := ⟨bstep HB5.out hbx'⟩
           have H17 : Hold _ := ⟨H1x.out.below hbx'⟩
           have H9t : Hold _ := ⟨H9s.out.below hbx'⟩
           have HFt : Hold _ := ⟨HF.out.below (bstep HBA5.out hbx')⟩
           clear hsp hbx' h13
           simp only [frameOf]
           generalize sp 5 = y5 at *
           generalize sp 9 = y9 at *
           generalize sp 12 = y12 at *
           generalize sp 13 = y13 at *
           go_simp
           obtain ⟨pg, ng, cg, rfl, hg13⟩ := HG13.out
           have HG14 : Hold _ := ⟨hg13⟩
           clear hg13 HG13
           go_wp2_with fail
           refine (dsame_fit (RBits.of HG14.out) (RBits.of H17.out) (by have := hGb.out; omega) (by have : blen 1 ≤ 1 := (blen_le 1 1).2 (by decide); omega)).mono ?_
           rintro en w8 ⟨rfl, hb8⟩
           have HB8 : Hold _ := ⟨bstep HB7.out hb8⟩
           have H9u : Hold _ := ⟨H9t.out.below hb8⟩
           have HFu : Hold _ := ⟨HFt.out.below hb8⟩
           clear hb8
           by_cases hG1 : G = 1
           ·rw [decide_eq_true hG1]
            have HOne : Hold (OneOk N B bs ps j P) := ⟨⟨hnew.out, HTH.out, hP2.out, HR0.out, by rw [HYe.out, HZe.out, HGe.out]; exact hG1⟩⟩
            have HN6u : Hold _ := ⟨HN6.out.below HB8.out⟩
            have HPP : Hold (ps.take (j + 1) = ps.take j ++ [P]) := ⟨by
             have hi : j < ps.length := (List.getElem?_eq_some_iff.1 HPk.out).1
             have e : ps[j] = P := by have := HPk.out; rw [List.getElem?_eq_getElem hi] at this; exact Option.some.inj this
             rw [List.take_succ_eq_append_getElem hi, e]⟩
            obtain ⟨FK, hFK⟩ : ∃ F, pwl (N - 1) (ps.take j) = F := ⟨_, rfl⟩
            have hFKb : Hold (blen FK ≤ 1100 * j + 1) := ⟨by rw [← hFK]; exact hpl.out j⟩
            rw [hFK] at HFu
            obtain ⟨PW, hPW⟩ : ∃ x, pw P (N - 1) (N - 1) = x := ⟨_, rfl⟩
            have HFn : Hold (pwl (N - 1) (ps.take (j + 1)) = FK * PW) := ⟨by rw [HPP.out, pwl_snoc, hFK, hPW]⟩
            have hPWd : Hold (∀ x y, x * y = PW → 0 < y → blen x ≤ 1100) := ⟨fun x y e hy => by
             have h1 : PW ≤ N - 1 := by rw [← hPW]; exact Nat.le_of_dvd (by have := HN2.out; omega) (pw_dvd P (N - 1) (N - 1))
             have h2 : x ≤ x * y := Nat.le_mul_of_pos_right x hy
             exact Nat.le_trans (blen_mono (by omega)) LN.out⟩
            have HPW : Hold (1 * pw P (N - 1) (N - 1) = PW) := ⟨by rw [Nat.one_mul, hPW]⟩
            clear hFK hPW hG1
            go_wp2
            go_loopg [7, 17] (N - 1) (fun R fv rv wr => Hold (0 < R) ∧ Hold (blen R ≤ 1100) ∧ Hold (∃ X, RBits (FK * X) fv wr ∧ X * pw P R R = PW) ∧ Hold (RBits R rv wr) ∧ Hold (Below w8.heap.size w8 wr))
            case atStart => exact ⟨⟨by have := HN2.out; omega⟩, LN, ⟨1, by rw [Nat.mul_one]; exact HFu.out, HPW.out⟩, ⟨RBits.of HN6u.out⟩, ⟨Below.refl _ _⟩⟩
            case round =>
             obtain ⟨HR0, HRb, HX, HRv, HBl⟩ := hrel
             have hst := pw_step (p := P) (n := gk) hP2.out HR0.out
             obtain ⟨prr, nrr, crr, rfl, hrr⟩ := HRv.out
             have HRR : Hold _ := ⟨hrr⟩
             have HST : Hold _ := ⟨hst⟩
             have H9v : Hold _ := ⟨H9u.out.below HBl.out⟩
             have hj32 : j ≤ 32 := by omega
             clear hrr hst HRv
             go_wp2_with fail
             refine (rdiv_fit (RBits.of HRR.out) (RBits.of H9v.out) (by have := HRb.out; omega) (by omega) (by have := hP2.out; omega)).mono ?_
             rintro en w9 ⟨pa, na, ca, pr2, nr2, cr2, rfl, ha, hr2, hb9⟩
             have HNR2 : Hold (nr2 = blen (gk % P)) := ⟨bits_len hr2⟩
             have HAq : Hold _ := ⟨ha⟩
             have HBl9 : Hold _ := ⟨bstep HBl.out hb9⟩
             have HX9 : Hold (∃ X, RBits (FK * X) u7 w9 ∧ X * pw P gk gk = PW) := ⟨let ⟨X, a, b⟩ := HX.out; ⟨X, a.below hb9, b⟩⟩
             have H9w : Hold _ := ⟨H9v.out.below hb9⟩
             clear ha hr2 hb9
             by_cases hz : 0 < nr2
             ·have hz' : (0 : Int) < nr2 := by omega
              have hne : gk % P ≠ 0 := fun e => by
               have := HNR2.out
               rw [e, show blen 0 = 0 from rfl] at this
               omega
              have HFin : Hold (RBits (pwl (N - 1) (ps.take (j + 1))) u7 w9) := ⟨by
               obtain ⟨X, h1, h2⟩ := HX9.out
               rw [HST.out, if_neg hne, Nat.mul_one] at h2
               rw [HFn.out, ← h2]
               exact h1⟩
              have HOfin : Hold (∀ i p, i < j + 1 → ps[i]? = some p → OneOk N B bs ps i p) := ⟨fun i p hi hp => by
               rcases (by omega : i < j ∨ i = j) with h | rfl
               ·exact HO.out i p h hp
               ·have := HPk.out
                rw [hp] at this
                cases this
                exact HOne.out⟩
              have HBfin : Hold _ := ⟨bstep HB8.out HBl9.out⟩
              clear hne
              go_wp2
              go_roundw
              case rel => exact ⟨j + 1, by omega, by go_num, HFin, HOfin, HBfin⟩
              case measure => simp [intOf]; omega
             ·have hz' : ¬ (0 : Int) < nr2 := by omega
              have hmod : Hold (gk % P = 0) := ⟨by
               have h1 := HNR2.out
               have h2 := blen_lt (gk % P)
               rw [← h1, show nr2 = 0 by omega] at h2
               omega⟩
              have hlt : Hold (gk / P < gk) := ⟨Nat.div_lt_self HR0.out hP2.out⟩
              have hpos : Hold (0 < gk / P) := ⟨Nat.div_pos (Nat.le_of_dvd HR0.out (Nat.dvd_of_mod_eq_zero hmod.out)) (by have := hP2.out; omega)⟩
              obtain ⟨X, hX1, hX2⟩ := HX9.out
              rw [HST.out, if_pos hmod.out] at hX2
              have hXb : blen X ≤ 1100 := hPWd.out X _ hX2 (Nat.mul_pos (by have := hP2.out; omega) (by
               obtain ⟨e, he⟩ := pw_pow P (gk / P) (gk / P)
               rw [he]
               exact Nat.pow_pos (by have := hP2.out; omega)))
              have HXP : Hold (X * P * pw P (gk / P) (gk / P) = PW) := ⟨by rw [Nat.mul_assoc]; exact hX2⟩
              have HX1 : Hold _ := ⟨hX1⟩
              have hFX : blen (FK * X) ≤ 40000 := by
               have h1 := blen_mul_le FK X
               have h2 := hFKb.out
               have := Nat.mul_le_mul_left 1100 hj32
               omega
              have hqb : Hold (blen (gk / P) ≤ 1100) := ⟨Nat.le_trans (blen_mono (Nat.div_le_self _ _)) HRb.out⟩
              clear hX1 hX2 HX HX9
              go_wp2_with fail
              refine (rmul_fit HX1.out (RBits.of H9w.out) (by omega) (by omega)).mono ?_
              rintro en wM ⟨xm, rfl, hxm, hbm⟩
              have HXm : Hold (∃ X', RBits (FK * X') xm wM ∧ X' * pw P (gk / P) (gk / P) = PW) := ⟨X * P, by rw [← Nat.mul_assoc]; exact hxm, HXP.out⟩
              have HBm : Hold _ := ⟨bstep HBl9.out hbm⟩
              have HAm : Hold _ := ⟨RBits.of (HAq.out.below hbm)⟩
              clear hxm hbm
              go_wp2
              go_roundg (gk / P)
              case measure => exact hlt.out
              case rel => exact ⟨hpos, hqb, HXm, HAm, HBm⟩
           ·rw [decide_eq_false hG1]
            have HF0 : Hold (ANS = false) := ⟨hfail.out fun hok => hG1 (by
             have h1 := hok.2.2.2.2
             rw [HYe.out, HZe.out, HGe.out] at h1
             exact h1)⟩
            have HBT : Hold _ := ⟨bstep HB2.out HB8.out⟩
            go_wp2
            go_ret
            exact ⟨by rw [HF0.out]; rfl, HBT.out⟩
       ·rw [decide_eq_false hth]
        have HF : Hold (ANS = false) := ⟨hfail.out fun hok => hth hok.2.1⟩
        have HBT : Hold _ := ⟨bstep (bstep HBw.out HBq.out) HB34.out⟩
        clear hta hth f0 f1 f2
        go_wp2
        go_ret
        exact ⟨by rw [HF.out]; rfl, HBT.out⟩
  ·obtain rfl : k = np := by omega
   have htk : ps.take k = ps := List.take_of_length_le (by rw [← HLP.out]; exact Nat.le_refl _)
   rw [htk] at HF
   obtain ⟨F, hF⟩ : ∃ F, pwl (N - 1) ps = F := ⟨_, rfl⟩
   have hFb : blen F ≤ 40000 := by
    have h1 := hpl.out k
    rw [htk, hF] at h1
    have := Nat.mul_le_mul_left 1100 (show k ≤ 32 by omega)
    omega
   rw [hF] at HF
   obtain ⟨pf, nf, cf, rfl, hf⟩ := HF.out
   have hN2' := HN2.out
   obtain ⟨Y, hYe⟩ : ∃ Y, B ^ (N - 1) % N = Y := ⟨_, rfl⟩
   have hYN : Y < N := by rw [← hYe]; exact Nat.mod_lt _ (by omega)
   have hYb : blen Y ≤ 1100 := Nat.le_trans (blen_mono (Nat.le_of_lt hYN)) lN
   have hLN := LN.out
   have h1b : blen 1 ≤ 1 := (blen_le 1 1).2 (by decide)
   have hFF : blen (F * F) ≤ 80000 := by have := blen_mul_le F F; omega
   have HAns : Hold (ANS = (decide (Y = 1) && decide (N < F * F))) := ⟨by
    rw [← HANS.out]
    by_cases h1 : Y = 1
    ·by_cases h2 : N < F * F
     ·rw [decide_eq_true h1, decide_eq_true h2]
      refine decide_eq_true ⟨hN2', fun e => ?_, by rw [← HLP.out]; omega, fun i p hp => ?_, by rw [hYe]; exact h1, by rw [hF]; exact h2⟩
      ·subst e
       have := HLP.out
       simp at this
       omega
      ·exact HO.out i p (by rw [HLP.out]; exact (List.getElem?_eq_some_iff.1 hp).1) hp
     ·rw [decide_eq_true h1, decide_eq_false h2]
      exact decide_eq_false fun h => h2 (by have := h.great; rwa [hF] at this)
    ·rw [decide_eq_false h1]
     exact decide_eq_false fun h => h1 (by rw [← hYe]; exact h.one)⟩
   have hY : Hold (∀ w', RBits B (.slice pB nB cB) w' → RBits (N - 1) (.slice p6 n6 c6) w' → RBits N (.slice pN nN cN) w' → Calls Tryz.prog 44 #[.slice pB nB cB, .slice p6 n6 c6, .slice pN nN cN] w' fun en w'' => ∃ x, en = .returned x ∧ RBits Y x w'' ∧ Below w'.heap.size w' w'') :=
    ⟨fun w' a b c => by rw [← hYe]; exact dexp_fit a b c (by omega) (by omega) (by omega) (by omega)⟩
   have hM : Hold (∀ w', RBits F (.slice pf nf cf) w' → RBits F (.slice pf nf cf) w' → Calls Tryz.prog 121 #[.slice pf nf cf, .slice pf nf cf] w' fun en w'' => ∃ x, en = .returned x ∧ RBits (F * F) x w'' ∧ Below w'.heap.size w' w'') :=
    ⟨fun w' a b => rmul_fit a b (by omega) (by omega)⟩
   obtain ⟨K, hK⟩ : ∃ K, cmpI (F * F) N = K := ⟨_, rfl⟩
   have hC : Hold (∀ w' v, RBits (F * F) v w' → RBits N (.slice pN nN cN) w' → Calls Tryz.prog 41 #[v, .slice pN nN cN] w' fun en w'' => ∃ x, en = .returned x ∧ x = .int .i64 K ∧ Below w'.heap.size w' w'') :=
    ⟨fun w' v a b => by rw [← hK]; exact rcmp_fit a b (by omega) (by omega)⟩
   have hDe : decide (0 < K) = decide (N < F * F) := decide_eq_decide.2 (by rw [← hK]; exact cmpI_pos)
   obtain ⟨DD, hDD⟩ : ∃ D, decide (0 < K) = D := ⟨_, rfl⟩
   rw [← hDe, hDD] at HAns
   have HNx : Hold _ := ⟨HN.out.below (bstep HB2.out HBr.out)⟩
   have HBx : Hold _ := ⟨HB.out.below (bstep HB2.out HBr.out)⟩
   have H1x : Hold _ := ⟨HN1'.out.below HBr.out⟩
   have H6x : Hold _ := ⟨HN6.out.below HBr.out⟩
   have HFx : Hold _ := ⟨hf⟩
   have HSBx : Hold _ := ⟨HSB2.out.below HBr.out⟩
   have HBT : Hold _ := ⟨bstep HB2.out HBr.out⟩
   have hSame : Hold (∀ w' v, RBits Y v w' → RBits 1 (.slice p1 n1 c1) w' → Calls Tryz.prog 141 #[v, .slice p1 n1 c1] w' fun e w'' => e = .returned (.bool (decide (Y = 1))) ∧ Below w'.heap.size w' w'') :=
    ⟨fun w' v a b => dsame_fit a b (by omega) (by omega)⟩
   clear hF hFb hf hYe hYN hYb hFF hK hDe htk hN2' hLN h1b d0 d1 d2 e0 e1 e2
   by_cases hY1 : Y = 1
   ·have hS : Hold (∀ w' v, RBits Y v w' → RBits 1 (.slice p1 n1 c1) w' → Calls Tryz.prog 141 #[v, .slice p1 n1 c1] w' fun e w'' => e = .returned (.bool true) ∧ Below w'.heap.size w' w'') := ⟨fun w' v a b => by have := hSame.out w' v a b; rwa [decide_eq_true hY1] at this⟩
    have HF : Hold (ANS = DD) := ⟨by rw [HAns.out, decide_eq_true hY1]; rfl⟩
    clear hY1
    go_wp2_with fail
    refine wp_region_duties (by kernel_rfl) (by kernel_rfl)
     [some (.pointer (some ⟨w.heap.size, 1, none⟩)), some (.slice pB nB cB), some (.slice p6 n6 c6), some (.pointer (some ⟨w.heap.size, 0, none⟩)), some (.slice pN nN cN), none, some (.slice p1 n1 c1), none, none, some (.slice pf nf cf), some (.slice pf nf cf), none, some (.pointer (some ⟨w.heap.size, 0, none⟩)), some (.slice pN nN cN), none, some (.bool DD), some (.bool DD), some (.bool DD)]
     [false, false, false, false, false, true, false, true, true, false, false, true, false, false, true, false, false, false] rfl
     (fun w1 w2 => Below w1.heap.size w1 w2)
     (fun _ w' => Below wr.heap.size wr w')
     (fun i v w' => match i with
      | 5 => RBits Y v w'
      | 7 => v = .bool true
      | 8 => v = .bool true
      | 11 => RBits (F * F) v w'
      | 14 => v = .int .i64 K
      | _ => True)
     ?_ (Below.refl _ _).drew ?_ ?_
    ·intro i v w1 w2 hf hb
     split at hf
     ·exact hf.below hb
     ·exact hf
     ·exact hf
     ·exact hf.below hb
     ·exact hf
     ·trivial
    ·simp only [Duties, Nat.reduceAdd]
     refine ⟨?_, ?_, ?_, ?_, ?_, ?_, ?_, ?_, ?_, ?_, ?_, ?_, ?_, ?_, ?_, ?_, ?_, ?_, trivial⟩
     case refine_1 =>
      intro D sp w' hD hW hdp hbx'
      (with_reducible refine asked_value (w1 := w') (v := .pointer (some ⟨w.heap.size, 1, none⟩)) ?_ ?_ ?_)
      ·simp only [Region.wanted]
      ·simp [execOp, Act.eval, go_sem]
      ·exact ⟨rfl, rfl⟩
     case refine_2 =>
      intro D sp w' hD hW hdp hbx'
      have yy := (HSBx.out.below hbx').cells
      have y0 := yy.1
      have y1 := yy.2.1
      (with_reducible refine asked_value (w1 := w') (v := .slice pB nB cB) ?_ ?_ ?_)
      ·simp only [Region.wanted]
      ·simp [execOp, Act.eval, Act.put, go_sem, y1]
      ·exact ⟨rfl, rfl⟩
     case refine_3 =>
      intro D sp w' hD hW hdp hbx'
      (with_reducible refine asked_value (w1 := w') (v := .slice p6 n6 c6) ?_ ?_ ?_)
      ·simp only [Region.wanted]
      ·simp [execOp, Act.eval, Act.put, go_sem]
      ·exact ⟨rfl, rfl⟩
     case refine_4 =>
      intro D sp w' hD hW hdp hbx'
      (with_reducible refine asked_value (w1 := w') (v := .pointer (some ⟨w.heap.size, 0, none⟩)) ?_ ?_ ?_)
      ·simp only [Region.wanted]
      ·simp [execOp, Act.eval, Act.put, go_sem]
      ·exact ⟨rfl, rfl⟩
     case refine_5 =>
      intro D sp w' hD hW hdp hbx'
      have yy := (HSBx.out.below hbx').cells
      have y0 := yy.1
      have y1 := yy.2.1
      (with_reducible refine asked_value (w1 := w') (v := .slice pN nN cN) ?_ ?_ ?_)
      ·simp only [Region.wanted]
      ·simp [execOp, Act.eval, Act.put, go_sem, y0]
      ·exact ⟨rfl, rfl⟩
     case refine_6 =>
      intro D sp w' hD hW hdp hbx'
      (with_reducible refine asked_call (w1 := w') (f := 44) (args := #[.slice pB nB cB, .slice p6 n6 c6, .slice pN nN cN]) ?_ ?_ ?_)
      ·simp [Region.wanted, go_sem]
      ·simp [Act.eval, Act.put, go_sem]
      ·refine (hY.out w' (RBits.of (HBx.out.below hbx')) (RBits.of (H6x.out.below hbx')) (RBits.of (HNx.out.below hbx'))).mono ?_
       rintro e w9 ⟨u, rfl, hu, hb⟩
       exact ⟨u, rfl, hb, hu, bstep hbx' hb⟩
     case refine_7 =>
      intro D sp w' hD hW hdp hbx'
      (with_reducible refine asked_value (w1 := w') (v := .slice p1 n1 c1) ?_ ?_ ?_)
      ·simp only [Region.wanted]
      ·simp [execOp, Act.eval, Act.put, go_sem]
      ·exact ⟨rfl, rfl⟩
     case refine_8 =>
      intro D sp w' hD hW hdp hbx'
      have k5 : RBits Y (sp 5) w' := (hdp 5 (mq (by kernel_rfl))).2
      (with_reducible refine asked_call (w1 := w') (f := 141) (args := #[sp 5, .slice p1 n1 c1]) ?_ ?_ ?_)
      ·simp [Region.wanted, go_sem]
      ·simp [Act.eval, Act.put, go_sem]
      ·refine (hS.out w' (sp 5) k5 (RBits.of (H1x.out.below hbx'))).mono ?_
       rintro e w9 ⟨rfl, hb⟩
       exact ⟨_, rfl, hb, rfl, bstep hbx' hb⟩
     case refine_9 =>
      intro D sp w' hD hW hdp hbx'
      have k7 : (sp 7) = .bool true := (hdp 7 (mq (by kernel_rfl))).2
      (with_reducible refine asked_value (w1 := w') (v := sp 7) ?_ ?_ ?_)
      ·simp only [Region.wanted]
      ·simp [execOp, Act.eval, Act.put, go_sem]
      ·exact ⟨Below.refl _ _, k7, hbx'⟩
     case refine_10 =>
      intro D sp w' hD hW hdp hbx'
      have k8 : (sp 8) = .bool true := (hdp 8 (mq (by kernel_rfl))).2
      (with_reducible refine asked_value (w1 := w') (v := .slice pf nf cf) ?_ ?_ ?_)
      ·simp [Region.wanted, yielded, Act.put, go_sem, k8]
      ·simp [execOp, Act.eval, Act.put, go_sem, k8]
      ·exact ⟨rfl, rfl⟩
     case refine_11 =>
      intro D sp w' hD hW hdp hbx'
      have k8 : (sp 8) = .bool true := (hdp 8 (mq (by kernel_rfl))).2
      (with_reducible refine asked_value (w1 := w') (v := .slice pf nf cf) ?_ ?_ ?_)
      ·simp [Region.wanted, yielded, Act.put, go_sem, k8]
      ·simp [execOp, Act.eval, Act.put, go_sem, k8]
      ·exact ⟨rfl, rfl⟩
     case refine_12 =>
      intro D sp w' hD hW hdp hbx'
      have k8 : (sp 8) = .bool true := (hdp 8 (mq (by kernel_rfl))).2
      (with_reducible refine asked_call (w1 := w') (f := 121) (args := #[.slice pf nf cf, .slice pf nf cf]) ?_ ?_ ?_)
      ·simp [Region.wanted, yielded, Act.put, go_sem, k8]
      ·simp [Act.eval, Act.put, go_sem, k8]
      ·refine (hM.out w' (RBits.of (HFx.out.below hbx')) (RBits.of (HFx.out.below hbx'))).mono ?_
       rintro e w9 ⟨u, rfl, hu, hb⟩
       exact ⟨u, rfl, hb, hu, bstep hbx' hb⟩
     case refine_13 =>
      intro D sp w' hD hW hdp hbx'
      have k8 : (sp 8) = .bool true := (hdp 8 (mq (by kernel_rfl))).2
      (with_reducible refine asked_value (w1 := w') (v := .pointer (some ⟨w.heap.size, 0, none⟩)) ?_ ?_ ?_)
      ·simp [Region.wanted, yielded, Act.put, go_sem, k8]
      ·simp [execOp, Act.eval, Act.put, go_sem, k8]
      ·exact ⟨rfl, rfl⟩
     case refine_14 =>
      intro D sp w' hD hW hdp hbx'
      have k8 : (sp 8) = .bool true := (hdp 8 (mq (by kernel_rfl))).2
      have yy := (HSBx.out.below hbx').cells
      have y0 := yy.1
      have y1 := yy.2.1
      (with_reducible refine asked_value (w1 := w') (v := .slice pN nN cN) ?_ ?_ ?_)
      ·simp [Region.wanted, yielded, Act.put, go_sem, k8]
      ·simp [execOp, Act.eval, Act.put, go_sem, k8, y0]
      ·exact ⟨rfl, rfl⟩
     case refine_15 =>
      intro D sp w' hD hW hdp hbx'
      have k8 : (sp 8) = .bool true := (hdp 8 (mq (by kernel_rfl))).2
      have k11 : RBits (F * F) (sp 11) w' := (hdp 11 (mq (by kernel_rfl))).2
      (with_reducible refine asked_call (w1 := w') (f := 41) (args := #[sp 11, .slice pN nN cN]) ?_ ?_ ?_)
      ·simp [Region.wanted, yielded, Act.put, go_sem, k8]
      ·simp [Act.eval, Act.put, go_sem, k8]
      ·refine (hC.out w' (sp 11) k11 (RBits.of (HNx.out.below hbx'))).mono ?_
       rintro e w9 ⟨u, rfl, rfl, hb⟩
       exact ⟨_, rfl, hb, rfl, bstep hbx' hb⟩
     case refine_16 =>
      intro D sp w' hD hW hdp hbx'
      have k8 : (sp 8) = .bool true := (hdp 8 (mq (by kernel_rfl))).2
      have k14 : (sp 14) = .int .i64 K := (hdp 14 (mq (by kernel_rfl))).2
      (with_reducible refine asked_value (w1 := w') (v := .bool DD) ?_ ?_ ?_)
      ·simp [Region.wanted, yielded, Act.put, go_sem, k8]
      ·simp [execOp, Act.eval, Act.put, go_sem, k8, k14, hDD]
      ·exact ⟨rfl, rfl⟩
     case refine_17 =>
      intro D sp w' hD hW hdp hbx'
      have k8 : (sp 8) = .bool true := (hdp 8 (mq (by kernel_rfl))).2
      (with_reducible refine asked_value (w1 := w') (v := .bool DD) ?_ ?_ ?_)
      ·simp only [Region.wanted]
      ·simp [execOp, Act.eval, Act.put, go_sem, k8]
      ·exact ⟨rfl, rfl⟩
     case refine_18 =>
      intro D sp w' hD hW hdp hbx'
      have k8 : (sp 8) = .bool true := (hdp 8 (mq (by kernel_rfl))).2
      (with_reducible refine asked_value (w1 := w') (v := .bool DD) ?_ ?_ ?_)
      ·simp only [Region.wanted]
      ·simp [execOp, Act.eval, Act.put, go_sem, k8]
      ·exact ⟨rfl, rfl⟩
    ·intro sp w7 hsp hbx'
     have HBe' : Hold _ := ⟨bstep HBT.out hbx'⟩
     clear hsp hbx'
     simp only [frameOf]
     generalize sp 5 = y5 at *
     generalize sp 7 = y7 at *
     generalize sp 8 = y8 at *
     generalize sp 11 = y11 at *
     generalize sp 14 = y14 at *
     go_simp
     go_wp2
     go_ret
     exact ⟨by rw [HF.out]; rfl, HBe'.out⟩
   ·have hS : Hold (∀ w' v, RBits Y v w' → RBits 1 (.slice p1 n1 c1) w' → Calls Tryz.prog 141 #[v, .slice p1 n1 c1] w' fun e w'' => e = .returned (.bool false) ∧ Below w'.heap.size w' w'') := ⟨fun w' v a b => by have := hSame.out w' v a b; rwa [decide_eq_false hY1] at this⟩
    have HF : Hold (ANS = false) := ⟨by rw [HAns.out, decide_eq_false hY1]; rfl⟩
    clear hY1
    go_wp2_with fail
    refine wp_region_duties (by kernel_rfl) (by kernel_rfl)
     [some (.pointer (some ⟨w.heap.size, 1, none⟩)), some (.slice pB nB cB), some (.slice p6 n6 c6), some (.pointer (some ⟨w.heap.size, 0, none⟩)), some (.slice pN nN cN), none, some (.slice p1 n1 c1), none, none, some (undef), some (undef), some (undef), some (undef), some (undef), some (undef), some (undef), some (.bool false), some (.bool false)]
     [false, false, false, false, false, true, false, true, true, false, false, false, false, false, false, false, false, false] rfl
     (fun w1 w2 => Below w1.heap.size w1 w2)
     (fun _ w' => Below wr.heap.size wr w')
     (fun i v w' => match i with
      | 5 => RBits Y v w'
      | 7 => v = .bool false
      | 8 => v = .bool false
      | _ => True)
     ?_ (Below.refl _ _).drew ?_ ?_
    ·intro i v w1 w2 hf hb
     split at hf
     ·exact hf.below hb
     ·exact hf
     ·exact hf
     ·trivial
    ·simp only [Duties, Nat.reduceAdd]
     refine ⟨?_, ?_, ?_, ?_, ?_, ?_, ?_, ?_, ?_, ?_, ?_, ?_, ?_, ?_, ?_, ?_, ?_, ?_, trivial⟩
     case refine_1 =>
      intro D sp w' hD hW hdp hbx'
      (with_reducible refine asked_value (w1 := w') (v := .pointer (some ⟨w.heap.size, 1, none⟩)) ?_ ?_ ?_)
      ·simp only [Region.wanted]
      ·simp [execOp, Act.eval, go_sem]
      ·exact ⟨rfl, rfl⟩
     case refine_2 =>
      intro D sp w' hD hW hdp hbx'
      have yy := (HSBx.out.below hbx').cells
      have y0 := yy.1
      have y1 := yy.2.1
      (with_reducible refine asked_value (w1 := w') (v := .slice pB nB cB) ?_ ?_ ?_)
      ·simp only [Region.wanted]
      ·simp [execOp, Act.eval, Act.put, go_sem, y1]
      ·exact ⟨rfl, rfl⟩
     case refine_3 =>
      intro D sp w' hD hW hdp hbx'
      (with_reducible refine asked_value (w1 := w') (v := .slice p6 n6 c6) ?_ ?_ ?_)
      ·simp only [Region.wanted]
      ·simp [execOp, Act.eval, Act.put, go_sem]
      ·exact ⟨rfl, rfl⟩
     case refine_4 =>
      intro D sp w' hD hW hdp hbx'
      (with_reducible refine asked_value (w1 := w') (v := .pointer (some ⟨w.heap.size, 0, none⟩)) ?_ ?_ ?_)
      ·simp only [Region.wanted]
      ·simp [execOp, Act.eval, Act.put, go_sem]
      ·exact ⟨rfl, rfl⟩
     case refine_5 =>
      intro D sp w' hD hW hdp hbx'
      have yy := (HSBx.out.below hbx').cells
      have y0 := yy.1
      have y1 := yy.2.1
      (with_reducible refine asked_value (w1 := w') (v := .slice pN nN cN) ?_ ?_ ?_)
      ·simp only [Region.wanted]
      ·simp [execOp, Act.eval, Act.put, go_sem, y0]
      ·exact ⟨rfl, rfl⟩
     case refine_6 =>
      intro D sp w' hD hW hdp hbx'
      (with_reducible refine asked_call (w1 := w') (f := 44) (args := #[.slice pB nB cB, .slice p6 n6 c6, .slice pN nN cN]) ?_ ?_ ?_)
      ·simp [Region.wanted, go_sem]
      ·simp [Act.eval, Act.put, go_sem]
      ·refine (hY.out w' (RBits.of (HBx.out.below hbx')) (RBits.of (H6x.out.below hbx')) (RBits.of (HNx.out.below hbx'))).mono ?_
       rintro e w9 ⟨u, rfl, hu, hb⟩
       exact ⟨u, rfl, hb, hu, bstep hbx' hb⟩
     case refine_7 =>
      intro D sp w' hD hW hdp hbx'
      (with_reducible refine asked_value (w1 := w') (v := .slice p1 n1 c1) ?_ ?_ ?_)
      ·simp only [Region.wanted]
      ·simp [execOp, Act.eval, Act.put, go_sem]
      ·exact ⟨rfl, rfl⟩
     case refine_8 =>
      intro D sp w' hD hW hdp hbx'
      have k5 : RBits Y (sp 5) w' := (hdp 5 (mq (by kernel_rfl))).2
      (with_reducible refine asked_call (w1 := w') (f := 141) (args := #[sp 5, .slice p1 n1 c1]) ?_ ?_ ?_)
      ·simp [Region.wanted, go_sem]
      ·simp [Act.eval, Act.put, go_sem]
      ·refine (hS.out w' (sp 5) k5 (RBits.of (H1x.out.below hbx'))).mono ?_
       rintro e w9 ⟨rfl, hb⟩
       exact ⟨_, rfl, hb, rfl, bstep hbx' hb⟩
     case refine_9 =>
      intro D sp w' hD hW hdp hbx'
      have k7 : (sp 7) = .bool false := (hdp 7 (mq (by kernel_rfl))).2
      (with_reducible refine asked_value (w1 := w') (v := sp 7) ?_ ?_ ?_)
      ·simp only [Region.wanted]
      ·simp [execOp, Act.eval, Act.put, go_sem]
      ·exact ⟨Below.refl _ _, k7, hbx'⟩
     case refine_10 =>
      intro D sp w' hD hW hdp hbx'
      have k8 : (sp 8) = .bool false := (hdp 8 (mq (by kernel_rfl))).2
      (with_reducible refine asked_not ?_ ?_)
      ·simp [Region.wanted, yielded, Act.put, go_sem, k8]
      ·exact ⟨rfl, rfl⟩
     case refine_11 =>
      intro D sp w' hD hW hdp hbx'
      have k8 : (sp 8) = .bool false := (hdp 8 (mq (by kernel_rfl))).2
      (with_reducible refine asked_not ?_ ?_)
      ·simp [Region.wanted, yielded, Act.put, go_sem, k8]
      ·exact ⟨rfl, rfl⟩
     case refine_12 =>
      intro D sp w' hD hW hdp hbx'
      have k8 : (sp 8) = .bool false := (hdp 8 (mq (by kernel_rfl))).2
      (with_reducible refine asked_not ?_ ?_)
      ·simp [Region.wanted, yielded, Act.put, go_sem, k8]
      ·exact ⟨rfl, rfl⟩
     case refine_13 =>
      intro D sp w' hD hW hdp hbx'
      have k8 : (sp 8) = .bool false := (hdp 8 (mq (by kernel_rfl))).2
      (with_reducible refine asked_not ?_ ?_)
      ·simp [Region.wanted, yielded, Act.put, go_sem, k8]
      ·exact ⟨rfl, rfl⟩
     case refine_14 =>
      intro D sp w' hD hW hdp hbx'
      have k8 : (sp 8) = .bool false := (hdp 8 (mq (by kernel_rfl))).2
      (with_reducible refine asked_not ?_ ?_)
      ·simp [Region.wanted, yielded, Act.put, go_sem, k8]
      ·exact ⟨rfl, rfl⟩
     case refine_15 =>
      intro D sp w' hD hW hdp hbx'
      have k8 : (sp 8) = .bool false := (hdp 8 (mq (by kernel_rfl))).2
      (with_reducible refine asked_not ?_ ?_)
      ·simp [Region.wanted, yielded, Act.put, go_sem, k8]
      ·exact ⟨rfl, rfl⟩
     case refine_16 =>
      intro D sp w' hD hW hdp hbx'
      have k8 : (sp 8) = .bool false := (hdp 8 (mq (by kernel_rfl))).2
      (with_reducible refine asked_not ?_ ?_)
      ·simp [Region.wanted, yielded, Act.put, go_sem, k8]
      ·exact ⟨rfl, rfl⟩
     case refine_17 =>
      intro D sp w' hD hW hdp hbx'
      have k8 : (sp 8) = .bool false := (hdp 8 (mq (by kernel_rfl))).2
      (with_reducible refine asked_value (w1 := w') (v := .bool false) ?_ ?_ ?_)
      ·simp only [Region.wanted]
      ·simp [execOp, Act.eval, Act.put, go_sem, k8]
      ·exact ⟨rfl, rfl⟩
     case refine_18 =>
      intro D sp w' hD hW hdp hbx'
      have k8 : (sp 8) = .bool false := (hdp 8 (mq (by kernel_rfl))).2
      (with_reducible refine asked_value (w1 := w') (v := .bool false) ?_ ?_ ?_)
      ·simp only [Region.wanted]
      ·simp [execOp, Act.eval, Act.put, go_sem, k8]
      ·exact ⟨rfl, rfl⟩
    ·intro sp w7 hsp hbx'
     have HBe' : Hold _ := ⟨bstep HBT.out hbx'⟩
     clear hsp hbx'
     simp only [frameOf]
     generalize sp 5 = y5 at *
     generalize sp 7 = y7 at *
     generalize sp 8 = y8 at *
     go_simp
     go_wp2
     go_ret
     exact ⟨by rw [HF.out]; rfl, HBe'.out⟩
end Go.Proofs.YtcbhgfiafamflaaGreatDoor
