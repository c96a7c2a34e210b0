/- The laws of stage 8: what the program's calls do, as the laws use it; the chapter's example lives; CertSmalls. -/
import Derived.Test.YtceihmiiapnmnaaPock
import Derived.Test.YtceihmiiapnmnaaCertE
/-! The chapter's example: that its step holds. -/
namespace Go.Proofs.Ytceihmiiapnmnaa
set_option maxRecDepth 100000

/-- A power in a ring, reckoned. -/
def pm (a n : Nat) : Nat → Nat → Nat
  | 0, _ => 1 % n
  | f + 1, e => if e = 0 then 1 % n else
    let h := pm a n f (e / 2)
    if e % 2 = 1 then h * h % n * a % n else h * h % n
theorem pm_eq (a n : Nat) : ∀ f e, e < 2 ^ f → pm a n f e = a ^ e % n
  | 0, e, h => by
    have : e = 0 := by simp at h; omega
    subst this
    rw [pm, Nat.pow_zero]
  | f + 1, e, h => by
    unfold pm
    split
    · rename_i h0; rw [h0, Nat.pow_zero]
    · have ih := pm_eq a n f (e / 2) (by rw [Nat.pow_succ] at h; omega)
      have e2 : a ^ (2 * (e / 2)) = a ^ (e / 2) * a ^ (e / 2) := by rw [← Nat.pow_add]; congr 1; omega
      simp only [ih]
      split
      · rename_i h1
        have : e = 2 * (e / 2) + 1 := by omega
        conv => rhs; rw [this, Nat.pow_succ, e2]
        simp [Nat.mul_mod]
      · rename_i h1
        have : e = 2 * (e / 2) := by omega
        conv => rhs; rw [this, e2]
        rw [← Nat.mul_mod]

theorem smallP_of {n r : Nat} (h2 : 2 ≤ n) (hlt : n < 65536) (hr : n < r * r) (h : ∀ d, d < r → 2 ≤ d → n % d ≠ 0) : SmallP n :=
  ⟨h2, hlt, fun d h3 h4 => h d (Nat.lt_of_not_le fun hle => by have := Nat.mul_le_mul hle hle; omega) h3⟩

theorem ex_gcd {N p e : Nat} (he : (N - 1) / p = e) (hlt : e < 2 ^ 18) (hg : Nat.gcd ((pm 2 N 18 e + N - 1) % N) N = 1) : Nat.gcd ((2 ^ ((N - 1) / p) % N + N - 1) % N) N = 1 := by
  rw [he, ← pm_eq 2 N 18 e hlt]; exact hg
theorem ex_one {N e : Nat} (he : N - 1 = e) (hlt : e < 2 ^ 18) (hg : pm 2 N 18 e = 1) : 2 ^ (N - 1) % N = 1 := by
  rw [he, ← pm_eq 2 N 18 e hlt]; exact hg

theorem example_holds : HoldsP 166667 2 [2, 167, 499] [] := by
  refine ⟨by decide, by simp, by decide, fun i p hp => ?_, ?_, ?_⟩
  · match i, hp with
    | 0, hp =>
      obtain rfl : 2 = p := by simpa using hp
      refine ⟨by simp, .inl (smallP_of (r := 2) (by decide) (by decide) (by decide) (by decide)), by decide, by decide, ?_⟩
      exact ex_gcd (N := 166667) (p := 2) (e := 83333) (by decide) (by decide) (by decide +kernel)
    | 1, hp =>
      obtain rfl : 167 = p := by simpa using hp
      refine ⟨by simp, .inl (smallP_of (r := 13) (by decide) (by decide) (by decide) (by decide)), by decide, by decide, ?_⟩
      exact ex_gcd (N := 166667) (p := 167) (e := 998) (by decide) (by decide) (by decide +kernel)
    | 2, hp =>
      obtain rfl : 499 = p := by simpa using hp
      refine ⟨by simp, .inl (smallP_of (r := 23) (by decide) (by decide) (by decide) (by decide)), by decide, by decide, ?_⟩
      exact ex_gcd (N := 166667) (p := 499) (e := 334) (by decide) (by decide) (by decide +kernel)
    | i + 3, hp => simp at hp
  · exact ex_one (N := 166667) (e := 166666) (by decide) (by decide) (by decide +kernel)
  · have one : ∀ p k, 2 ≤ p → 0 < k → k % p ≠ 0 → pw p (p * k) (p * k) = p := fun p k hp hk hm => by
      rw [pw_step hp (Nat.mul_pos (by omega) hk), if_pos (Nat.mul_mod_right p k), Nat.mul_div_cancel_left _ (by omega), pw_step hp hk, if_neg hm, Nat.mul_one]
    have h1 : pw 2 166666 166666 = 2 := one 2 83333 (by decide) (by decide) (by decide)
    have h2 : pw 167 166666 166666 = 167 := one 167 998 (by decide) (by decide) (by decide)
    have h3 : pw 499 166666 166666 = 499 := one 499 334 (by decide) (by decide) (by decide)
    have : pwl (166667 - 1) [2, 167, 499] = 166666 := by
      show 1 * pw 2 166666 166666 * pw 167 166666 166666 * pw 499 166666 166666 = 166666
      rw [h1, h2, h3]
    rw [this]; decide

end Go.Proofs.Ytceihmiiapnmnaa

namespace Go.Proofs.Ytceihmiiapnmnaa
open Go Go.RowKit Go.Proofs.Ytceihmiiapnmnaa.Flow

/-- A row of the program's numbers, each below so many words. -/
structure PList (w : World) (e : Nat) (p : Option Addr) (n c : Nat) (Ns : List Nat) : Prop where
  len : n = Ns.length
  cap : n ≤ c
  max : c ≤ 9223372036854775807
  nil : p = none → c = 0
  at_ : 0 < n → ∃ b off, p = some ⟨b, off, none⟩ ∧ b < w.heap.size ∧ ∀ i N, Ns[i]? = some N → ∃ q m d, w.cell? ⟨b, off + i, none⟩ = some (.slice q m d) ∧ NatAt w q m d N ∧ N < B32 e
theorem PList.below {w w' : World} {e : Nat} {p : Option Addr} {n c : Nat} {Ns : List Nat} (h : PList w e p n c Ns) (hb : Below w.heap.size w w') : PList w' e p n c Ns := by
  refine ⟨h.len, h.cap, h.max, h.nil, fun h0 => ?_⟩
  obtain ⟨b, off, h1, h2, h3⟩ := h.at_ h0
  refine ⟨b, off, h1, Nat.lt_of_lt_of_le h2 hb.size, fun i N hN => ?_⟩
  obtain ⟨q, m, d, h4, h5, h6⟩ := h3 i N hN
  exact ⟨q, m, d, by rw [hb.cell (p := ⟨b, off + i, none⟩) h2]; exact h4, h5.below hb, h6⟩
theorem PList.none (w : World) (e : Nat) : PList w e none 0 0 [] := ⟨rfl, Nat.le_refl _, by omega, fun _ => rfl, fun h => by omega⟩

/-- A row of the program's steps. -/
structure PSteps (w : World) (e : Nat) (p : Option Addr) (n c : Nat) (l : List StepN) : Prop where
  len : n = l.length
  cap : n ≤ c
  max : c ≤ 9223372036854775807
  nil : p = none → c = 0
  at_ : 0 < n → ∃ b off, p = some ⟨b, off, none⟩ ∧ b < w.heap.size ∧ ∀ i s, l[i]? = some s → ∃ q0 m0 d0 q1 m1 d1 q2 m2 d2,
    w.cell? ⟨b, off + i * 3, none⟩ = some (.slice q0 m0 d0) ∧ w.cell? ⟨b, off + i * 3 + 1, none⟩ = some (.slice q1 m1 d1) ∧ w.cell? ⟨b, off + i * 3 + 2, none⟩ = some (.slice q2 m2 d2) ∧
    NatAt w q0 m0 d0 s.n ∧ s.n < B32 e ∧ NatAt w q1 m1 d1 s.base ∧ s.base < B32 e ∧ PList w e q2 m2 d2 s.ps
theorem PSteps.below {w w' : World} {e : Nat} {p : Option Addr} {n c : Nat} {l : List StepN} (h : PSteps w e p n c l) (hb : Below w.heap.size w w') : PSteps w' e p n c l := by
  refine ⟨h.len, h.cap, h.max, h.nil, fun h0 => ?_⟩
  obtain ⟨b, off, h1, h2, h3⟩ := h.at_ h0
  refine ⟨b, off, h1, Nat.lt_of_lt_of_le h2 hb.size, fun i s hs => ?_⟩
  obtain ⟨q0, m0, d0, q1, m1, d1, q2, m2, d2, k0, k1, k2, k3, k4, k5, k6, k7⟩ := h3 i s hs
  have hc : ∀ o, w'.cell? ⟨b, o, none⟩ = w.cell? ⟨b, o, none⟩ := fun o => hb.cell (p := ⟨b, o, none⟩) h2
  exact ⟨q0, m0, d0, q1, m1, d1, q2, m2, d2, by rw [hc]; exact k0, by rw [hc]; exact k1, by rw [hc]; exact k2, k3.below hb, k4, k5.below hb, k6, k7.below hb⟩

/-- A number of a step of more than 128 bytes. -/
def TooLong (s : StepN) : Prop := 1024 < blen s.n ∨ 1024 < blen s.base ∨ ∃ p ∈ s.ps, 1024 < blen p

/-! What the program's calls do. -/
open Classical in
def SmallDoes : Prop := ∀ (w : World) (N e : Nat) (v : Value), Fit e N v w → e ≤ 200 →
  Calls Try.prog 16 #[v] w fun en w' => en = .returned (.bool (decide (SmallP N))) ∧ Below w.heap.size w w'
open Classical in
def HoldsDoes : Prop := ∀ (w : World) (N B : Nat) (p0 : Option Addr) (n0 c0 : Nat) (p1 : Option Addr) (n1 c1 : Nat) (pp : Option Addr) (np cp : Nat) (ps : List Nat) (pb : Option Addr) (nb cb : Nat) (bs : List Nat),
  NatAt w p0 n0 c0 N → N < B32 2 → NatAt w p1 n1 c1 B → B < B32 2 → PList w 2 pp np cp ps → PList w 2 pb nb cb bs → np ≤ 1000 → nb ≤ 1000 →
  Calls Try.prog 19 #[.agg #[.slice p0 n0 c0, .slice p1 n1 c1, .slice pp np cp], .slice pb nb cb] w fun en w' => en = .returned (.bool (decide (HoldsP N B ps bs))) ∧ Below w.heap.size w w'
open Classical in
def CheckDoes : Prop := ∀ (w : World) (p : Option Addr) (n c : Nat) (l : List StepN), PSteps w 200 p n c l → n ≤ 60 → (∀ s ∈ l, s.ps.length ≤ 1000) → (∀ s ∈ l, ¬ TooLong s → s.n < B32 2 ∧ s.base < B32 2 ∧ ∀ q ∈ s.ps, q < B32 2) →
  Calls Try.prog 10 #[.slice p n c] w fun en w' => en = .returned (.int .i64 (if ∃ s ∈ l, TooLong s then 4 else if ChainP [] l then 0 else 8)) ∧ Below w.heap.size w w'
open Classical in
def PrimeDoes : Prop := ∀ (w : World) (N : Nat) (v : Value) (p : Option Addr) (n c : Nat) (l : List StepN), Fit 2 N v w → PSteps w 2 p n c l → n ≤ 60 → (∀ s ∈ l, s.ps.length ≤ 1000) →
  Calls Try.prog 14 #[v, .slice p n c] w fun en w' => en = .returned (.bool (decide (SmallP N ∨ (ChainP [] l ∧ ∃ s ∈ l, s.n = N)))) ∧ Below w.heap.size w w'

theorem nat_fit (N : Nat) (w : World) (h : N < 18446744073709551616) :
    Calls Try.prog 15 #[.int .u64 N] w fun en w' => ∃ p n c, en = .returned (.agg #[.slice p n c]) ∧ NatAt w' p n c N ∧ Below w.heap.size w w' := by
  refine (new_calls N w h).mono ?_
  rintro en w' ⟨p, n, c, rfl, hn, hb, _⟩
  exact ⟨p, n, c, rfl, hn, hb⟩
theorem lt_B2 {N : Nat} (h : N < 18446744073709551616) : N < B32 2 := h

set_option maxHeartbeats 2000000 in
set_option maxRecDepth 100000 in
theorem lives8_calls (hh : HoldsDoes) (w : World) : Calls Try.prog 7 #[] w fun en w' => en = .returned (.bool true) ∧ Below w.heap.size w w' := by
  have HH : Hold _ := ⟨hh⟩
  clear hh
  go_enter Try.func7, Try.ntmps7
  go_wp2_with fail
  refine (nat_fit 166667 w (by decide)).mono ?_
  rintro en w1 ⟨q1, m1, d1, rfl, h1, b1⟩
  go_wp2_with fail
  refine (nat_fit 2 w1 (by decide)).mono ?_
  rintro en w2 ⟨q2, m2, d2, rfl, h2, b2⟩
  go_wp2_with fail
  refine (nat_fit 2 w2 (by decide)).mono ?_
  rintro en w3 ⟨q3, m3, d3, rfl, h3, b3⟩
  go_wp2_with fail
  refine (nat_fit 167 w3 (by decide)).mono ?_
  rintro en w4 ⟨q4, m4, d4, rfl, h4, b4⟩
  go_wp2_with fail
  refine (nat_fit 499 w4 (by decide)).mono ?_
  rintro en w5 ⟨q5, m5, d5, rfl, h5, b5⟩
  have b6 : Below w5.heap.size w5 (w5.alloc (.cells #[.slice q3 m3 d3, .slice q4 m4 d4, .slice q5 m5 d5] 43)) := (Below.refl _ _).alloc (Nat.le_refl _) _
  have K1 : Hold _ := ⟨h1.below (bstep (bstep (bstep (bstep b2 b3) b4) b5) b6)⟩
  have K2 : Hold _ := ⟨h2.below (bstep (bstep (bstep b3 b4) b5) b6)⟩
  have k3 := h3.below (bstep (bstep b4 b5) b6)
  have k4 := h4.below (bstep b5 b6)
  have k5 := h5.below b6
  have KB : Hold _ := ⟨bstep (bstep (bstep (bstep (bstep b1 b2) b3) b4) b5) b6⟩
  have hbl : (w5.alloc (.cells #[.slice q3 m3 d3, .slice q4 m4 d4, .slice q5 m5 d5] 43)).heap[w5.heap.size]? = some (.cells #[.slice q3 m3 d3, .slice q4 m4 d4, .slice q5 m5 d5] 43 (0, 0)) := heap_alloc_new w5 _
  have KP : Hold (PList (w5.alloc (.cells #[.slice q3 m3 d3, .slice q4 m4 d4, .slice q5 m5 d5] 43)) 2 (some ⟨w5.heap.size, 0, none⟩) 3 3 [2, 167, 499]) := ⟨⟨rfl, Nat.le_refl _, by decide, (fun h => by cases h), fun _ => ⟨_, 0, rfl, (Array.getElem?_eq_some_iff.1 hbl).1, fun i N hN => by
    match i, hN with
    | 0, hN => obtain rfl : 2 = N := by simpa using hN
               exact ⟨q3, m3, d3, by (show World.cell? _ ⟨w5.heap.size, 0, none⟩ = _); unfold World.cell?; dsimp only; rw [hbl]; rfl, k3, by decide⟩
    | 1, hN => obtain rfl : 167 = N := by simpa using hN
               exact ⟨q4, m4, d4, by (show World.cell? _ ⟨w5.heap.size, 1, none⟩ = _); unfold World.cell?; dsimp only; rw [hbl]; rfl, k4, by decide⟩
    | 2, hN => obtain rfl : 499 = N := by simpa using hN
               exact ⟨q5, m5, d5, by (show World.cell? _ ⟨w5.heap.size, 2, none⟩ = _); unfold World.cell?; dsimp only; rw [hbl]; rfl, k5, by decide⟩
    | i + 3, hN => simp at hN⟩⟩⟩
  clear h1 h2 h3 h4 h5 b1 b2 b3 b4 b5 b6 k3 k4 k5 hbl
  go_wp2_with fail
  refine (HH.out _ 166667 2 _ _ _ _ _ _ _ 3 3 [2, 167, 499] none 0 0 [] K1.out (by decide) K2.out (by decide) KP.out (PList.none _ _) (by decide) (by decide)).mono ?_
  rintro en w7 ⟨rfl, b7⟩
  rw [@decide_eq_true _ (Classical.propDecidable _) example_holds]
  have KB7 : Hold _ := ⟨bstep KB.out b7⟩
  clear b7
  go_wp2
  go_ret
  exact ⟨rfl, KB7.out⟩

end Go.Proofs.Ytceihmiiapnmnaa
