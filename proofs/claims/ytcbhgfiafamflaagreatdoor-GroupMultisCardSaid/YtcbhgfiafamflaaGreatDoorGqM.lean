/- Groups over numbers, more: a product of powers bit by bit, the number behind a second base, what New tells of the laws' groups. -/
import Derived.Test.YtcbhgfiafamflaaGreatDoorGrpN
import Derived.Test.YtcbhgfiafamflaaGreatDoorMacE
import Derived.Test.YtcbhgfiafamflaaGreatDoorGrpM
import Derived.Test.YtcbhgfiafamflaaGreatDoorShaW
import Derived.Test.YtcbhgfiafamflaaGreatDoorShaT
import Derived.Test.YtcbhgfiafamflaaGreatDoorRowsIn
import Derived.Test.YtcbhgfiafamflaaGreatDoorMacB
import Derived.Test.YtcbhgfiafamflaaGreatDoorFit
import Derived.Test.YtcbhgfiafamflaaGreatDoorNatN
import Derived.Test.YtcbhgfiafamflaaGreatDoorRing
import Derived.Test.YtcbhgfiafamflaaGreatDoorGcdA
import Derived.Test.YtcbhgfiafamflaaGreatDoorCpB
import Derived.BigRegion
import Derived.Laws.Rows
import Derived.Laws.OwnMore
import Derived.Lib.AppendZeros
import Derived.ArgAppend
/-! A group, whatever it lies in: what its calls do, as the laws use it; the laws' own groups; the chapter's example lives. -/
namespace Go.Proofs.YtcbhgfiafamflaaGreatDoor
open Go Go.RowKit Go.Proofs.YtcbhgfiafamflaaGreatDoor.Flow
set_option maxRecDepth 100000

/-- What the program's groups do. 'At': how a group lies in memory; 'ready': what its calls want of the world (the package-level tables). -/
structure GrpDoes (At : World → Nat → Nat → Nat → Nat → Nat → Prop) (ready : World → Prop) : Prop where
  below : ∀ {w w' b P Q G H}, At w b P Q G H → Below w.heap.size w w' → At w' b P Q G H
  readyBelow : ∀ {w w'}, ready w → Below w.heap.size w w' → ready w'
  lim : ∀ {w b P Q G H}, At w b P Q G H → 2 ≤ P ∧ P < B32 33 ∧ 2 ≤ Q ∧ Q < B32 33
  new : ∀ (i : Nat) (w : World) (x y z : Option Addr × Nat × Nat) (pc : Option Addr) (nc cc : Nat), i < 3 → ready w → At3 w x (gP i) → At3 w y (gQ i) → At3 w z (gG i) → PSteps w 3 pc nc cc (gChain i) →
    Calls Tryz.prog 9 #[.agg #[.slice x.1 x.2.1 x.2.2, .slice y.1 y.2.1 y.2.2, .slice z.1 z.2.1 z.2.2, .slice none 0 0], .slice pc nc cc] w fun e w' =>
      ∃ b, e = .returned (.tuple #[.pointer (some ⟨b, 0, none⟩), .int .i64 0]) ∧ At w' b (gP i) (gQ i) (gG i) (gH i) ∧ Below w.heap.size w w'
  exp : ∀ {w b P Q G H e1 e2 A E v u}, At w b P Q G H → Fit e1 A v w → Fit e2 E u w → e1 ≤ 200 → e2 ≤ 200 →
    Calls Tryz.prog 21 #[.pointer (some ⟨b, 0, none⟩), v, u] w fun e w' => ∃ x, e = .returned x ∧ Fit 33 (A ^ E % P) x w' ∧ Below w.heap.size w w'
  member : ∀ {w b P Q G H e1 A v}, At w b P Q G H → Fit e1 A v w → e1 ≤ 200 →
    Calls Tryz.prog 30 #[.pointer (some ⟨b, 0, none⟩), v] w fun e w' => e = .returned (.bool (decide (0 < A ∧ A < P ∧ A ^ Q % P = 1))) ∧ Below w.heap.size w w'

section
variable {At : World → Nat → Nat → Nat → Nat → Nat → Prop} {ready : World → Prop}
def GrpOut (At : World → Nat → Nat → Nat → Nat → Nat → Prop) (i : Nat) (w : World) (e : Ending) (w' : World) : Prop :=
  ∃ b, e = .returned (.pointer (some ⟨b, 0, none⟩)) ∧ At w' b (gP i) (gQ i) (gG i) (gH i) ∧ Below w.heap.size w w'

set_option maxHeartbeats 2000000 in
set_option maxRecDepth 100000 in
theorem group_calls (D : GrpDoes At ready) (w : World) (A : Int) (hr : ready w) :
    Calls Tryz.prog 16 #[.int .i64 A, .slice none 0 0] w (GrpOut At ((IntKind.u64.wrap A) % 3).toNat w) := by
  have HD : Hold _ := ⟨D⟩
  have HR : Hold _ := ⟨hr⟩
  have hi : ((IntKind.u64.wrap A) % 3).toNat < 3 := by
    have h1 := Int.emod_nonneg (IntKind.u64.wrap A) (show (3 : Int) ≠ 0 by decide)
    have h2 := Int.emod_lt_of_pos (IntKind.u64.wrap A) (show (0 : Int) < 3 by decide)
    omega
  obtain ⟨i, ei⟩ : ∃ i, ((IntKind.u64.wrap A) % 3).toNat = i := ⟨_, rfl⟩
  have HN : Hold _ := ⟨numbers_calls w A none 0 0⟩
  rw [ei] at hi HN ⊢
  have HI : Hold _ := ⟨hi⟩
  clear D hr hi ei
  go_enter Tryz.func16, Tryz.ntmps16
  go_wp2_with fail
  refine HN.out.mono ?_
  rintro en w1 ⟨x, y, z, pc, nc, cc, rfl, h1, h2, h3, h4, b1⟩
  have HH : Hold _ := ⟨HD.out.new i w1 x y z pc nc cc HI.out (HD.out.readyBelow HR.out b1) h1 h2 h3 h4⟩
  have B1 : Hold _ := ⟨b1⟩
  clear h1 h2 h3 h4 b1 HN
  go_wp2_with fail
  refine HH.out.mono ?_
  rintro en w2 ⟨b, rfl, hg, b2⟩
  have HG : Hold _ := ⟨hg⟩
  have B2 : Hold _ := ⟨bstep B1.out b2⟩
  clear hg b2 HH B1
  go_wp2
  go_ret
  exact ⟨b, rfl, HG.out, B2.out⟩

theorem two_not : ¬ (0 < 2 ∧ 2 < 607 ∧ 2 ^ 101 % 607 = 1) := by
  rw [← pm_eq 2 607 65 101 (by decide)]
  decide +kernel
theorem group_one : 64 ^ 101 % 607 = 1 := gG_member 0 (by omega)

set_option maxHeartbeats 2000000 in
set_option maxRecDepth 100000 in
theorem lives9_calls (D : GrpDoes At ready) (w : World) (hr : ready w) :
    Calls Tryz.prog 6 #[] w fun e w' => e = .returned (.bool true) ∧ Below w.heap.size w w' := by
  have HD : Hold _ := ⟨D⟩
  have HR : Hold _ := ⟨hr⟩
  have HN : Hold _ := ⟨group_calls D w 0 hr⟩
  clear D hr
  go_enter Tryz.func6, Tryz.ntmps6
  go_wp2_with fail
  refine HN.out.mono ?_
  rintro en w1 ⟨b, rfl, hg, b1⟩
  have hg' : At w1 b 607 101 64 597 := hg
  have HG : Hold _ := ⟨hg'⟩
  have B1 : Hold _ := ⟨b1⟩
  clear hg hg' b1 HN
  go_wp2_with fail
  refine (new_calls 64 w1 (by omega)).mono ?_
  rintro en w2 ⟨p2, n2, c2, rfl, h2, b2, _⟩
  have H2 : Hold _ := ⟨Fit.of (e := 1) h2 (by decide)⟩
  have HG2 : Hold _ := ⟨HD.out.below HG.out b2⟩
  have B2 : Hold _ := ⟨bstep B1.out b2⟩
  clear h2 b2 HG B1
  go_wp2_with fail
  refine (new_calls 101 w2 (by omega)).mono ?_
  rintro en w3 ⟨p3, n3, c3, rfl, h3, b3, _⟩
  have H3 : Hold _ := ⟨Fit.of (e := 1) h3 (by decide)⟩
  have H23 : Hold _ := ⟨H2.out.below b3⟩
  have HG3 : Hold _ := ⟨HD.out.below HG2.out b3⟩
  have B3 : Hold _ := ⟨bstep B2.out b3⟩
  clear h3 b3 HG2 B2 H2
  go_wp2_with fail
  refine (HD.out.exp HG3.out H23.out H3.out (by decide) (by decide)).mono ?_
  rintro en w4 ⟨_, rfl, ⟨p4, n4, c4, rfl, h4, l4⟩, b4⟩
  have H4 : Hold (Fit 33 1 (.agg #[.slice p4 n4 c4]) w4) := ⟨(Fit.of h4 l4).cast group_one⟩
  have HG4 : Hold _ := ⟨HD.out.below HG3.out b4⟩
  have B4 : Hold _ := ⟨bstep B3.out b4⟩
  clear h4 l4 b4 HG3 B3 H23 H3
  go_wp2_with fail
  refine (new_calls 1 w4 (by omega)).mono ?_
  rintro en w5 ⟨p5, n5, c5, rfl, h5, b5, _⟩
  have H5 : Hold _ := ⟨Fit.of (e := 1) h5 (by decide)⟩
  have H45 : Hold _ := ⟨H4.out.below b5⟩
  have HG5 : Hold _ := ⟨HD.out.below HG4.out b5⟩
  have B5 : Hold _ := ⟨bstep B4.out b5⟩
  clear h5 b5 HG4 B4 H4
  go_wp2_with fail
  refine (cmp_fitK H45.out H5.out (by decide) (by decide) (cmpI_zero.2 rfl)).mono ?_
  rintro en w6 ⟨_, rfl, rfl, b6⟩
  have HG6 : Hold _ := ⟨HD.out.below HG5.out b6⟩
  have B6 : Hold _ := ⟨bstep B5.out b6⟩
  clear b6 HG5 B5 H45 H5
  go_wp2_with fail
  refine (new_calls 2 w6 (by omega)).mono ?_
  rintro en w7 ⟨p7, n7, c7, rfl, h7, b7, _⟩
  have H7 : Hold _ := ⟨Fit.of (e := 1) h7 (by decide)⟩
  have HG7 : Hold _ := ⟨HD.out.below HG6.out b7⟩
  have B7 : Hold _ := ⟨bstep B6.out b7⟩
  clear h7 b7 HG6 B6
  go_wp2_with fail
  refine (HD.out.member HG7.out H7.out (by decide)).mono ?_
  rintro en w8 ⟨rfl, b8⟩
  rw [decide_eq_false two_not]
  have B8 : Hold _ := ⟨bstep B7.out b8⟩
  have HN8 : Hold _ := ⟨group_calls HD.out w8 1 (HD.out.readyBelow HR.out B8.out)⟩
  clear b8 HG7 B7 H7
  go_wp2_with fail
  refine HN8.out.mono ?_
  rintro en w9 ⟨b9, rfl, _, bb9⟩
  have B9 : Hold _ := ⟨bstep B8.out bb9⟩
  clear bb9 HN8
  go_wp2
  go_ret
  exact ⟨rfl, B9.out⟩
end

end Go.Proofs.YtcbhgfiafamflaaGreatDoor

/-! A key out of a secret: the calls, and the document's. -/
namespace Go.Proofs.YtcbhgfiafamflaaGreatDoor
open Go Go.RowKit Go.Proofs.YtcbhgfiafamflaaGreatDoor.Flow
set_option maxRecDepth 100000

set_option maxHeartbeats 1000000 in
set_option maxRecDepth 100000 in
theorem extract_calls (w : World) (pk : Option Addr) (nk ck : Nat) (salt : List Nat) (ps : Option Addr) (ns cs : Nat) (secret : List Nat) (hT : Tabs w) (hK : PartOk w ⟨pk, nk, ck, salt⟩) (hS : PartOk w ⟨ps, ns, cs, secret⟩) :
    Calls Tryz.prog 134 #[.slice pk nk ck, .slice ps ns cs] w (GivesSum (tagged salt secret) w) := by
  have hb : Below w.heap.size w (w.alloc (.cells #[.slice ps ns cs] 23)) := (Below.refl _ _).alloc (Nat.le_refl _) _
  have hz := hb.size
  have HC : Hold _ := ⟨macTag_calls (w.alloc (.cells #[.slice ps ns cs] 23)) pk nk ck salt _ _ _ [⟨ps, ns, cs, secret⟩] (hT.below hb hT.size) (hK.below hb).row hK.bytes (parts1 w ⟨ps, ns, cs, secret⟩ hS)⟩
  have HB : Hold _ := ⟨hb⟩
  clear hT hK hS hb
  go_enter Tryz.func134, Tryz.ntmps134
  go_wp2_with fail
  refine HC.out.mono ?_
  rintro e w1 ⟨q, rfl, hq, hb1, hk⟩
  rw [whole_one] at hk
  go_wp2
  go_ret
  exact ⟨q, rfl, by omega, bstepS HB.out hb1, hk⟩

set_option maxHeartbeats 1000000 in
set_option maxRecDepth 100000 in
theorem derive_calls (w : World) (pk : Option Addr) (nk ck : Nat) (salt : List Nat) (ps : Option Addr) (ns cs : Nat) (secret : List Nat) (pi : Option Addr) (ni ci : Nat) (info : List Nat) (n : Nat) (hT : Tabs w) (hK : PartOk w ⟨pk, nk, ck, salt⟩) (hS : PartOk w ⟨ps, ns, cs, secret⟩) (hI : PartOk w ⟨pi, ni, ci, info⟩) (hn : n ≤ 8160) :
    Calls Tryz.prog 113 #[.slice pk nk ck, .slice ps ns cs, .slice pi ni ci, .int .i64 n] w (GivesExp n ((exps (hmac salt secret) info ((n + 31) / 32)).take n) w) := by
  have HC : Hold _ := ⟨extract_calls w pk nk ck salt ps ns cs secret hT hK hS⟩
  have HI : Hold (PartOk w ⟨pi, ni, ci, info⟩) := ⟨hI⟩
  have HT : Hold (Tabs w) := ⟨hT⟩
  clear hT hK hS hI
  go_enter Tryz.func113, Tryz.ntmps113
  go_wp2_with fail
  refine HC.out.mono ?_
  rintro e w1 ⟨q, rfl, hq, hb1, hk⟩
  have hr : RowIn w1 .u8 (some ⟨q, 0, none⟩) 32 32 (hmac salt secret) := ⟨(hmac_length _ _).symm, Nat.le_refl _, by omega, fun _ => hk.row (hmac_length _ _).symm (Nat.le_refl _) (by omega)⟩
  go_wp2_with fail
  refine (expand_calls w1 _ _ _ (hmac salt secret) pi ni ci info n (HT.out.below hb1 HT.out.size) hr (hmac_bytes _ _) (HI.out.below hb1) hn).mono ?_
  rintro e w2 ⟨p, rfl, hr2, hn2, hb2, hz2⟩
  have hz := hb1.size
  have HE : Hold _ := ⟨hr2⟩
  have HN : Hold (New w.heap.size p ∧ (p = none → n = 0)) := ⟨hn2.mono hz, hz2⟩
  clear hr2 hn2 hz2 hr hk
  go_wp2
  exact bodyPost_ret (v := .tuple #[.slice p n n, .int .i64 0]) (by simp [results, Tryz.results113, go_sem]) rfl ⟨p, rfl, HE.out, HN.out.1, bstepS hb1 hb2, HN.out.2⟩

end Go.Proofs.YtcbhgfiafamflaaGreatDoor

/-! The document's New of a group. -/
/-! Groups over numbers: a challenge's bytes, products of powers, what New tells. -/
namespace Go.Proofs.YtcbhgfiafamflaaGreatDoor
set_option maxRecDepth 100000

/-- The product of powers, one behind the other. -/
def mprod (P : Nat) : Nat → List (Nat × Nat) → Nat
  | x, [] => x
  | x, (b, e) :: l => mprod P (x * (b ^ e % P) % P) l
theorem mprod_snoc (P : Nat) : ∀ (l : List (Nat × Nat)) (x b e : Nat), mprod P x (l ++ [(b, e)]) = mprod P x l * (b ^ e % P) % P
  | [], x, b, e => rfl
  | (b', e') :: l, x, b, e => mprod_snoc P l _ b e
theorem mprod_lt {P : Nat} (hP : 2 ≤ P) : ∀ (l : List (Nat × Nat)) (x : Nat), x < P → mprod P x l < P
  | [], _, h => h
  | (_, _) :: l, _, _ => mprod_lt hP l _ (Nat.mod_lt _ (by omega))

end Go.Proofs.YtcbhgfiafamflaaGreatDoor

namespace Go.Proofs.YtcbhgfiafamflaaGreatDoor
open Go Go.RowKit Go.Proofs.YtcbhgfiafamflaaGreatDoor.Flow
set_option maxRecDepth 100000

theorem told_prime {N : Nat} {l : List StepN} (h : Told N l) : Prime N := by
  rcases h with h | ⟨h, s, hs, rfl⟩
  · exact h.prime
  · exact chain_prime l [] (fun x hx => by cases hx) h s hs

/-- The number of the c-th try. -/
def hNum (seed : List Nat) (P c : Nat) : Nat := be ((exps (hmac [] seed) [104, c] ((bsize P + 8 + 31) / 32)).take (bsize P + 8))
/-- The first one above 1. -/
def firstH (f : Nat → Nat) : Nat → Nat → Option Nat
  | 0, _ => none
  | k + 1, c => if 1 < f c then some (f c) else firstH f k (c + 1)
/-- Are the parameters right, but for their primes? -/
def RightG (P Q G : Nat) : Prop := (P - 1) % Q = 0 ∧ 64 < Q ∧ 1 < G ∧ G < P ∧ G ^ Q % P = 1
open Classical in
/-- What New tells: the error, and the second base. -/
noncomputable def newSpec (P Q G : Nat) (seed : List Nat) (l : List StepN) : Nat × Nat :=
  if Told P l ∧ Told Q l then
    if RightG P Q G then
      match firstH (fun c => hNum seed P c ^ ((P - 1) / Q) % P) 256 0 with
      | some h => (0, h)
      | none => (6, 0)
    else (1, 0)
  else (8, 0)

/-- Few bits in a chain. -/
def FewB (l : List StepN) : Prop := ∀ s ∈ l, blen s.n ≤ 1100 ∧ blen s.base ≤ 1100 ∧ (∀ q ∈ s.ps, blen q ≤ 1100) ∧ s.ps.length ≤ 1000000

end Go.Proofs.YtcbhgfiafamflaaGreatDoor

namespace Go.Proofs.YtcbhgfiafamflaaGreatDoor
set_option maxRecDepth 100000

theorem be_append (xs ys : List Nat) : be (xs ++ ys) = be xs * B8 ys.length + be ys := by
  unfold be
  rw [List.reverse_append, le_append, List.length_reverse, Nat.mul_comm (B8 _), Nat.add_comm]
theorem foldl_be : ∀ (bs : List Nat) (a : Nat), bs.foldl (fun n x => n * 256 + x) a = a * B8 bs.length + be bs
  | [], a => by simp [be, le, B8_zero]
  | x :: xs, a => by
    rw [List.foldl_cons, foldl_be xs, show x :: xs = [x] ++ xs from rfl, be_append, List.length_append, List.length_singleton, Nat.add_comm 1, B8_succ]
    have h1 : be [x] = x := by simp [be, le]
    rw [h1, Nat.add_mul, Nat.mul_assoc, Nat.add_assoc]
theorem numB_be (bs : List Nat) : numB bs = be bs := by
  unfold numB; rw [foldl_be]; simp

/-! Products of powers. -/
def prodN : List (Nat × Nat) → Nat
  | [] => 1
  | (b, e) :: l => b ^ e * prodN l
theorem mprod_mod (P : Nat) : ∀ (l : List (Nat × Nat)) (x : Nat), mprod P x l % P = x * prodN l % P
  | [], x => by simp [mprod, prodN]
  | (b, e) :: l, x => by
    rw [mprod, mprod_mod P l, prodN, Nat.mod_mul_mod, Nat.mul_assoc x (b ^ e % P), ← Nat.mul_mod_mod x (b ^ e % P * prodN l), Nat.mod_mul_mod, Nat.mul_mod_mod]
theorem mprod_val {P : Nat} (hP : 2 ≤ P) (l : List (Nat × Nat)) : mprod P 1 l = prodN l % P := by
  have := mprod_mod P l 1
  rw [Nat.mod_eq_of_lt (mprod_lt hP l 1 (by omega)), Nat.one_mul] at this
  exact this
theorem prodN_snoc : ∀ (l : List (Nat × Nat)) (b e : Nat), prodN (l ++ [(b, e)]) = prodN l * b ^ e
  | [], b, e => by simp [prodN]
  | (c, d) :: l, b, e => by rw [List.cons_append, prodN, prodN_snoc l, prodN, Nat.mul_assoc]
/-- The exponents without their lowest bits. -/
def cutE (i : Nat) (l : List (Nat × Nat)) : List (Nat × Nat) := l.map fun p => (p.1, p.2 / 2 ^ i)
/-- One bit of the exponents. -/
def bitE (i : Nat) (l : List (Nat × Nat)) : List (Nat × Nat) := l.map fun p => (p.1, p.2 / 2 ^ i % 2)
theorem cutE_zero (l : List (Nat × Nat)) : cutE 0 l = l := by simp [cutE]
theorem prod_cut (i : Nat) : ∀ l : List (Nat × Nat), prodN (cutE i l) = prodN (cutE (i + 1) l) * prodN (cutE (i + 1) l) * prodN (bitE i l)
  | [] => rfl
  | (b, e) :: l => by
    have h1 : e / 2 ^ i = e / 2 ^ (i + 1) + e / 2 ^ (i + 1) + e / 2 ^ i % 2 := by
      rw [Nat.pow_succ, ← Nat.div_div_eq_div_mul]; omega
    have h2 : b ^ (e / 2 ^ i) = b ^ (e / 2 ^ (i + 1)) * b ^ (e / 2 ^ (i + 1)) * b ^ (e / 2 ^ i % 2) := by
      rw [← Nat.pow_add, ← Nat.pow_add, ← h1]
    show b ^ (e / 2 ^ i) * prodN (cutE i l) = (b ^ (e / 2 ^ (i + 1)) * prodN (cutE (i + 1) l)) * (b ^ (e / 2 ^ (i + 1)) * prodN (cutE (i + 1) l)) * (b ^ (e / 2 ^ i % 2) * prodN (bitE i l))
    rw [h2, prod_cut i l]
    ac_rfl
theorem prod_top (i : Nat) : ∀ l : List (Nat × Nat), (∀ p ∈ l, p.2 < 2 ^ i) → prodN (cutE i l) = 1
  | [], _ => rfl
  | (b, e) :: l, h => by
    show b ^ (e / 2 ^ i) * prodN (cutE i l) = 1
    rw [prod_top i l fun p hp => h p (List.mem_cons_of_mem _ hp), Nat.div_eq_of_lt (h (b, e) List.mem_cons_self)]
    simp
theorem bitE_take {i : Nat} {l : List (Nat × Nat)} {k b e : Nat} (h : l[k]? = some (b, e)) : bitE i (l.take (k + 1)) = bitE i (l.take k) ++ [(b, e / 2 ^ i % 2)] := by
  unfold bitE
  rw [snoc_take h, List.map_append]
  rfl
/-- How many bits the greatest of them has. -/
def mostN : List Nat → Nat
  | [] => 0
  | x :: l => max (blen x) (mostN l)
theorem mostN_snoc : ∀ (l : List Nat) (x : Nat), mostN (l ++ [x]) = max (mostN l) (blen x)
  | [], x => by simp [mostN]
  | y :: l, x => by rw [List.cons_append, mostN, mostN_snoc l, mostN]; omega
theorem mostN_lt : ∀ (l : List Nat) (x : Nat), x ∈ l → x < 2 ^ mostN l
  | y :: l, x, h => by
    rcases List.mem_cons.1 h with rfl | h
    · exact Nat.lt_of_lt_of_le (blen_lt x) (Nat.pow_le_pow_right (by omega) (Nat.le_max_left _ _))
    · exact Nat.lt_of_lt_of_le (mostN_lt l x h) (Nat.pow_le_pow_right (by omega) (Nat.le_max_right _ _))
theorem mostN_le {m : Nat} : ∀ (l : List Nat), (∀ x ∈ l, blen x ≤ m) → mostN l ≤ m
  | [], _ => Nat.zero_le _
  | y :: l, h => Nat.max_le.2 ⟨h y List.mem_cons_self, mostN_le l fun x hx => h x (List.mem_cons_of_mem _ hx)⟩

/-! The second base. -/
theorem der_val {P X Y s : Nat} : ((X * (256 ^ s % P)) % P + Y) % P = (X * 256 ^ s + Y) % P := by
  rw [Nat.mul_mod_mod, Nat.mod_add_mod]
theorem hNum_cut (seed : List Nat) (P c : Nat) : ∃ bs : List Nat, (exps (hmac [] seed) [104, c] ((8 + bsize P + 31) / 32)).take (8 + bsize P) = bs ∧ bs.length = 8 + bsize P ∧ Bytes8 bs ∧ be (bs.take 8) * 256 ^ bsize P + be (bs.drop 8) = hNum seed P c := by
  have hl : ((exps (hmac [] seed) [104, c] ((8 + bsize P + 31) / 32)).take (8 + bsize P)).length = 8 + bsize P := by
    rw [List.length_take, exps_length]; omega
  refine ⟨_, rfl, hl, (exps_bytes _ _ _).take _, ?_⟩
  obtain ⟨bs, hb⟩ : ∃ x, (exps (hmac [] seed) [104, c] ((8 + bsize P + 31) / 32)).take (8 + bsize P) = x := ⟨_, rfl⟩
  have hh : hNum seed P c = be bs := by rw [← hb]; unfold hNum; rw [Nat.add_comm (bsize P) 8]
  rw [hb] at hl ⊢
  have h2 := be_append (bs.take 8) (bs.drop 8)
  rw [List.take_append_drop, List.length_drop, hl, show 8 + bsize P - 8 = bsize P by omega] at h2
  rw [hh, h2]
  rfl
theorem pow_cut (A t P : Nat) : (A % P) ^ t % P = A ^ t % P := (Nat.pow_mod A t P).symm
theorem firstH_hit {f : Nat → Nat} {k c : Nat} (h : 1 < f c) : firstH f (k + 1) c = some (f c) := by rw [firstH, if_pos h]
theorem gSize_eq : ∀ i, i < 3 → bsize (gP i) = gSize i
  | 0, _ => by kernel_rfl
  | 1, _ => by kernel_rfl
  | 2, _ => by kernel_rfl
  | _ + 3, h => by omega
theorem exps_one (key info : List Nat) : exps key info 1 = hmac key (info ++ [1]) := by
  simp [exps, tks]
theorem hNum_nil : ∀ i, i < 3 → hNum [] (gP i) 0 = numB (gBytes i)
  | 0, h => by
    rw [numB_be]; unfold hNum; rw [gSize_eq 0 h, key_nil]
    show be ((exps _ _ 1).take 10) = _
    rw [exps_one]
    show be ((hmac _ [104, 0, 1]).take 10) = _
    rw [tk_nil]; rfl
  | 1, h => by
    rw [numB_be]; unfold hNum; rw [gSize_eq 1 h, key_nil]
    show be ((exps _ _ 1).take 11) = _
    rw [exps_one]
    show be ((hmac _ [104, 0, 1]).take 11) = _
    rw [tk_nil]; rfl
  | 2, h => by
    rw [numB_be]; unfold hNum; rw [gSize_eq 2 h, key_nil]
    show be ((exps _ _ 1).take 17) = _
    rw [exps_one]
    show be ((hmac _ [104, 0, 1]).take 17) = _
    rw [tk_nil]; rfl
  | _ + 3, h => by omega
theorem gTimes_div : ∀ i, i < 3 → (gP i - 1) / gQ i = gTimes i
  | 0, _ => by decide
  | 1, _ => by decide
  | 2, _ => by decide
  | _ + 3, h => by omega
theorem gRight (i : Nat) (hi : i < 3) : RightG (gP i) (gQ i) (gG i) := by
  obtain ⟨h1, h2, h3, _⟩ := g_bounds i hi
  exact ⟨by rw [gTimes_eq i hi]; exact Nat.mul_mod_right _ _, h1, h2, h3, gG_member i hi⟩
theorem newSpec_g (i : Nat) (hi : i < 3) : newSpec (gP i) (gQ i) (gG i) [] (gChain i) = (0, gH i) := by
  have h1 : hNum [] (gP i) 0 ^ ((gP i - 1) / gQ i) % gP i = gH i := by rw [hNum_nil i hi, gTimes_div i hi, gH_eq i hi]
  have h2 := (g_bounds i hi).2.2.2.1
  unfold newSpec
  rw [if_pos ⟨gP_told i hi, gQ_told i hi⟩, if_pos (gRight i hi)]
  have h3 : firstH (fun c => hNum [] (gP i) c ^ ((gP i - 1) / gQ i) % gP i) 256 0 = some (gH i) := by
    rw [firstH_hit (by show 1 < _; rw [h1]; exact h2)]
    show some (hNum [] (gP i) 0 ^ ((gP i - 1) / gQ i) % gP i) = _
    rw [h1]
  rw [h3]
theorem gChain_few : ∀ i, i < 3 → ∀ s ∈ gChain i, s.ps.length ≤ 1000
  | 0, _ => by intro s hs; cases hs
  | 1, _ => by intro s hs; rcases List.mem_singleton.1 hs with rfl; simp
  | 2, _ => by
    intro s hs
    rcases List.mem_cons.1 hs with rfl | hs
    · simp
    · rcases List.mem_singleton.1 hs with rfl; simp
  | _ + 3, h => by omega

end Go.Proofs.YtcbhgfiafamflaaGreatDoor
