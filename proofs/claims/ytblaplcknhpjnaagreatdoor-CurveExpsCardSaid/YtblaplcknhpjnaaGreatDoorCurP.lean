/- Sums and products of polynomials in a field, coefficient by coefficient; Newton's way: over numbers. Of no program (stage 10). -/
import Derived.Test.YtblaplcknhpjnaaGreatDoorPock
import Derived.Test.YtblaplcknhpjnaaGreatDoorRing
import Derived.Test.YtblaplcknhpjnaaGreatDoorCertK
/-! Rests of whole numbers: sums, products, differences and inverses in a field as whole numbers have them. Of no program (stage 10 ahead). -/
/-! Polynomials over a prime, over numbers: as many places as coefficients leave nothing open; what goes through places. Of no program (stage 10 ahead). -/
namespace Go.Proofs.YtblaplcknhpjnaaGreatDoor
set_option maxRecDepth 100000

/-- A polynomial's value: the coefficient of x^0 first. -/
def ev : List Int → Int → Int
  | [], _ => 0
  | c :: p, x => c + x * ev p x
/-! Sums, multiples, a factor more. -/
def addP : List Int → List Int → List Int
  | [], r => r
  | p, [] => p
  | a :: p, b :: r => (a + b) :: addP p r
theorem ev_add (x : Int) : ∀ p r, ev (addP p r) x = ev p x + ev r x
  | [], r => by simp [addP, ev]
  | a :: p, [] => by simp [addP, ev]
  | a :: p, b :: r => by
    show (a + b) + x * ev (addP p r) x = (a + x * ev p x) + (b + x * ev r x)
    rw [ev_add x p r, Int.mul_add]; omega
end Go.Proofs.YtblaplcknhpjnaaGreatDoor

/-! Inverses, over numbers: Euclid's steps with and without signs. -/
namespace Go.Proofs.YtblaplcknhpjnaaGreatDoor
set_option maxRecDepth 100000

theorem mod_of_dvd {M a b : Nat} (h : (M : Int) ∣ (a : Int) - b) : a % M = b % M := by
  have := Int.emod_emod_of_dvd
  have h1 : ((a : Int) - b) % M = 0 := Int.emod_eq_zero_of_dvd h
  have h2 := Int.emod_eq_emod_iff_emod_sub_eq_zero.2 h1
  exact_mod_cast h2
end Go.Proofs.YtblaplcknhpjnaaGreatDoor

namespace Go.Proofs.YtblaplcknhpjnaaGreatDoor
set_option maxRecDepth 100000

theorem idvd_l {q a : Int} (h : q ∣ a) (b : Int) : q ∣ a * b := let ⟨k, hk⟩ := h; ⟨k * b, by rw [hk, Int.mul_assoc]⟩
theorem idvd_r {q a : Int} (h : q ∣ a) (b : Int) : q ∣ b * a := by rw [Int.mul_comm]; exact idvd_l h b
/-- N is the rest of z. -/
structure Is (q N : Nat) (z : Int) : Prop where
  lt : N < q
  dvd : (q : Int) ∣ (N : Int) - z
theorem Is.of {q : Nat} (hq : 0 < q) (N : Nat) : Is q (N % q) N := ⟨Nat.mod_lt _ hq, by
  have h := Nat.div_add_mod N q
  refine ⟨-((N / q : Nat) : Int), ?_⟩
  have h2 : (N : Int) = (q : Int) * (N / q : Nat) + (N % q : Nat) := by rw [← Int.natCast_mul, ← Int.natCast_add, h]
  rw [Int.mul_neg]; omega⟩
theorem Is.alike {q N : Nat} {x y : Int} (h : Is q N x) (hxy : (q : Int) ∣ x - y) : Is q N y := ⟨h.lt, by
  have := Int.dvd_add h.dvd hxy
  rwa [show (N : Int) - x + (x - y) = N - y by omega] at this⟩
theorem Is.uniq {q a b : Nat} {x y : Int} (h : Is q a x) (k : Is q b y) (hxy : (q : Int) ∣ x - y) : a = b := by
  have h1 := Int.dvd_sub (h.alike hxy).dvd k.dvd
  rw [show (a : Int) - y - ((b : Int) - y) = (a : Int) - b by omega] at h1
  have h2 := mod_of_dvd h1
  rwa [Nat.mod_eq_of_lt h.lt, Nat.mod_eq_of_lt k.lt] at h2
theorem Is.rest {q N : Nat} {z : Int} (hq : 0 < q) (h : (q : Int) ∣ (N : Int) - z) : Is q (N % q) z := (Is.of hq N).alike h
theorem Is.add {q a b : Nat} {x y : Int} (h : Is q a x) (k : Is q b y) : Is q ((a + b) % q) (x + y) := Is.rest (Nat.lt_of_le_of_lt (Nat.zero_le _) h.lt) (by
  have := Int.dvd_add h.dvd k.dvd
  rwa [show (a : Int) - x + ((b : Int) - y) = ((a + b : Nat) : Int) - (x + y) by omega] at this)
theorem Is.mul {q a b : Nat} {x y : Int} (h : Is q a x) (k : Is q b y) : Is q (a * b % q) (x * y) := Is.rest (Nat.lt_of_le_of_lt (Nat.zero_le _) h.lt) (by
  have h1 := Int.dvd_add (idvd_l h.dvd (b : Int)) (idvd_r k.dvd x)
  rwa [show ((a : Int) - x) * b + x * ((b : Int) - y) = ((a * b : Nat) : Int) - x * y by rw [Int.sub_mul, Int.mul_sub, Int.natCast_mul]; omega] at h1)
theorem Is.zero {q : Nat} (hq : 0 < q) : Is q 0 0 := ⟨hq, by simp⟩
/-- A value by Horner, in the field. -/
def horQ (q x : Nat) : List Nat → Nat
  | [] => 0
  | c :: l => (c + horQ q x l * x % q) % q
theorem horQ_is {q x : Nat} (hq : 2 ≤ q) : ∀ l : List Nat, Is q (horQ q x l) (ev (l.map fun c : Nat => (c : Int)) x)
  | [] => Is.zero (by omega)
  | c :: l => by
    have ih := horQ_is (q := q) (x := x) hq l
    have h0 : 0 < q := by omega
    have h1 : Is q (horQ q x l * x % q) (ev (l.map fun c : Nat => (c : Int)) x * x) := Is.rest h0 (by
      have := idvd_l ih.dvd (x : Int)
      rwa [Int.sub_mul, ← Int.natCast_mul] at this)
    refine Is.rest h0 ?_
    show (q : Int) ∣ ((c + horQ q x l * x % q : Nat) : Int) - ((c : Int) + x * ev (l.map fun c : Nat => (c : Int)) x)
    have := h1.dvd
    rw [Int.mul_comm] at this
    rwa [show ((c + horQ q x l * x % q : Nat) : Int) - ((c : Int) + x * ev (l.map fun c : Nat => (c : Int)) x) = ((horQ q x l * x % q : Nat) : Int) - x * ev (l.map fun c : Nat => (c : Int)) x by omega]

end Go.Proofs.YtblaplcknhpjnaaGreatDoor

/-! A row in a box grows by a number: how a region stands that does it. -/
namespace Go.Proofs.YtblaplcknhpjnaaGreatDoor
open Go Go.RowKit Go.Proofs.YtblaplcknhpjnaaGreatDoor.Flow
set_option maxRecDepth 100000

section
variable {At : World → Option Addr → Nat → Nat → Nat → Prop} {e : TypeId} {B : Nat} {bad : Nat → Prop} {w : World} {v : Value} {Ns : List Nat}
/-- One more; where it lies now is among the blocks that may change from now on. -/
theorem OwnV.app2 {st : TypeId} {bytes : Nat} {i : TypeInfo} (hu : Tryz.prog.underlying st = some (.slice e)) (hi : Tryz.prog.info? e = some i)
    {z : Value} (hz : i.zero = some z) (hs : i.size = 1) (hb : i.bytes = bytes) (hzs : z.cells.size = 1) (hby : bytes ≤ 1000) (h : OwnV At e B bad w v Ns) (hB : B ≤ w.heap.size) {a : Addr} {c N : Nat} {x : Option Addr × Nat × Nat} (hc : w.cell? a = some (.slice x.1 x.2.1 x.2.2))
    (hN : Firm (fun w => At w x.1 x.2.1 x.2.2 N) bad w) (hv : ∀ g, v.ownBlock = some g → bad g) (hlt : ∀ g, bad g → g < w.heap.size) (hl : Ns.length ≤ 1000000) (ty : TypeId) {C : Prop}
    (k : ∀ v' w' bad', (Builtin.append_ #[st, st] ty #[v, .slice (some a) 1 c]).run Tryz.prog w = .ok v' w' → OwnV At e B bad' w' v' (Ns ++ [N]) → w.grownBy w' v.ownBlock →
      (∀ g, bad g → bad' g) → (∀ g, g < w.heap.size → bad' g → bad g) → (∀ g, v'.ownBlock = some g → bad' g) → (∀ g, bad' g → g < w'.heap.size) → C) : C := by
  obtain ⟨v', w', k1, _, k3, k4⟩ := h.app hu hi hz hs hb hzs hby hB hc hN hv hl ty
  have hsub : ∀ g, g < w.heap.size → (bad g ∨ v'.ownBlock = some g) → bad g := by
    intro g hg hx
    rcases hx with hx | hx
    · exact hx
    · rcases k4 with k4 | k4
      · exact hv g (by rw [← k4]; exact hx)
      · have := k4 g hx; omega
  obtain ⟨v2, w2, g1, g2, _, _⟩ := (h.more (bad' := fun g => bad g ∨ v'.ownBlock = some g) hsub).app hu hi hz hs hb hzs hby hB hc (hN.more hsub) (fun g hg => .inl (hv g hg)) hl ty
  rw [k1] at g1
  injection g1 with e1 e2
  subst e1 e2
  exact k v' w' _ k1 g2 k3 (fun g hg => .inl hg) hsub (fun g hg => .inr hg) (fun g hg => by
    rcases hg with hg | hg
    · exact Nat.lt_of_lt_of_le (hlt g hg) k3.size
    · exact (g2.block g hg).2)
end

section
variable {At : World → Option Addr → Nat → Nat → Nat → Prop} {t e : TypeId} {B : Nat} {bad bad' : Nat → Prop} {b M0 M1 : Nat} {Ns : List Nat} {x y : Option Addr × Nat × Nat} {v : Value} {w0 w : World}
end

section
variable {At : World → Option Addr → Nat → Nat → Nat → Prop} {mk : Option Addr → Nat → Nat → Value} {t e : TypeId} {wE w0 : World} {bad : Nat → Prop} {b : Nat} {q0 q1 v : Value} {Ns : List Nat} {N : Nat} {d3 d4 d5 d7 : Bool} {v3 v4 v5 : Value} {w : World}
end
end Go.Proofs.YtblaplcknhpjnaaGreatDoor

/-! A claim as a step, the program's and the document's: the walk. -/
namespace Go.Proofs.YtblaplcknhpjnaaGreatDoor
open Go Go.RowKit Go.Proofs.YtblaplcknhpjnaaGreatDoor.Flow
set_option maxRecDepth 100000

theorem Tryz.info_Nat : (Tryz.prog.info? 36).map (fun i => (i.zero, i.size, i.bytes)) = some (some (.agg #[.slice none 0 0]), 1, 24) := by kernel_rfl

/-- A step of the program's, in its cells. -/
structure PStep (e : Nat) (s : StepN) (x y z : Option Addr × Nat × Nat) (w : World) : Prop where
  n : NatAt w x.1 x.2.1 x.2.2 s.n
  base : NatAt w y.1 y.2.1 y.2.2 s.base
  ps : PList w e z.1 z.2.1 z.2.2 s.ps
/-- A step's three slices. -/
abbrev trip (x y z : Option Addr × Nat × Nat) : Value := .agg #[.slice x.1 x.2.1 x.2.2, .slice y.1 y.2.1 y.2.2, .slice z.1 z.2.1 z.2.2]
end Go.Proofs.YtblaplcknhpjnaaGreatDoor

/-! Claims as a chain, the program's and the document's. -/
namespace Go.Proofs.YtblaplcknhpjnaaGreatDoor
open Go Go.RowKit Go.Proofs.YtblaplcknhpjnaaGreatDoor.Flow
set_option maxRecDepth 100000

section
variable {F : StepN → Option Addr × Nat × Nat → Option Addr × Nat × Nat → Option Addr × Nat × Nat → World → Prop} {e : TypeId} {B : Nat} {bad : Nat → Prop} {w : World} {v : Value} {l : List StepN}
end
theorem snoc_take {α : Type} {l : List α} {k : Nat} {N : α} (h : l[k]? = some N) : l.take (k + 1) = l.take k ++ [N] := by
  obtain ⟨hi, e⟩ := List.getElem?_eq_some_iff.1 h
  rw [List.take_succ_eq_append_getElem hi, e]

end Go.Proofs.YtblaplcknhpjnaaGreatDoor

namespace Go.Proofs.YtblaplcknhpjnaaGreatDoor
set_option maxRecDepth 100000

theorem ints_append (a b : List Nat) : ints (a ++ b) = ints a ++ ints b := by simp [ints]
theorem ints_length (a : List Nat) : (ints a).length = a.length := by simp [ints]
theorem ev_snoc (x c : Int) : ∀ p : List Int, ev (p ++ [c]) x = ev p x + c * x ^ p.length
  | [] => by simp [ev]
  | a :: p => by
    show a + x * ev (p ++ [c]) x = a + x * ev p x + c * x ^ (p.length + 1)
    rw [ev_snoc x c p, Int.mul_add, Int.pow_succ, Int.mul_comm (x ^ p.length) x, ← Int.mul_assoc c, Int.mul_comm c x, Int.mul_assoc x c, Int.add_assoc]
theorem ev_take {l : List Nat} {i c : Nat} (h : l[i]? = some c) (x : Int) : ev (ints (l.take (i + 1))) x = ev (ints (l.take i)) x + c * x ^ i := by
  have hi := (List.getElem?_eq_some_iff.1 h).1
  rw [snoc_take h, ints_append, show ints [c] = [(c : Int)] from rfl, ev_snoc, ints_length, List.length_take, Nat.min_eq_left (by omega)]
theorem ev_set (x : Int) : ∀ {l : List Nat} {j c : Nat} (_ : l[j]? = some c) (d : Nat), ev (ints (l.set j d)) x = ev (ints l) x + ((d : Int) - c) * x ^ j
  | [], _, _, h, _ => by simp at h
  | a :: l, 0, c, h, d => by
    simp at h
    subst h
    show (d : Int) + x * ev (ints l) x = (a : Int) + x * ev (ints l) x + ((d : Int) - a) * x ^ 0
    rw [Int.pow_zero, Int.mul_one]; omega
  | a :: l, j + 1, c, h, d => by
    have ih := ev_set x (l := l) (j := j) (c := c) (by simpa using h) d
    show (a : Int) + x * ev (ints (l.set j d)) x = (a : Int) + x * ev (ints l) x + ((d : Int) - c) * x ^ (j + 1)
    rw [ih, Int.mul_add, Int.pow_succ, Int.mul_comm (x ^ j) x, ← Int.mul_assoc ((d : Int) - c), Int.mul_comm ((d : Int) - c) x, Int.mul_assoc x ((d : Int) - c), Int.add_assoc]
theorem ev_mod {q : Nat} (hq : 0 < q) (x : Int) : ∀ l : List Nat, (q : Int) ∣ ev (ints (l.map fun c => c % q)) x - ev (ints l) x
  | [] => by simp [ints, ev]
  | a :: l => by
    have ih := ev_mod hq x l
    have h1 := (Is.of hq a).dvd
    show (q : Int) ∣ ((a % q : Nat) : Int) + x * ev (ints (l.map fun c => c % q)) x - ((a : Int) + x * ev (ints l) x)
    have h2 := Int.dvd_add h1 (idvd_r ih x)
    rw [Int.mul_sub] at h2
    rwa [show ((a % q : Nat) : Int) - a + (x * ev (ints (l.map fun c => c % q)) x - x * ev (ints l) x) = ((a % q : Nat) : Int) + x * ev (ints (l.map fun c => c % q)) x - ((a : Int) + x * ev (ints l) x) by omega] at h2
/-- The sum, coefficient by coefficient. -/
def addN : List Nat → List Nat → List Nat
  | [], r => r
  | a :: p, [] => a :: p
  | a :: p, b :: r => (a + b) :: addN p r
theorem addN_length : ∀ p r, (addN p r).length = max p.length r.length
  | [], r => by simp [addN]
  | a :: p, [] => by simp [addN]
  | a :: p, b :: r => by simp only [addN, List.length_cons, addN_length p r]; omega
theorem addN_get : ∀ (p r : List Nat) (i : Nat), i < max p.length r.length → (addN p r)[i]? = some (p.getD i 0 + r.getD i 0)
  | [], r, i, h => by
    simp at h
    simp [addN, h]
  | a :: p, [], i, h => by
    simp only [List.length_nil, Nat.max_zero] at h
    show (a :: p)[i]? = _
    rw [List.getElem?_eq_getElem h, List.getD_eq_getElem?_getD, List.getElem?_eq_getElem h]
    simp
  | a :: p, b :: r, 0, _ => by simp [addN]
  | a :: p, b :: r, i + 1, h => by
    show (addN p r)[i]? = some (p.getD i 0 + r.getD i 0)
    exact addN_get p r i (by simp only [List.length_cons] at h; omega)
theorem ints_addN : ∀ p r, ints (addN p r) = addP (ints p) (ints r)
  | [], r => by simp [addN, ints, addP]
  | a :: p, [] => by simp [addN, ints, addP]
  | a :: p, b :: r => by
    show ((a + b : Nat) : Int) :: ints (addN p r) = ((a : Int) + b) :: addP (ints p) (ints r)
    rw [ints_addN p r, Int.natCast_add]
def addQ (q : Nat) (p r : List Nat) : List Nat := (addN p r).map fun c => c % q
theorem addQ_length (q : Nat) (p r : List Nat) : (addQ q p r).length = max p.length r.length := by rw [addQ, List.length_map, addN_length]
theorem addQ_get (q : Nat) (p r : List Nat) (i : Nat) (h : i < max p.length r.length) : (addQ q p r)[i]? = some ((p.getD i 0 + r.getD i 0) % q) := by
  rw [addQ, List.getElem?_map, addN_get p r i h]; rfl
theorem addQ_ev {q : Nat} (hq : 0 < q) (x : Int) (p r : List Nat) : (q : Int) ∣ ev (ints (addQ q p r)) x - (ev (ints p) x + ev (ints r) x) := by
  have := ev_mod hq x (addN p r)
  rwa [ints_addN, ev_add] at this

/-- A product under way: i coefficients of the one are done, and k of the other one with the next. -/
structure PrSt (q : Nat) (p r : List Nat) (i a k : Nat) (acc : List Nat) : Prop where
  len : acc.length = p.length + r.length - 1
  lt : ∀ c ∈ acc, c < q
  val : ∀ x : Int, (q : Int) ∣ ev (ints acc) x - (ev (ints (p.take i)) x * ev (ints r) x + a * x ^ i * ev (ints (r.take k)) x)
theorem ev_noughts (x : Int) : ∀ n, ev (ints (List.replicate n 0)) x = 0
  | 0 => rfl
  | n + 1 => by
    show ((0 : Nat) : Int) + x * ev (ints (List.replicate n 0)) x = 0
    rw [ev_noughts x n]; simp
theorem PrSt.start {q : Nat} (hq : 0 < q) (p r : List Nat) (a : Nat) : PrSt q p r 0 a 0 (List.replicate (p.length + r.length - 1) 0) :=
  ⟨by simp, fun c hc => by rw [(List.mem_replicate.1 hc).2]; exact hq, fun x => by
    rw [ev_noughts, List.take_zero, List.take_zero]
    simp [ints, ev]⟩
theorem PrSt.step {q : Nat} {p r acc : List Nat} {i a k b c : Nat} (hq : 0 < q) (h : PrSt q p r i a k acc) (hb : r[k]? = some b) (hc : acc[i + k]? = some c) : PrSt q p r i a (k + 1) (acc.set (i + k) ((c + a * b % q) % q)) :=
  ⟨by rw [List.length_set]; exact h.len, fun d hd => by
    rcases List.mem_or_eq_of_mem_set hd with h1 | h1
    · exact h.lt d h1
    · rw [h1]; exact Nat.mod_lt _ hq, fun x => by
    have h1 := h.val x
    have h2 : (q : Int) ∣ (((c + a * b % q) % q : Nat) : Int) - c - a * b := by
      have e1 := (Is.of hq (c + a * b % q)).dvd
      have e2 := (Is.of hq (a * b)).dvd
      have := Int.dvd_add e1 e2
      rwa [show (((c + a * b % q) % q : Nat) : Int) - ((c + a * b % q : Nat) : Int) + (((a * b % q : Nat) : Int) - ((a * b : Nat) : Int)) = (((c + a * b % q) % q : Nat) : Int) - c - a * b by rw [Int.natCast_mul]; omega] at this
    rw [ev_set x hc, ev_take hb, Int.mul_add]
    have h3 := Int.dvd_add h1 (idvd_l h2 (x ^ (i + k)))
    generalize (((c + a * b % q) % q : Nat) : Int) = D at *
    have e : (a : Int) * x ^ i * (b * x ^ k) = a * b * x ^ (i + k) := by
      rw [Int.pow_add, Int.mul_assoc, Int.mul_assoc, ← Int.mul_assoc (x ^ i), Int.mul_comm (x ^ i) (b : Int), Int.mul_assoc]
    rw [e]
    rw [Int.sub_mul (D - c)] at h3
    generalize (D - (c : Int)) * x ^ (i + k) = A at *
    generalize (a : Int) * b * x ^ (i + k) = B at *
    rwa [show ev (ints acc) x - (ev (ints (p.take i)) x * ev (ints r) x + a * x ^ i * ev (ints (r.take k)) x) + (A - B) = ev (ints acc) x + A - (ev (ints (p.take i)) x * ev (ints r) x + (a * x ^ i * ev (ints (r.take k)) x + B)) by omega] at h3⟩
theorem PrSt.next {q : Nat} {p r acc : List Nat} {i a : Nat} (h : PrSt q p r i a r.length acc) (ha : p[i]? = some a) (b : Nat) : PrSt q p r (i + 1) b 0 acc :=
  ⟨h.len, h.lt, fun x => by
    have h1 := h.val x
    rw [List.take_length, ← Int.add_mul] at h1
    rw [ev_take ha, List.take_zero, show ints [] = [] from rfl, show ev [] x = 0 from rfl, Int.mul_zero, Int.add_zero]
    exact h1⟩
theorem PrSt.again {q : Nat} {p r acc : List Nat} {i a : Nat} (h : PrSt q p r i a 0 acc) (b : Nat) : PrSt q p r i b 0 acc :=
  ⟨h.len, h.lt, fun x => by
    have h1 := h.val x
    rw [List.take_zero, show ints [] = [] from rfl, show ev [] x = 0 from rfl, Int.mul_zero] at *
    exact h1⟩
theorem PrSt.done {q : Nat} {p r acc : List Nat} {a : Nat} (h : PrSt q p r p.length a 0 acc) (x : Int) : (q : Int) ∣ ev (ints acc) x - ev (ints p) x * ev (ints r) x := by
  have h1 := h.val x
  rw [List.take_length, List.take_zero, show ints [] = [] from rfl, show ev [] x = 0 from rfl, Int.mul_zero, Int.add_zero] at h1
  exact h1

/-- What a product of polynomials is. -/
structure PrOf (q : Nat) (p r s : List Nat) : Prop where
  len : s.length = p.length + r.length - 1
  lt : ∀ c ∈ s, c < q
  val : ∀ x : Int, (q : Int) ∣ ev (ints s) x - ev (ints p) x * ev (ints r) x
theorem PrOf.of_mod {q : Nat} (hq : 0 < q) {p r s : List Nat} (h : PrOf q (p.map fun c => c % q) (r.map fun c => c % q) s) : PrOf q p r s :=
  ⟨by have := h.len; simpa using this, h.lt, fun x => by
    have h1 := h.val x
    have h2 := ev_mod hq x p
    have h3 := ev_mod hq x r
    generalize ev (ints (p.map fun c => c % q)) x = A at *
    generalize ev (ints (r.map fun c => c % q)) x = B at *
    have h4 := Int.dvd_add h1 (Int.dvd_add (idvd_l h2 B) (idvd_r h3 (ev (ints p) x)))
    rw [Int.sub_mul, Int.mul_sub] at h4
    generalize ev (ints p) x * B = C at *
    rwa [show ev (ints s) x - A * B + (A * B - C + (C - ev (ints p) x * ev (ints r) x)) = ev (ints s) x - ev (ints p) x * ev (ints r) x by omega] at h4⟩

end Go.Proofs.YtblaplcknhpjnaaGreatDoor
