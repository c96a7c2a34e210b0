/- A claim as a step of the program's, and of the document's: the two boxes. -/
import Derived.Test.YtceihmiiapnmnaaCertG
/-! Claims that came in; whether they are few. -/
namespace Go.Proofs.Ytceihmiiapnmnaa
open Go Go.RowKit Go.Proofs.Ytceihmiiapnmnaa.Flow
set_option maxRecDepth 100000

def U64 (n : Nat) : Prop := n < 18446744073709551616
/-- A row of claims that came in, as steps over numbers. -/
structure ClaimsIn (w : World) (p : Option Addr) (n c : Nat) (l : List StepN) : Prop where
  len : n = l.length
  cap : n ≤ c
  max : c ≤ 9223372036854775807
  u64 : ∀ s ∈ l, U64 s.n ∧ U64 s.base ∧ ∀ x ∈ s.ps, U64 x
  at_ : 0 < n → ∃ b off, p = some ⟨b, off, none⟩ ∧ b < w.heap.size ∧ ∀ i s, l[i]? = some s → ∃ q m d,
    w.cell? ⟨b, off + i * 3, none⟩ = some (.int .u64 (s.n : Nat)) ∧ w.cell? ⟨b, off + i * 3 + 1, none⟩ = some (.int .u64 (s.base : Nat)) ∧ w.cell? ⟨b, off + i * 3 + 2, none⟩ = some (.slice q m d) ∧ RowIn w .u64 q m d s.ps
theorem ClaimsIn.below {w w' : World} {p : Option Addr} {n c : Nat} {l : List StepN} (h : ClaimsIn w p n c l) (hb : Below w.heap.size w w') : ClaimsIn w' p n c l := by
  refine ⟨h.len, h.cap, h.max, h.u64, fun h0 => ?_⟩
  obtain ⟨b, off, h1, h2, h3⟩ := h.at_ h0
  refine ⟨b, off, h1, Nat.lt_of_lt_of_le h2 hb.size, fun i s hs => ?_⟩
  obtain ⟨q, m, d, k0, k1, k2, k3⟩ := h3 i s hs
  have hc : ∀ o, w'.cell? ⟨b, o, none⟩ = w.cell? ⟨b, o, none⟩ := fun o => hb.cell (p := ⟨b, o, none⟩) h2
  exact ⟨q, m, d, by rw [hc]; exact k0, by rw [hc]; exact k1, by rw [hc]; exact k2, k3.below hb⟩

/-- Few claims, few primes in each. -/
def FewP (l : List StepN) : Prop := l.length ≤ 8 ∧ ∀ s ∈ l, s.ps.length ≤ 40

set_option maxHeartbeats 2000000 in
set_option maxRecDepth 100000 in
open Classical in
theorem few8_calls (w : World) (p : Option Addr) (n c : Nat) (l : List StepN) (h : ClaimsIn w p n c l) :
    Calls Try.prog 8 #[.slice p n c] w fun e w' => e = .returned (.bool (decide (FewP l))) ∧ Below w.heap.size w w' := by
  have HS : Hold _ := ⟨h⟩
  have HLn : Hold _ := ⟨h.len⟩
  have hmx : n ≤ 9223372036854775807 := Nat.le_trans h.cap h.max
  obtain ⟨ANS, hANS⟩ : ∃ A, decide (FewP l) = A := ⟨_, rfl⟩
  have HANS : Hold _ := ⟨hANS⟩
  rw [hANS]
  clear hANS h
  by_cases h8 : 8 < n
  · have h8' : (8 : Int) < n := by omega
    have HF : Hold (ANS = false) := ⟨by rw [← HANS.out]; exact decide_eq_false fun hf => by have := hf.1; have := HLn.out; omega⟩
    go_enter Try.func8, Try.ntmps8
    go_wp2
    go_ret
    exact ⟨by rw [HF.out]; rfl, Below.refl _ _⟩
  have h8' : ¬ (8 : Int) < n := by omega
  go_enter Try.func8, Try.ntmps8
  go_wp2
  go_loopw [10] (fun iv wr => ∃ k : Nat, k ≤ n ∧ iv = .int .i64 k ∧ Hold (∀ i s, i < k → l[i]? = some s → s.ps.length ≤ 40) ∧ Hold (Below w.heap.size w wr)) (fun iv _ => n - (intOf iv).toNat)
  case atStart => exact ⟨0, by omega, rfl, ⟨fun i s h => by omega⟩, ⟨Below.refl _ _⟩⟩
  case round =>
    obtain ⟨k, hk, rfl, HC, HB⟩ := hrel
    by_cases hkn : k < n
    · obtain ⟨S, hSk⟩ : ∃ s, l[k]? = some s := ⟨l[k]'(by rw [← HLn.out]; exact hkn), List.getElem?_eq_getElem _⟩
      obtain ⟨b, off, rfl, hb, hc⟩ := (HS.out.below HB.out).at_ (by omega)
      obtain ⟨q, m, d, k0, k1, k2, k3⟩ := hc k S hSk
      have hm := k3.len
      have hmm : m ≤ 9223372036854775807 := Nat.le_trans k3.cap k3.max
      have HSk : Hold _ := ⟨hSk⟩
      have HM : Hold _ := ⟨hm⟩
      have HBa : Hold (Below w.heap.size w (wr.alloc (.cells #[.int .u64 (S.n : Nat), .int .u64 (S.base : Nat), .slice q m d] 35))) := ⟨HB.out.alloc HB.out.size _⟩
      clear hc hSk k3 hm
      by_cases h40 : 40 < m
      · have h40' : (40 : Int) < m := by omega
        have HF : Hold (ANS = false) := ⟨by rw [← HANS.out]; exact decide_eq_false fun hf => by have := hf.2 S (List.mem_of_getElem? HSk.out); have := HM.out; omega⟩
        go_wp2
        go_ret
        exact ⟨by rw [HF.out]; rfl, HBa.out⟩
      · have h40' : ¬ (40 : Int) < m := by omega
        have HC' : Hold (∀ i s, i < k + 1 → l[i]? = some s → s.ps.length ≤ 40) := ⟨fun i s hi hs => by
          rcases (by omega : i < k ∨ i = k) with h | rfl
          · exact HC.out i s h hs
          · rw [HSk.out] at hs
            cases hs
            have := HM.out
            omega⟩
        go_wp2
        go_roundw
        case rel => exact ⟨k + 1, by omega, by go_num, HC', HBa⟩
        case measure => simp [intOf]; omega
    · obtain rfl : k = n := by omega
      have HT : Hold (ANS = true) := ⟨by
        rw [← HANS.out]
        refine decide_eq_true ⟨by rw [← HLn.out]; omega, fun s hs => ?_⟩
        obtain ⟨i, hi, e⟩ := List.getElem_of_mem hs
        exact HC.out i s (by rw [HLn.out]; exact hi) (by rw [List.getElem?_eq_getElem hi, e])⟩
      go_wp2
      go_ret
      exact ⟨by rw [HT.out]; rfl, HB.out⟩

end Go.Proofs.Ytceihmiiapnmnaa

namespace Go.Proofs.Ytceihmiiapnmnaa
open Go Go.RowKit Go.Proofs.Ytceihmiiapnmnaa.Flow

/-- What is no slice has stayed. -/
structure KeptS (w w' : World) : Prop where
  size : w'.heap.size = w.heap.size
  cell : ∀ a v, w.cell? a = some v → (∀ p n c, v ≠ .slice p n c) → w'.cell? a = some v
theorem KeptS.trans {a b c : World} (h : KeptS a b) (k : KeptS b c) : KeptS a c := ⟨k.size.trans h.size, fun x v hx hn => k.cell x v (h.cell x v hx hn) hn⟩
theorem KeptS.set {w : World} {a : Addr} {p : Option Addr} {n c : Nat} (h : w.cell? a = some (.slice p n c)) (u : Value) : KeptS w (w.setCell a u) :=
  ⟨by simp, fun x v hx hn => by
    rw [World.cell?_setCell_other w a x u (fun e => by subst e; rw [h] at hx; cases hx; exact hn _ _ _ rfl)]; exact hx⟩

/-- A number, as the program or the document holds it. -/
structure NumLike (At : World → Option Addr → Nat → Nat → Nat → Prop) : Prop where
  below : ∀ {w w' p n c N}, At w p n c N → Below w.heap.size w w' → At w' p n c N
  kept : ∀ {w w' p n c N}, At w p n c N → KeptS w w' → At w' p n c N
theorem natLike : NumLike NatAt := ⟨fun h hb => h.below hb, fun {w w' p n c N} h hk => by
  obtain ⟨ws, r1, r2, r3, r4⟩ := h.ex
  refine ⟨ws, ⟨r1.len, r1.cap, r1.max, ?_⟩, r2, r3, r4⟩
  rcases r1.at_ with k | ⟨b, off, k1, k2, k3⟩
  · exact .inl k
  · exact .inr ⟨b, off, k1, by rw [hk.size]; exact k2, fun i x hx => hk.cell _ _ (k3 i x hx) (fun _ _ _ e => by cases e)⟩⟩
theorem bitsLike : NumLike BitsAt := ⟨fun h hb => h.below hb, fun {w w' p n c N} h hk => by
  refine ⟨h.len, h.cap, h.max, ?_⟩
  rcases h.at_ with k | ⟨b, off, k1, k2, k3⟩
  · exact .inl k
  · exact .inr ⟨b, off, k1, by rw [hk.size]; exact k2, fun i x hx => hk.cell _ _ (k3 i x hx) (fun _ _ _ e => by cases e)⟩⟩

/-- A box of three. -/
structure Box3 (t : TypeId) (w : World) (b : Nat) (v0 v1 v2 : Value) : Prop where
  at_ : w.heap[b]? = some (.cells #[v0, v1, v2] t (0, 0))
theorem Box3.lt {t : TypeId} {w : World} {b : Nat} {v0 v1 v2 : Value} (h : Box3 t w b v0 v1 v2) : b < w.heap.size := (Array.getElem?_eq_some_iff.1 h.at_).1
theorem Box3.below {t : TypeId} {w w' : World} {B b : Nat} {v0 v1 v2 : Value} (h : Box3 t w b v0 v1 v2) (hb : Below B w w') (hB : b < B) : Box3 t w' b v0 v1 v2 := ⟨by rw [hb.block b hB]; exact h.at_⟩
theorem Box3.cells {t : TypeId} {w : World} {b : Nat} {v0 v1 v2 : Value} (h : Box3 t w b v0 v1 v2) : w.cell? ⟨b, 0, none⟩ = some v0 ∧ w.cell? ⟨b, 1, none⟩ = some v1 ∧ w.cell? ⟨b, 2, none⟩ = some v2 := by
  have := h.at_
  simp [World.cell?, this]
theorem Box3.free {t : TypeId} {w : World} {b : Nat} {v0 v1 v2 : Value} (h : Box3 t w b v0 v1 v2) (j : Nat) : w.frozen? ⟨b, j, none⟩ = false := by
  have := h.at_
  simp [World.frozen?, this]
theorem Box3.set0 {t : TypeId} {w : World} {b : Nat} {v0 v1 v2 : Value} (h : Box3 t w b v0 v1 v2) (u : Value) : Box3 t (w.setCell ⟨b, 0, none⟩ u) b u v1 v2 := ⟨by
  have := h.at_
  simp [World.setCell, Array.getElem?_modify, this]⟩
theorem Box3.set1 {t : TypeId} {w : World} {b : Nat} {v0 v1 v2 : Value} (h : Box3 t w b v0 v1 v2) (u : Value) : Box3 t (w.setCell ⟨b, 1, none⟩ u) b v0 u v2 := ⟨by
  have := h.at_
  simp [World.setCell, Array.getElem?_modify, this]⟩
theorem Box3.set2 {t : TypeId} {w : World} {b : Nat} {v0 v1 v2 : Value} (h : Box3 t w b v0 v1 v2) (u : Value) : Box3 t (w.setCell ⟨b, 2, none⟩ u) b v0 v1 u := ⟨by
  have := h.at_
  simp [World.setCell, Array.getElem?_modify, this]⟩
theorem Box3.made (t : TypeId) (w : World) (v0 v1 v2 : Value) : Box3 t (w.alloc (.cells #[v0, v1, v2] t)) w.heap.size v0 v1 v2 := ⟨heap_alloc_new w _⟩

/-- Two numbers in a box, and no list yet. -/
abbrev StepBox (At : World → Option Addr → Nat → Nat → Nat → Prop) (t : TypeId) (B0 N B : Nat) (v : Value) (w : World) : Prop :=
  ∃ (b : Nat) (x y : Option Addr × Nat × Nat), v = .pointer (some ⟨b, 0, none⟩) ∧ B0 ≤ b ∧ Box3 t w b (.slice x.1 x.2.1 x.2.2) (.slice y.1 y.2.1 y.2.2) (.slice none 0 0) ∧ At w x.1 x.2.1 x.2.2 N ∧ At w y.1 y.2.1 y.2.2 B
abbrev NumIs (At : World → Option Addr → Nat → Nat → Nat → Prop) (mk : Option Addr → Nat → Nat → Value) (N : Nat) (v : Value) (w : World) : Prop :=
  ∃ x : Option Addr × Nat × Nat, v = mk x.1 x.2.1 x.2.2 ∧ At w x.1 x.2.1 x.2.2 N

/-- How a region stands that makes such a box. -/
structure StepG (At : World → Option Addr → Nat → Nat → Nat → Prop) (mk : Option Addr → Nat → Nat → Value) (t : TypeId) (w0 : World) (N B : Nat) (d2 d5 d6 d7 d8 : Bool) (v2 v5 v6 v7 : Value) (w : World) : Prop where
  bel : Below w0.heap.size w0 w
  one : d2 = true → NumIs At mk N v2 w
  two : d5 = true → NumIs At mk B v5 w
  agg : d6 = true → ∃ x y : Option Addr × Nat × Nat, v6 = .agg #[.slice x.1 x.2.1 x.2.2, .slice y.1 y.2.1 y.2.2, .slice none 0 0] ∧ At w x.1 x.2.1 x.2.2 N ∧ At w y.1 y.2.1 y.2.2 B
  box : d7 = true → d8 = false → ∃ b, v7 = .pointer (some ⟨b, 0, none⟩) ∧ w0.heap.size ≤ b ∧ Box3 t w b (.slice none 0 0) (.slice none 0 0) (.slice none 0 0)
  full : d8 = true → StepBox At t w0.heap.size N B v7 w
section
variable {At : World → Option Addr → Nat → Nat → Nat → Prop} {mk : Option Addr → Nat → Nat → Value} {t : TypeId} {w0 : World} {N B : Nat} {d2 d5 d6 d7 : Bool} {v2 v5 v6 v7 : Value} {w : World}
theorem StepG.start : StepG At mk t w0 N B false false false false false v2 v5 v6 v7 w0.drew :=
  ⟨(Below.refl _ _).drew, (fun e => by cases e), (fun e => by cases e), (fun e => by cases e), (fun e => by cases e), (fun e => by cases e)⟩
theorem StepG.later (L : NumLike At) (h : StepG At mk t w0 N B d2 d5 d6 d7 false v2 v5 v6 v7 w) {w' : World} (hb : Below w.heap.size w w') : StepG At mk t w0 N B d2 d5 d6 d7 false v2 v5 v6 v7 w' :=
  ⟨bstepS h.bel hb, fun e => let ⟨x, h1, h2⟩ := h.one e; ⟨x, h1, L.below h2 hb⟩, fun e => let ⟨x, h1, h2⟩ := h.two e; ⟨x, h1, L.below h2 hb⟩,
   fun e => let ⟨x, y, h1, h2, h3⟩ := h.agg e; ⟨x, y, h1, L.below h2 hb, L.below h3 hb⟩, fun e e' => let ⟨b, h1, h2, h3⟩ := h.box e e'; ⟨b, h1, h2, h3.below hb h3.lt⟩, fun e => by cases e⟩
theorem StepG.put2 (h : StepG At mk t w0 N B false d5 d6 d7 false v2 v5 v6 v7 w) {v : Value} (hv : NumIs At mk N v w) : StepG At mk t w0 N B true d5 d6 d7 false v v5 v6 v7 w :=
  ⟨h.bel, fun _ => hv, h.two, h.agg, h.box, h.full⟩
theorem StepG.put5 (h : StepG At mk t w0 N B d2 false d6 d7 false v2 v5 v6 v7 w) {v : Value} (hv : NumIs At mk B v w) : StepG At mk t w0 N B d2 true d6 d7 false v2 v v6 v7 w :=
  ⟨h.bel, h.one, fun _ => hv, h.agg, h.box, h.full⟩
theorem StepG.put6 (h : StepG At mk t w0 N B d2 d5 false d7 false v2 v5 v6 v7 w) {x y : Option Addr × Nat × Nat} (hx : At w x.1 x.2.1 x.2.2 N) (hy : At w y.1 y.2.1 y.2.2 B) :
    StepG At mk t w0 N B d2 d5 true d7 false v2 v5 (.agg #[.slice x.1 x.2.1 x.2.2, .slice y.1 y.2.1 y.2.2, .slice none 0 0]) v7 w :=
  ⟨h.bel, h.one, h.two, fun _ => ⟨x, y, rfl, hx, hy⟩, h.box, h.full⟩
theorem StepG.put7 (L : NumLike At) (h : StepG At mk t w0 N B d2 d5 d6 false false v2 v5 v6 v7 w) :
    StepG At mk t w0 N B d2 d5 d6 true false v2 v5 v6 (.pointer (some ⟨w.heap.size, 0, none⟩)) (w.alloc (.cells #[.slice none 0 0, .slice none 0 0, .slice none 0 0] t)) := by
  have hb : Below w.heap.size w (w.alloc (.cells #[.slice none 0 0, .slice none 0 0, .slice none 0 0] t)) := (Below.refl _ _).alloc (Nat.le_refl _) _
  have k := h.later L hb
  exact ⟨k.bel, k.one, k.two, k.agg, fun _ _ => ⟨_, rfl, h.bel.size, Box3.made t w _ _ _⟩, fun e => by cases e⟩
theorem StepG.put8 (L : NumLike At) (h : StepG At mk t w0 N B d2 d5 d6 d7 false v2 v5 v6 v7 w) {b : Nat} (hv : v7 = .pointer (some ⟨b, 0, none⟩)) (hB : w0.heap.size ≤ b) (hbx : Box3 t w b (.slice none 0 0) (.slice none 0 0) (.slice none 0 0))
    {x y : Option Addr × Nat × Nat} (hx : At w x.1 x.2.1 x.2.2 N) (hy : At w y.1 y.2.1 y.2.2 B) :
    StepG At mk t w0 N B d2 d5 d6 d7 true v2 v5 v6 v7 (((w.setCell ⟨b, 0, none⟩ (.slice x.1 x.2.1 x.2.2)).setCell ⟨b, 1, none⟩ (.slice y.1 y.2.1 y.2.2)).setCell ⟨b, 2, none⟩ (.slice none 0 0)) := by
  have b1 := hbx.set0 (.slice x.1 x.2.1 x.2.2)
  have b2 := b1.set1 (.slice y.1 y.2.1 y.2.2)
  have b3 := b2.set2 (.slice none 0 0)
  have hk := ((KeptS.set hbx.cells.1 (.slice x.1 x.2.1 x.2.2)).trans (KeptS.set b1.cells.2.1 (.slice y.1 y.2.1 y.2.2))).trans (KeptS.set b2.cells.2.2 (.slice none 0 0))
  refine ⟨((h.bel.setCell hB _).setCell hB _).setCell hB _, fun e => ?_, fun e => ?_, fun e => ?_, (fun _ e => by cases e), fun _ => ⟨b, x, y, hv, hB, b3, L.kept hx hk, L.kept hy hk⟩⟩
  · obtain ⟨z, h1, h2⟩ := h.one e; exact ⟨z, h1, L.kept h2 hk⟩
  · obtain ⟨z, h1, h2⟩ := h.two e; exact ⟨z, h1, L.kept h2 hk⟩
  · obtain ⟨z, z', h1, h2, h3⟩ := h.agg e; exact ⟨z, z', h1, L.kept h2 hk, L.kept h3 hk⟩
end

end Go.Proofs.Ytceihmiiapnmnaa
