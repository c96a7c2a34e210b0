/- Whether a step has too long a number, of the program; a function that is handed to the library, over steps. -/
import Derived.Test.YtdebccghjbfgdaaGreatDoorCertK
import Derived.Test.YtdebccghjbfgdaaGreatDoorCpB
/-! A row in a box grows by a number: how a region stands that does it. -/
namespace Go.Proofs.YtdebccghjbfgdaaGreatDoor
open Go Go.RowKit Go.Proofs.YtdebccghjbfgdaaGreatDoor.Flow
set_option maxRecDepth 100000

section
variable {At : World → Option Addr → Nat → Nat → Nat → Prop} {e : TypeId} {B : Nat} {bad : Nat → Prop} {w : World} {v : Value} {Ns : List Nat}
/-- One more; where it lies now is among the blocks that may change from now on. -/
theorem OwnV.app2 {st : TypeId} {bytes : Nat} {i : TypeInfo} (hu : Tryz.prog.underlying st = some (.slice e)) (hi : Tryz.prog.info? e = some i)
    {z : Value} (hz : i.zero = some z) (hs : i.size = 1) (hb : i.bytes = bytes) (hzs : z.cells.size = 1) (hby : bytes ≤ 1000) (h : OwnV At e B bad w v Ns) (hB : B ≤ w.heap.size) {a : Addr} {c N : Nat} {x : Option Addr × Nat × Nat} (hc : w.cell? a = some (.slice x.1 x.2.1 x.2.2))
    (hN : Firm (fun w => At w x.1 x.2.1 x.2.2 N) bad w) (hv : ∀ g, v.ownBlock = some g → bad g) (hlt : ∀ g, bad g → g < w.heap.size) (hl : Ns.length ≤ 1000000) (ty : TypeId) {C : Prop}
    (k : ∀ v' w' bad', (Builtin.append_ #[st, st] ty #[v, .slice (some a) 1 c]).run Tryz.prog w = .ok v' w' → OwnV At e B bad' w' v' (Ns ++ [N]) → w.grownBy w' v.ownBlock →
      (∀ g, bad g → bad' g) → (∀ g, g < w.heap.size → bad' g → bad g) → (∀ g, v'.ownBlock = some g → bad' g) → (∀ g, bad' g → g < w'.heap.size) → C) : C := by
  obtain ⟨v', w', k1, _, k3, k4⟩ := h.app hu hi hz hs hb hzs hby hB hc hN hv hl ty
  have hsub : ∀ g, g < w.heap.size → (bad g ∨ v'.ownBlock = some g) → bad g := by
    intro g hg hx
    rcases hx with hx | hx
    · exact hx
    · rcases k4 with k4 | k4
      · exact hv g (by rw [← k4]; exact hx)
      · have := k4 g hx; omega
  obtain ⟨v2, w2, g1, g2, _, _⟩ := (h.more (bad' := fun g => bad g ∨ v'.ownBlock = some g) hsub).app hu hi hz hs hb hzs hby hB hc (hN.more hsub) (fun g hg => .inl (hv g hg)) hl ty
  rw [k1] at g1
  injection g1 with e1 e2
  subst e1 e2
  exact k v' w' _ k1 g2 k3 (fun g hg => .inl hg) hsub (fun g hg => .inr hg) (fun g hg => by
    rcases hg with hg | hg
    · exact Nat.lt_of_lt_of_le (hlt g hg) k3.size
    · exact (g2.block g hg).2)
end

section
variable {At : World → Option Addr → Nat → Nat → Nat → Prop} {t e : TypeId} {B : Nat} {bad bad' : Nat → Prop} {b M0 M1 : Nat} {Ns : List Nat} {x y : Option Addr × Nat × Nat} {v : Value} {w0 w : World}
end

section
variable {At : World → Option Addr → Nat → Nat → Nat → Prop} {mk : Option Addr → Nat → Nat → Value} {t e : TypeId} {wE w0 : World} {bad : Nat → Prop} {b : Nat} {q0 q1 v : Value} {Ns : List Nat} {N : Nat} {d3 d4 d5 d7 : Bool} {v3 v4 v5 : Value} {w : World}
end
end Go.Proofs.YtdebccghjbfgdaaGreatDoor

/-! A claim as a step, the program's and the document's: the walk. -/
namespace Go.Proofs.YtdebccghjbfgdaaGreatDoor
open Go Go.RowKit Go.Proofs.YtdebccghjbfgdaaGreatDoor.Flow
set_option maxRecDepth 100000

theorem Tryz.info_Nat : (Tryz.prog.info? 36).map (fun i => (i.zero, i.size, i.bytes)) = some (some (.agg #[.slice none 0 0]), 1, 24) := by kernel_rfl

/-- A step of the program's, in its cells. -/
structure PStep (e : Nat) (s : StepN) (x y z : Option Addr × Nat × Nat) (w : World) : Prop where
  n : NatAt w x.1 x.2.1 x.2.2 s.n
  base : NatAt w y.1 y.2.1 y.2.2 s.base
  ps : PList w e z.1 z.2.1 z.2.2 s.ps
/-- A step's three slices. -/
abbrev trip (x y z : Option Addr × Nat × Nat) : Value := .agg #[.slice x.1 x.2.1 x.2.2, .slice y.1 y.2.1 y.2.2, .slice z.1 z.2.1 z.2.2]
end Go.Proofs.YtdebccghjbfgdaaGreatDoor

/-! Claims as a chain, the program's and the document's. -/
namespace Go.Proofs.YtdebccghjbfgdaaGreatDoor
open Go Go.RowKit Go.Proofs.YtdebccghjbfgdaaGreatDoor.Flow
set_option maxRecDepth 100000

section
variable {F : StepN → Option Addr × Nat × Nat → Option Addr × Nat × Nat → Option Addr × Nat × Nat → World → Prop} {e : TypeId} {B : Nat} {bad : Nat → Prop} {w : World} {v : Value} {l : List StepN}
end
theorem snoc_take {α : Type} {l : List α} {k : Nat} {N : α} (h : l[k]? = some N) : l.take (k + 1) = l.take k ++ [N] := by
  obtain ⟨hi, e⟩ := List.getElem?_eq_some_iff.1 h
  rw [List.take_succ_eq_append_getElem hi, e]

end Go.Proofs.YtdebccghjbfgdaaGreatDoor

namespace Go.Proofs.YtdebccghjbfgdaaGreatDoor
open Go Go.RowKit Go.Proofs.YtdebccghjbfgdaaGreatDoor.Flow
set_option maxRecDepth 100000

set_option maxHeartbeats 2000000 in
set_option maxRecDepth 100000 in
theorem long1_calls {w : World} {v : Value} {e N : Nat} (h : Fit e N v w) (he : e ≤ 900000) :
    Calls Tryz.prog 203 #[v] w fun en w' => en = .returned (.bool (decide (1024 < blen N))) ∧ Below w.heap.size w w' := by
  obtain ⟨p, n, c, rfl, h1, h2⟩ := h
  have hn : n < 1000000 := by have := h1.len_le h2; omega
  have hbx := Box1.mk1 w (.slice p n c) 36
  have H1 : Hold _ := ⟨h1.below hbx.bel⟩
  have HBX : Hold _ := ⟨hbx.bel⟩
  clear h1 h2 hbx
  go_enter Tryz.func203, Tryz.ntmps203
  go_wp2_with fail
  refine (bits_calls _ p n c N H1.out hn).mono ?_
  rintro en w1 ⟨rfl, hb1⟩
  have HB1 : Hold _ := ⟨bstep HBX.out hb1⟩
  clear hb1
  obtain ⟨L, hL⟩ : ∃ L, blen N = L := ⟨_, rfl⟩
  rw [hL]
  have HL : Hold _ := ⟨hL⟩
  clear hL
  by_cases hl : 1024 < L
  · have HD : Hold (decide (1024 < L) = true) := ⟨decide_eq_true hl⟩
    have hl' : (1024 : Int) < L := by omega
    clear hl
    go_wp2
    go_ret
    exact ⟨by rw [HL.out, HD.out]; rfl, HB1.out⟩
  · have HD : Hold (decide (1024 < L) = false) := ⟨decide_eq_false hl⟩
    have hl' : ¬ (1024 : Int) < L := by omega
    clear hl
    go_wp2
    go_ret
    exact ⟨by rw [HL.out, HD.out, ← (decide_eq_false (by have := of_decide_eq_false HD.out; omega) : decide ((1024 : Int) < (L : Nat)) = false)]; rfl, HB1.out⟩

theorem long_asks (w : World) (e : Nat) (Ns : List Nat) (he : e ≤ 900000) : Asks 203 #[] w e Ns (fun p => decide (1024 < blen p)) := by
  refine ⟨fun W M u _ _ hu => ?_⟩
  rw [Array.append_empty]
  exact long1_calls hu he

/-- A step, as a value. -/
structure StepVal (e : Nat) (s : StepN) (v : Value) (w : World) : Prop where
  ex : ∃ q0 m0 d0 q1 m1 d1 q2 m2 d2, v = .agg #[.slice q0 m0 d0, .slice q1 m1 d1, .slice q2 m2 d2] ∧ NatAt w q0 m0 d0 s.n ∧ s.n < B32 e ∧ NatAt w q1 m1 d1 s.base ∧ s.base < B32 e ∧ PList w e q2 m2 d2 s.ps
open Classical in
set_option maxHeartbeats 4000000 in
set_option maxRecDepth 100000 in
theorem long_calls {w : World} {v : Value} {e : Nat} {s : StepN} (h : StepVal e s v w) (he : e ≤ 900000) :
    Calls Tryz.prog 187 #[v] w fun en w' => en = .returned (.bool (decide (TooLong s))) ∧ Below w.heap.size w w' := by
  obtain ⟨q0, m0, d0, q1, m1, d1, q2, m2, d2, rfl, h0, l0, h1, l1, h2⟩ := h.ex
  have hbx : Below w.heap.size w (w.alloc (.cells #[.slice q0 m0 d0, .slice q1 m1 d1, .slice q2 m2 d2] 145)) := (Below.refl _ _).alloc (Nat.le_refl _) _
  have HBX3 : Hold _ := ⟨Box3.made 145 w (.slice q0 m0 d0) (.slice q1 m1 d1) (.slice q2 m2 d2)⟩
  obtain ⟨wa, hwa⟩ : ∃ wa, w.alloc (.cells #[.slice q0 m0 d0, .slice q1 m1 d1, .slice q2 m2 d2] 145) = wa := ⟨_, rfl⟩
  rw [hwa] at hbx HBX3
  have HNF : Hold _ := ⟨(Fit.of h0 l0).below hbx⟩
  have HBF : Hold _ := ⟨(Fit.of h1 l1).below hbx⟩
  have HP : Hold _ := ⟨h2.below hbx⟩
  have HX : Hold _ := ⟨hbx⟩
  obtain ⟨ANS, hANS⟩ : ∃ X, decide (TooLong s) = X := ⟨_, rfl⟩
  have HANS : Hold _ := ⟨hANS⟩
  rw [hANS]
  have hca := HBX3.out.cells.1
  clear hANS h h0 l0 h1 l1 h2 hbx
  obtain ⟨S0, hS0⟩ : ∃ X, decide (1024 < blen s.n) = X := ⟨_, rfl⟩
  have HS0 : Hold _ := ⟨hS0⟩
  clear hS0
  go_enter Tryz.func187, Tryz.ntmps187
  go_wp2_with fail
  refine (long1_calls HNF.out he).mono ?_
  rintro en w1 ⟨rfl, hb1⟩
  rw [HS0.out]
  have HX1 : Hold _ := ⟨HBX3.out.below hb1 HBX3.out.lt⟩
  have HB1 : Hold _ := ⟨hb1⟩
  clear hb1 hca
  cases S0 with
  | true =>
    have HF : Hold (ANS = true) := ⟨by rw [← HANS.out]; exact decide_eq_true (.inl (of_decide_eq_true HS0.out))⟩
    have HE : Hold _ := ⟨bstep HX.out HB1.out⟩
    go_wp2
    go_ret
    exact ⟨by rw [HF.out]; rfl, HE.out⟩
  | false =>
    obtain ⟨S1, hS1⟩ : ∃ X, decide (1024 < blen s.base) = X := ⟨_, rfl⟩
    have HS1 : Hold _ := ⟨hS1⟩
    have hca := HX1.out.cells.2.1
    clear hS1
    go_wp2_with fail
    refine (long1_calls (HBF.out.below HB1.out) he).mono ?_
    rintro en w2 ⟨rfl, hb2⟩
    rw [HS1.out]
    have HX2 : Hold _ := ⟨HX1.out.below hb2 HX1.out.lt⟩
    have HB2 : Hold _ := ⟨bstep HB1.out hb2⟩
    clear hb2 hca
    cases S1 with
    | true =>
      have HF : Hold (ANS = true) := ⟨by rw [← HANS.out]; exact decide_eq_true (.inr (.inl (of_decide_eq_true HS1.out)))⟩
      have HE : Hold _ := ⟨bstep HX.out HB2.out⟩
      go_wp2
      go_ret
      exact ⟨by rw [HF.out]; rfl, HE.out⟩
    | false =>
      obtain ⟨S2, hS2⟩ : ∃ X, s.ps.any (fun p => decide (1024 < blen p)) = X := ⟨_, rfl⟩
      have HS2 : Hold _ := ⟨hS2⟩
      have HF : Hold (ANS = S2) := ⟨by
        rw [← HANS.out, ← hS2]
        have n0 := of_decide_eq_false HS0.out
        have n1 := of_decide_eq_false HS1.out
        by_cases hx : ∃ p ∈ s.ps, 1024 < blen p
        · obtain ⟨p, hp, hl⟩ := hx
          rw [decide_eq_true (show TooLong s from .inr (.inr ⟨p, hp, hl⟩))]
          exact (List.any_eq_true.2 ⟨p, hp, decide_eq_true hl⟩).symm
        · have : ¬ TooLong s := fun ht => by
            rcases ht with ht | ht | ht
            · exact n0 ht
            · exact n1 ht
            · exact hx ht
          rw [decide_eq_false this]
          refine Eq.symm ?_
          rw [List.any_eq_false]
          exact fun p hp hc => hx ⟨p, hp, of_decide_eq_true hc⟩⟩
      have hca := HX2.out.cells.2.2
      clear hS2
      go_wp2_with fail
      refine (nany_calls _ e q2 m2 d2 s.ps _ _ (enters_of Tryz.func203 (by kernel_rfl) rfl) (fun p => decide (1024 < blen p)) (HP.out.below HB2.out) (long_asks _ e s.ps he)).mono ?_
      rintro en w3 ⟨rfl, hb3⟩
      rw [HS2.out]
      have HE : Hold _ := ⟨bstep HX.out (bstep HB2.out hb3)⟩
      clear hb3 hca
      go_wp2
      go_ret
      exact ⟨by rw [HF.out]; rfl, HE.out⟩

/-- What is asked of a function over the steps of a row. -/
structure AsksS (g : Nat) (lb : Array Value) (w : World) (e : Nat) (l : List StepN) (p : StepN → Bool) : Prop where
  out : ∀ (W : World) (s : StepN) (v : Value), Below w.heap.size w W → s ∈ l → StepVal e s v W → Calls Tryz.prog g (#[v] ++ lb) W fun en w' => en = .returned (.bool (p s)) ∧ Below W.heap.size W w'

theorem anyS_hit {l : List StepN} {p : StepN → Bool} {k : Nat} {X : StepN} (h : l[k]? = some X) (hp : p X = true) : l.any p = true :=
  List.any_eq_true.2 ⟨X, List.mem_of_getElem? h, hp⟩
theorem anyS_miss {l : List StepN} {p : StepN → Bool} (h : ∀ (i : Nat) (X : StepN), l[i]? = some X → p X = false) : l.any p = false := by
  rw [List.any_eq_false]
  intro x hx
  obtain ⟨i, hi⟩ := List.getElem?_of_mem hx
  rw [h i x hi]; exact Bool.false_ne_true

set_option maxHeartbeats 2000000 in
set_option maxRecDepth 100000 in
theorem sfind_calls (w : World) (e : Nat) (p0 : Option Addr) (n c : Nat) (l : List StepN) (g : Nat) (lb : Array Value) (eg : ∀ args w, (callFunc g args).run Tryz.prog w = .ok (.enter g args) w) (p : StepN → Bool)
    (h : PSteps w e p0 n c l) (hp : AsksS g lb w e l p) :
    Calls Tryz.prog 186 #[.slice p0 n c, .func (.func g) #[] lb] w fun en w' => ∃ K : Int, en = .returned (.int .i64 K) ∧ decide (0 ≤ K) = l.any p ∧ Below w.heap.size w w' := by
  have HH : Hold _ := ⟨h⟩
  have hn := h.len
  have hmax : n ≤ 9223372036854775807 := Nat.le_trans h.cap h.max
  have HLN : Hold _ := ⟨hn⟩
  clear h hn
  go_enter Tryz.func186, Tryz.ntmps186
  go_wp2
  go_loopw [5, 8] (fun _ iv wr => ∃ k : Nat, k ≤ n ∧ iv = .int .i64 k ∧ Hold (∀ i X, i < k → l[i]? = some X → p X = false) ∧ Hold (Below w.heap.size w wr)) (fun _ iv _ => n - (intOf iv).toNat)
  case atStart => exact ⟨0, by omega, rfl, ⟨fun i X h => by omega⟩, ⟨Below.refl _ _⟩⟩
  case round =>
    obtain ⟨k, hk, rfl, HJ, HB⟩ := hrel
    by_cases hkn : k < n
    · obtain ⟨X, hXk⟩ : ∃ X, l[k]? = some X := ⟨l[k]'(by rw [← HLN.out]; exact hkn), List.getElem?_eq_getElem _⟩
      obtain ⟨b, off, rfl, hb, hc⟩ := (HH.out.below HB.out).at_ (by omega)
      obtain ⟨q0, m0, d0, q1, m1, d1, q2, m2, d2, x0, x1, x2, x3⟩ := hc k X hXk
      have HC : Hold _ := ⟨hp.out wr X _ HB.out (List.mem_of_getElem? hXk) ⟨q0, m0, d0, q1, m1, d1, q2, m2, d2, rfl, x3⟩⟩
      have HX : Hold _ := ⟨hXk⟩
      have hkn' : (k : Int) < n := by omega
      clear hc x3 hXk hp
      obtain ⟨P, hP⟩ : ∃ P, p X = P := ⟨_, rfl⟩
      rw [hP] at HC
      have HP : Hold _ := ⟨hP⟩
      clear hP
      cases P with
      | true =>
        go_wp2_with (go_at_fn g; refine HC.out.mono ?_; rintro en w1 ⟨rfl, hb1⟩)
        go_ret
        exact ⟨_, rfl, by rw [anyS_hit HX.out HP.out]; exact decide_eq_true (by omega), bstep HB.out hb1⟩
      | false =>
        have HJ' : Hold (∀ i Y, i < k + 1 → l[i]? = some Y → p Y = false) := ⟨fun i Y hi hY => by
          rcases (by omega : i < k ∨ i = k) with h | rfl
          · exact HJ.out i Y h hY
          · have := HX.out
            rw [hY] at this
            cases this
            exact HP.out⟩
        go_wp2_with (go_at_fn g; refine HC.out.mono ?_; rintro en w1 ⟨rfl, hb1⟩)
        go_roundw
        case rel => exact ⟨k + 1, by omega, by go_num, HJ', ⟨bstep HB.out hb1⟩⟩
        case measure => simp [intOf]; omega
    · obtain rfl : k = n := by omega
      have hkn' : ¬ (k : Int) < k := by omega
      go_wp2
      go_ret
      refine ⟨_, rfl, ?_, HB.out⟩
      rw [anyS_miss fun i X hX => HJ.out i X (by rw [HLN.out]; exact (List.getElem?_eq_some_iff.1 hX).1) hX]
      rfl

set_option maxHeartbeats 2000000 in
set_option maxRecDepth 100000 in
theorem sany_calls (w : World) (e : Nat) (p0 : Option Addr) (n c : Nat) (l : List StepN) (g : Nat) (lb : Array Value) (eg : ∀ args w, (callFunc g args).run Tryz.prog w = .ok (.enter g args) w) (p : StepN → Bool)
    (h : PSteps w e p0 n c l) (hp : AsksS g lb w e l p) :
    Calls Tryz.prog 158 #[.slice p0 n c, .func (.func g) #[] lb] w fun en w' => en = .returned (.bool (l.any p)) ∧ Below w.heap.size w w' := by
  go_enter Tryz.func158, Tryz.ntmps158
  go_wp2_with fail
  refine (sfind_calls w e p0 n c l g lb eg p h hp).mono ?_
  rintro en w1 ⟨K, rfl, hK, hb⟩
  have HB : Hold _ := ⟨hb⟩
  have HK : Hold _ := ⟨hK⟩
  clear hK hb
  go_wp2
  go_ret
  exact ⟨by rw [← HK.out]; rfl, HB.out⟩

end Go.Proofs.YtdebccghjbfgdaaGreatDoor
