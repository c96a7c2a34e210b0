/- A function that is handed to the library, over the program's numbers: is a number among others? -/
import Derived.Test.YtdebccghjbfgdaaGreatDoorPock
import Derived.Laws.CopyOwn
import Derived.WalkSmall
import Derived.Test.YtdebccghjbfgdaaGreatDoorRing
import Derived.Laws.OwnMore
import Derived.Lib.AppendZeros
import Derived.ArgAppend
/-! The laws of stage 8: what the program's calls do, as the laws use it; the chapter's example lives; CertSmalls. -/
/-! Worlds that are as they were but for one block; words for walks. Of no package of the program. -/
namespace Go.Proofs.YtdebccghjbfgdaaGreatDoor
open Go Go.RowKit
set_option maxRecDepth 100000

/-- Put away: no search looks into it. -/
structure Hold (p : Prop) : Prop where
  out : p

/-- The walk halts here. -/
structure Paused (p : Prop) : Prop where
  out : p

/-- As before, but for one block. -/
structure But (g : Nat) (w w' : World) : Prop where
  os : w'.os = w.os
  tape : w'.tape = w.tape
  output : w'.output = w.output
  size : w.heap.size ≤ w'.heap.size
  block : ∀ k, k < w.heap.size → k ≠ g → w'.heap[k]? = w.heap[k]?

theorem But.refl (g : Nat) (w : World) : But g w w := ⟨rfl, rfl, rfl, Nat.le_refl _, fun _ _ _ => rfl⟩
theorem But.trans {g : Nat} {a b c : World} (h : But g a b) (k : But g b c) : But g a c :=
  ⟨k.os.trans h.os, k.tape.trans h.tape, k.output.trans h.output, Nat.le_trans h.size k.size, fun i hi hn => (k.block i (Nat.lt_of_lt_of_le hi h.size) hn).trans (h.block i hi hn)⟩
theorem But.of {g : Nat} {w w' : World} (h : Below w.heap.size w w') : But g w w' := ⟨h.os, h.tape, h.output, h.size, fun k hk _ => h.block k hk⟩
theorem But.below {g : Nat} {w w' : World} (h : But g w w') {B : Nat} (hg : B ≤ g) (hB : B ≤ w.heap.size) : Below B w w' :=
  ⟨h.os, h.tape, h.output, h.size, fun k hk => h.block k (by omega) (by omega)⟩
theorem But.setRow {g : Nat} (w : World) (cs : Array Value) : But g w (w.setRow g cs) := ⟨rfl, rfl, rfl, by simp [World.setRow], fun k _ hn => setRow_other w g k cs hn⟩
theorem But.setCell {g : Nat} (w : World) (o : Nat) (u : Value) : But g w (w.setCell ⟨g, o, none⟩ u) := ⟨rfl, rfl, rfl, by simp [World.setCell], fun k _ hn => Below.heap_setCell _ _ _ _ hn⟩
theorem But.drew {g : Nat} {w w' : World} (h : But g w w') : But g w w'.drew := ⟨h.os, h.tape, h.output, h.size, h.block⟩
theorem But.cell {g : Nat} {w w' : World} (h : But g w w') {p : Addr} (hp : p.block < w.heap.size) (hn : p.block ≠ g) : w'.cell? p = w.cell? p := World.cell?_of_block (w := w) (h.block p.block hp hn)

theorem calls_at {P : Program} {f : FuncId} {args : Array Value} {w w1 : World} {Q : Ending → World → Prop} (h : w = w1) (k : Calls P f args w1 Q) : Calls P f args w Q := h ▸ k
theorem bstepS {a b c : World} (h : Below a.heap.size a b) (k : Below b.heap.size b c) : Below a.heap.size a c := h.trans (k.mono h.size)
end Go.Proofs.YtdebccghjbfgdaaGreatDoor

/-! The chapter's example: that its step holds. -/
namespace Go.Proofs.YtdebccghjbfgdaaGreatDoor
set_option maxRecDepth 100000

/-- A power in a ring, reckoned. -/
def pm (a n : Nat) : Nat → Nat → Nat
  | 0, _ => 1 % n
  | f + 1, e => if e = 0 then 1 % n else
    let h := pm a n f (e / 2)
    if e % 2 = 1 then h * h % n * a % n else h * h % n
theorem pm_eq (a n : Nat) : ∀ f e, e < 2 ^ f → pm a n f e = a ^ e % n
  | 0, e, h => by
    have : e = 0 := by simp at h; omega
    subst this
    rw [pm, Nat.pow_zero]
  | f + 1, e, h => by
    unfold pm
    split
    · rename_i h0; rw [h0, Nat.pow_zero]
    · have ih := pm_eq a n f (e / 2) (by rw [Nat.pow_succ] at h; omega)
      have e2 : a ^ (2 * (e / 2)) = a ^ (e / 2) * a ^ (e / 2) := by rw [← Nat.pow_add]; congr 1; omega
      simp only [ih]
      split
      · rename_i h1
        have : e = 2 * (e / 2) + 1 := by omega
        conv => rhs; rw [this, Nat.pow_succ, e2]
        simp [Nat.mul_mod]
      · rename_i h1
        have : e = 2 * (e / 2) := by omega
        conv => rhs; rw [this, e2]
        rw [← Nat.mul_mod]

end Go.Proofs.YtdebccghjbfgdaaGreatDoor

/-! The document's step. -/
namespace Go.Proofs.YtdebccghjbfgdaaGreatDoor
open Go Go.RowKit Go.Proofs.YtdebccghjbfgdaaGreatDoor.Flow
set_option maxRecDepth 100000

/-- An operation that its guard passes over. -/
theorem asked_not {P : Program} {o : Oper} {ops : Array Oper} {a : Act} {w : World} {K : Value → World → Prop}
    (hw : Region.wanted o (yielded ops a.tmps) = false) (hk : K undef w) : asked P o ops a w K := by
  unfold asked
  rw [if_neg (by rw [hw]; exact Bool.false_ne_true)]
  exact hk

end Go.Proofs.YtdebccghjbfgdaaGreatDoor

namespace Go.Proofs.YtdebccghjbfgdaaGreatDoor
open Go Go.RowKit Go.Proofs.YtdebccghjbfgdaaGreatDoor.Flow
set_option maxRecDepth 100000

/-- A row of the program's numbers, each below so many words. -/
structure PList (w : World) (e : Nat) (p : Option Addr) (n c : Nat) (Ns : List Nat) : Prop where
  len : n = Ns.length
  cap : n ≤ c
  max : c ≤ 9223372036854775807
  nil : p = none → c = 0
  at_ : 0 < n → ∃ b off, p = some ⟨b, off, none⟩ ∧ b < w.heap.size ∧ ∀ i N, Ns[i]? = some N → ∃ q m d, w.cell? ⟨b, off + i, none⟩ = some (.slice q m d) ∧ NatAt w q m d N ∧ N < B32 e
theorem PList.below {w w' : World} {e : Nat} {p : Option Addr} {n c : Nat} {Ns : List Nat} (h : PList w e p n c Ns) (hb : Below w.heap.size w w') : PList w' e p n c Ns := by
  refine ⟨h.len, h.cap, h.max, h.nil, fun h0 => ?_⟩
  obtain ⟨b, off, h1, h2, h3⟩ := h.at_ h0
  refine ⟨b, off, h1, Nat.lt_of_lt_of_le h2 hb.size, fun i N hN => ?_⟩
  obtain ⟨q, m, d, h4, h5, h6⟩ := h3 i N hN
  exact ⟨q, m, d, by rw [hb.cell (p := ⟨b, off + i, none⟩) h2]; exact h4, h5.below hb, h6⟩
/-- A row of the program's steps. -/
structure PSteps (w : World) (e : Nat) (p : Option Addr) (n c : Nat) (l : List StepN) : Prop where
  len : n = l.length
  cap : n ≤ c
  max : c ≤ 9223372036854775807
  nil : p = none → c = 0
  at_ : 0 < n → ∃ b off, p = some ⟨b, off, none⟩ ∧ b < w.heap.size ∧ ∀ i s, l[i]? = some s → ∃ q0 m0 d0 q1 m1 d1 q2 m2 d2,
    w.cell? ⟨b, off + i * 3, none⟩ = some (.slice q0 m0 d0) ∧ w.cell? ⟨b, off + i * 3 + 1, none⟩ = some (.slice q1 m1 d1) ∧ w.cell? ⟨b, off + i * 3 + 2, none⟩ = some (.slice q2 m2 d2) ∧
    NatAt w q0 m0 d0 s.n ∧ s.n < B32 e ∧ NatAt w q1 m1 d1 s.base ∧ s.base < B32 e ∧ PList w e q2 m2 d2 s.ps
theorem PSteps.below {w w' : World} {e : Nat} {p : Option Addr} {n c : Nat} {l : List StepN} (h : PSteps w e p n c l) (hb : Below w.heap.size w w') : PSteps w' e p n c l := by
  refine ⟨h.len, h.cap, h.max, h.nil, fun h0 => ?_⟩
  obtain ⟨b, off, h1, h2, h3⟩ := h.at_ h0
  refine ⟨b, off, h1, Nat.lt_of_lt_of_le h2 hb.size, fun i s hs => ?_⟩
  obtain ⟨q0, m0, d0, q1, m1, d1, q2, m2, d2, k0, k1, k2, k3, k4, k5, k6, k7⟩ := h3 i s hs
  have hc : ∀ o, w'.cell? ⟨b, o, none⟩ = w.cell? ⟨b, o, none⟩ := fun o => hb.cell (p := ⟨b, o, none⟩) h2
  exact ⟨q0, m0, d0, q1, m1, d1, q2, m2, d2, by rw [hc]; exact k0, by rw [hc]; exact k1, by rw [hc]; exact k2, k3.below hb, k4, k5.below hb, k6, k7.below hb⟩

/-- A number of a step of more than 128 bytes. -/
def TooLong (s : StepN) : Prop := 1024 < blen s.n ∨ 1024 < blen s.base ∨ ∃ p ∈ s.ps, 1024 < blen p

/-! What the program's calls do. -/
open Classical in
def SmallDoes : Prop := ∀ (w : World) (N e : Nat) (v : Value), Fit e N v w → e ≤ 200 →
  Calls Tryz.prog 156 #[v] w fun en w' => en = .returned (.bool (decide (SmallP N))) ∧ Below w.heap.size w w'
end Go.Proofs.YtdebccghjbfgdaaGreatDoor

namespace Go.Proofs.YtdebccghjbfgdaaGreatDoor
open Go Go.RowKit Go.Proofs.YtdebccghjbfgdaaGreatDoor.Flow
set_option maxRecDepth 100000

/-- What is asked of a function over the numbers of a row. -/
structure Asks (g : Nat) (lb : Array Value) (w : World) (e : Nat) (Ns : List Nat) (p : Nat → Bool) : Prop where
  out : ∀ (W : World) (N : Nat) (v : Value), Below w.heap.size w W → N ∈ Ns → Fit e N v W → Calls Tryz.prog g (#[v] ++ lb) W fun en w' => en = .returned (.bool (p N)) ∧ Below W.heap.size W w'

theorem any_hit {Ns : List Nat} {p : Nat → Bool} {k X : Nat} (h : Ns[k]? = some X) (hp : p X = true) : Ns.any p = true :=
  List.any_eq_true.2 ⟨X, List.mem_of_getElem? h, hp⟩
theorem any_miss {Ns : List Nat} {p : Nat → Bool} (h : ∀ (i X : Nat), Ns[i]? = some X → p X = false) : Ns.any p = false := by
  rw [List.any_eq_false]
  intro x hx
  obtain ⟨i, hi⟩ := List.getElem?_of_mem hx
  rw [h i x hi]; exact Bool.false_ne_true

set_option maxHeartbeats 2000000 in
set_option maxRecDepth 100000 in
theorem nfind_calls (w : World) (e : Nat) (p0 : Option Addr) (n c : Nat) (Ns : List Nat) (g : Nat) (lb : Array Value) (eg : ∀ args w, (callFunc g args).run Tryz.prog w = .ok (.enter g args) w) (p : Nat → Bool)
    (h : PList w e p0 n c Ns) (hp : Asks g lb w e Ns p) :
    Calls Tryz.prog 184 #[.slice p0 n c, .func (.func g) #[] lb] w fun en w' => ∃ K : Int, en = .returned (.int .i64 K) ∧ decide (0 ≤ K) = Ns.any p ∧ Below w.heap.size w w' := by
  have HH : Hold _ := ⟨h⟩
  have hn := h.len
  have hmax : n ≤ 9223372036854775807 := Nat.le_trans h.cap h.max
  have HLN : Hold _ := ⟨hn⟩
  clear h hn
  go_enter Tryz.func184, Tryz.ntmps184
  go_wp2
  go_loopw [5, 8] (fun _ iv wr => ∃ k : Nat, k ≤ n ∧ iv = .int .i64 k ∧ Hold (∀ i X, i < k → Ns[i]? = some X → p X = false) ∧ Hold (Below w.heap.size w wr)) (fun _ iv _ => n - (intOf iv).toNat)
  case atStart => exact ⟨0, by omega, rfl, ⟨fun i X h => by omega⟩, ⟨Below.refl _ _⟩⟩
  case round =>
    obtain ⟨k, hk, rfl, HJ, HB⟩ := hrel
    by_cases hkn : k < n
    · obtain ⟨X, hXk⟩ : ∃ X, Ns[k]? = some X := ⟨Ns[k]'(by rw [← HLN.out]; exact hkn), List.getElem?_eq_getElem _⟩
      obtain ⟨b, off, rfl, hb, hc⟩ := (HH.out.below HB.out).at_ (by omega)
      obtain ⟨q, m, d, hx, hnx, hlim⟩ := hc k X hXk
      have HC : Hold _ := ⟨hp.out wr X _ HB.out (List.mem_of_getElem? hXk) (Fit.of hnx hlim)⟩
      have HX : Hold _ := ⟨hXk⟩
      have hkn' : (k : Int) < n := by omega
      clear hc hnx hlim hXk hp
      obtain ⟨P, hP⟩ : ∃ P, p X = P := ⟨_, rfl⟩
      rw [hP] at HC
      have HP : Hold _ := ⟨hP⟩
      clear hP
      cases P with
      | true =>
        go_wp2_with (go_at_fn g; refine HC.out.mono ?_; rintro en w1 ⟨rfl, hb1⟩)
        go_ret
        exact ⟨_, rfl, by rw [any_hit HX.out HP.out]; exact decide_eq_true (by omega), bstep HB.out hb1⟩
      | false =>
        have HJ' : Hold (∀ i Y, i < k + 1 → Ns[i]? = some Y → p Y = false) := ⟨fun i Y hi hY => by
          rcases (by omega : i < k ∨ i = k) with h | rfl
          · exact HJ.out i Y h hY
          · have := HX.out
            rw [hY] at this
            cases this
            exact HP.out⟩
        go_wp2_with (go_at_fn g; refine HC.out.mono ?_; rintro en w1 ⟨rfl, hb1⟩)
        go_roundw
        case rel => exact ⟨k + 1, by omega, by go_num, HJ', ⟨bstep HB.out hb1⟩⟩
        case measure => simp [intOf]; omega
    · obtain rfl : k = n := by omega
      have hkn' : ¬ (k : Int) < k := by omega
      go_wp2
      go_ret
      refine ⟨_, rfl, ?_, HB.out⟩
      rw [any_miss fun i X hX => HJ.out i X (by rw [HLN.out]; exact (List.getElem?_eq_some_iff.1 hX).1) hX]
      rfl

set_option maxHeartbeats 2000000 in
set_option maxRecDepth 100000 in
theorem nany_calls (w : World) (e : Nat) (p0 : Option Addr) (n c : Nat) (Ns : List Nat) (g : Nat) (lb : Array Value) (eg : ∀ args w, (callFunc g args).run Tryz.prog w = .ok (.enter g args) w) (p : Nat → Bool)
    (h : PList w e p0 n c Ns) (hp : Asks g lb w e Ns p) :
    Calls Tryz.prog 155 #[.slice p0 n c, .func (.func g) #[] lb] w fun en w' => en = .returned (.bool (Ns.any p)) ∧ Below w.heap.size w w' := by
  go_enter Tryz.func155, Tryz.ntmps155
  go_wp2_with fail
  refine (nfind_calls w e p0 n c Ns g lb eg p h hp).mono ?_
  rintro en w1 ⟨K, rfl, hK, hb⟩
  have HB : Hold _ := ⟨hb⟩
  have HK : Hold _ := ⟨hK⟩
  clear hK hb
  go_wp2
  go_ret
  exact ⟨by rw [← HK.out]; rfl, HB.out⟩

set_option maxHeartbeats 2000000 in
set_option maxRecDepth 100000 in
/-- The function that asks whether a number is just the one that stands in a box. -/
theorem same1_asks (w : World) (e : Nat) (Ns : List Nat) (b q : Nat) (v : Value) (N : Nat) (hb : b < w.heap.size) (hc : w.cell? ⟨b, 0, none⟩ = some v) (hv : Fit e N (.agg #[v]) w) (he : e ≤ 900000) :
    Asks 229 #[.pointer (some ⟨b, 0, none⟩)] w e Ns (fun M => decide (M = N)) := by
  refine ⟨fun W M u hbw _ hu => ?_⟩
  have hc' : W.cell? ⟨b, 0, none⟩ = some v := (hbw.cell (p := ⟨b, 0, none⟩) hb).trans hc
  have hv' := hv.below hbw
  obtain ⟨pu, nu, cu, rfl, hu1, hu2⟩ := hu
  have hbx := Box1.mk1 W (.slice pu nu cu) 36
  have hbW : b < W.heap.size := Nat.lt_of_lt_of_le hb hbw.size
  have hc2 : (W.alloc (.cells #[.slice pu nu cu] 36)).cell? ⟨b, 0, none⟩ = some v := (hbx.bel.cell (p := ⟨b, 0, none⟩) hbW).trans hc'
  have HA : Hold _ := ⟨(Fit.of hu1 hu2).below hbx.bel⟩
  have HV : Hold _ := ⟨hv'.below hbx.bel⟩
  have HBX : Hold _ := ⟨hbx.bel⟩
  obtain ⟨pv, nv, cv, hev, _, _⟩ := hv
  cases hev
  clear hu1 hu2 hbx hv' hc' hc
  go_enter Tryz.func229, Tryz.ntmps229
  go_wp2_with fail
  refine (cmp_fit HA.out HV.out he he).mono ?_
  rintro en w1 ⟨_, rfl, rfl, hb1⟩
  have HB1 : Hold _ := ⟨bstep HBX.out hb1⟩
  have e0 : ((cmpI M N : Int) == 0) = decide (M = N) := by
    by_cases hnm : M = N
    · simp [hnm, cmpI_zero.2]
    · have : cmpI M N ≠ 0 := fun h0 => hnm (cmpI_zero.1 h0)
      simp [hnm, this]
  have HE : Hold _ := ⟨e0⟩
  clear e0 hb1 hc2
  generalize cmpI M N = K at *
  go_wp2
  go_ret
  exact ⟨by rw [← HE.out]; rfl, HB1.out⟩

open Classical in
set_option maxHeartbeats 2000000 in
set_option maxRecDepth 100000 in
theorem contains_calls (w : World) (e : Nat) (p0 : Option Addr) (n c : Nat) (Ns : List Nat) (v : Value) (N : Nat) (h : PList w e p0 n c Ns) (hv : Fit e N v w) (he : e ≤ 900000) :
    Calls Tryz.prog 215 #[.slice p0 n c, v] w fun en w' => en = .returned (.bool (decide (N ∈ Ns))) ∧ Below w.heap.size w w' := by
  obtain ⟨pu, nu, cu, rfl, hu1, hu2⟩ := hv
  have hbx := Box1.mk1 w (.slice pu nu cu) 36
  have HP : Hold _ := ⟨h.below hbx.bel⟩
  have HA : Hold _ := ⟨same1_asks (w.alloc (.cells #[.slice pu nu cu] 36)) e Ns w.heap.size 0 (.slice pu nu cu) N (by simp) hbx.c0 ((Fit.of hu1 hu2).below hbx.bel) he⟩
  have HBX : Hold _ := ⟨hbx.bel⟩
  have HANS : Hold (Ns.any (fun M => decide (M = N)) = decide (N ∈ Ns)) := ⟨by
    by_cases hm : N ∈ Ns
    · rw [decide_eq_true hm, List.any_eq_true]
      exact ⟨N, hm, by simp⟩
    · rw [decide_eq_false hm, List.any_eq_false]
      intro x hx
      have : x ≠ N := fun e => hm (e ▸ hx)
      simp [this]⟩
  clear h hu1 hu2 hbx
  go_enter Tryz.func215, Tryz.ntmps215
  go_wp2_with fail
  refine (nany_calls _ e p0 n c Ns _ _ (enters_of Tryz.func229 (by kernel_rfl) rfl) _ HP.out HA.out).mono ?_
  rintro en w1 ⟨rfl, hb1⟩
  have HB1 : Hold _ := ⟨bstep HBX.out hb1⟩
  clear hb1
  rw [HANS.out]
  go_wp2
  go_ret
  exact ⟨rfl, HB1.out⟩

end Go.Proofs.YtdebccghjbfgdaaGreatDoor
