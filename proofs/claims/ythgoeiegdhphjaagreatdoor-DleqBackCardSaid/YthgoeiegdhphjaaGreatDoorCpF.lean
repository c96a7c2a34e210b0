/- Which primes a step may have, of the program. -/
import Derived.Test.YthgoeiegdhphjaaGreatDoorCertK
set_option maxRecDepth 1000000
set_option maxHeartbeats 16000000
set_option linter.unusedSimpArgs false
set_option linter.unusedVariables false
namespace Go.Proofs.YthgoeiegdhphjaaGreatDoor
open Go Go.RowKit Go.Proofs.YthgoeiegdhphjaaGreatDoor.Flow
structure Asks (g : Nat) (lb : Array Value) (w : World) (e : Nat) (Ns : List Nat) (p : Nat -> Bool) : Prop where
 out : ∀ (W : World) (N : Nat) (v : Value), Below w.heap.size w W -> N ∈ Ns -> Fit e N v W -> Calls Tryz.prog g (#[v] ++ lb) W fun en w' => en = .returned (.bool (p N)) /\ Below W.heap.size W w'
theorem any_hit {Ns : List Nat} {p : Nat -> Bool} {k X : Nat} (h : Ns[k]? = some X) (hp : p X = true) : Ns.any p = true :=
 List.any_eq_true.2 ⟨X, List.mem_of_getElem? h, hp⟩
theorem any_miss {Ns : List Nat} {p : Nat -> Bool} (h : ∀ (i X : Nat), Ns[i]? = some X -> p X = false) : Ns.any p = false := by
 rw [List.any_eq_false]
 intro x hx
 obtain ⟨i, hi⟩ := List.getElem?_of_mem hx
 rw [h i x hi]; exact Bool.false_ne_true
theorem nfind_calls (w : World) (e : Nat) (p0 : Option Addr) (n c : Nat) (Ns : List Nat) (g : Nat) (lb : Array Value) (eg : ∀ args w, (callFunc g args).run Tryz.prog w = .ok (.enter g args) w) (p : Nat -> Bool)
  (h : PList w e p0 n c Ns) (hp : Asks g lb w e Ns p) :
  Calls Tryz.prog 199 #[.slice p0 n c, .func (.func g) #[] lb] w fun en w' => ∃ K : Int, en = .returned (.int .i64 K) /\ decide (0 <= K) = Ns.any p /\ Below w.heap.size w w' := by
 have HH := hol h
 have hn := h.len
 have hmax : n <= 9223372036854775807 := Nat.le_trans h.cap h.max
 have HLN := hol hn
 clear h hn
 go_enter Tryz.func199, Tryz.ntmps199
 go_wp2
 go_loopw [5, 8] (fun _ iv wr => ∃ k : Nat, k <= n /\ iv = .int .i64 k /\ Hold (∀ i X, i < k -> Ns[i]? = some X -> p X = false) /\ Hold (Below w.heap.size w wr)) (fun _ iv _ => n - (intOf iv).toNat)
 case atStart => exact ⟨0, by omega, rfl, ⟨fun i X h => by omega⟩, ⟨Below.refl _ _⟩⟩
 case round =>
  obtain ⟨k, hk, rfl, HJ, HB⟩ := hrel
  by_cases hkn : k < n
  ·obtain ⟨X, hXk⟩ : ∃ X, Ns[k]? = some X := ⟨Ns[k]'(by rw [<- HLN.out]; exact hkn), List.getElem?_eq_getElem _⟩
   obtain ⟨b, off, rfl, hb, hc⟩ := (HH.out.below HB.out).at_ (by omega)
   obtain ⟨q, m, d, hx, hnx, hlim⟩ := hc k X hXk
   have HC := hol (hp.out wr X _ HB.out (List.mem_of_getElem? hXk) (Fit.of hnx hlim))
   have HX := hol hXk
   have hkn' : (k : Int) < n := by omega
   clear hc hnx hlim hXk hp
   obtain ⟨P, hP⟩ : ∃ P, p X = P := ⟨_, rfl⟩
   rw [hP] at HC
   have HP := hol hP
   clear hP
   cases P with
   | true =>
    go_wp2_with (go_at_fn g; refine HC.out.mono ?_; rintro en w1 ⟨rfl, hb1⟩)
    go_ret
    exact ⟨_, rfl, by rw [any_hit HX.out HP.out]; exact decide_eq_true (by omega), bstep HB.out hb1⟩
   | false =>
    have HJ' : Hold (∀ i Y, i < k + 1 -> Ns[i]? = some Y -> p Y = false) := ⟨fun i Y hi hY => by
     rcases (by omega : i < k ∨ i = k) with h | rfl
     ·exact HJ.out i Y h hY
     ·have := HX.out
      rw [hY] at this
      cases this
      exact HP.out⟩
    go_wp2_with (go_at_fn g; refine HC.out.mono ?_; rintro en w1 ⟨rfl, hb1⟩)
    go_roundw
    case rel => exact ⟨k + 1, by omega, by go_num, HJ', ⟨bstep HB.out hb1⟩⟩
    case measure => simp [intOf]; omega
  ·obtain rfl : k = n := by omega
   have hkn' : ¬ (k : Int) < k := by omega
   go_wp2
   go_ret
   refine ⟨_, rfl, ?_, HB.out⟩
   rw [any_miss fun i X hX => HJ.out i X (by rw [HLN.out]; exact (List.getElem?_eq_some_iff.1 hX).1) hX]
   rfl
theorem nany_calls (w : World) (e : Nat) (p0 : Option Addr) (n c : Nat) (Ns : List Nat) (g : Nat) (lb : Array Value) (eg : ∀ args w, (callFunc g args).run Tryz.prog w = .ok (.enter g args) w) (p : Nat -> Bool)
  (h : PList w e p0 n c Ns) (hp : Asks g lb w e Ns p) :
  Calls Tryz.prog 162 #[.slice p0 n c, .func (.func g) #[] lb] w fun en w' => en = .returned (.bool (Ns.any p)) /\ Below w.heap.size w w' := by
 go_enter Tryz.func162, Tryz.ntmps162
 go_wp2_with fail
 refine (nfind_calls w e p0 n c Ns g lb eg p h hp).mono ?_
 rintro en w1 ⟨K, rfl, hK, hb⟩
 have HB := hol hb
 have HK := hol hK
 clear hK hb
 go_wp2
 go_ret
 exact ⟨by rw [<- HK.out]; rfl, HB.out⟩
theorem same1_asks (w : World) (e : Nat) (Ns : List Nat) (b q : Nat) (v : Value) (N : Nat) (hb : b < w.heap.size) (hc : w.cell? ⟨b, 0, none⟩ = some v) (hv : Fit e N (.agg #[v]) w) (he : e <= 900000) :
  Asks 246 #[.pointer (some ⟨b, 0, none⟩)] w e Ns (fun M => decide (M = N)) := by
 refine ⟨fun W M u hbw _ hu => ?_⟩
 have hc' : W.cell? ⟨b, 0, none⟩ = some v := (hbw.cell (p := ⟨b, 0, none⟩) hb).trans hc
 have hv' := hv.below hbw
 obtain ⟨pu, nu, cu, rfl, hu1, hu2⟩ := hu
 have hbx := Box1.mk1 W (.slice pu nu cu) 36
 have hbW : b < W.heap.size := Nat.lt_of_lt_of_le hb hbw.size
 have hc2 : (W.alloc (.cells #[.slice pu nu cu] 36)).cell? ⟨b, 0, none⟩ = some v := (hbx.bel.cell (p := ⟨b, 0, none⟩) hbW).trans hc'
 have HA := hol ((Fit.of hu1 hu2).below hbx.bel)
 have HV := hol (hv'.below hbx.bel)
 have HBX := hol hbx.bel
 obtain ⟨pv, nv, cv, hev, _, _⟩ := hv
 cases hev
 clear hu1 hu2 hbx hv' hc' hc
 go_enter Tryz.func246, Tryz.ntmps246
 go_wp2_with fail
 refine (cmp_fit HA.out HV.out he he).mono ?_
 rintro en w1 ⟨_, rfl, rfl, hb1⟩
 have HB1 := hol (bstep HBX.out hb1)
 have e0 : ((cmpI M N : Int) == 0) = decide (M = N) := by
  by_cases hnm : M = N
  ·simp [hnm, cmpI_zero.2]
  ·have : cmpI M N ≠ 0 := fun h0 => hnm (cmpI_zero.1 h0)
   simp [hnm, this]
 have HE := hol e0
 clear e0 hb1 hc2
 generalize cmpI M N = K at *
 go_wp2
 go_ret
 exact ⟨by rw [<- HE.out]; rfl, HB1.out⟩
open Classical in
theorem contains_calls (w : World) (e : Nat) (p0 : Option Addr) (n c : Nat) (Ns : List Nat) (v : Value) (N : Nat) (h : PList w e p0 n c Ns) (hv : Fit e N v w) (he : e <= 900000) :
  Calls Tryz.prog 232 #[.slice p0 n c, v] w fun en w' => en = .returned (.bool (decide (N ∈ Ns))) /\ Below w.heap.size w w' := by
 obtain ⟨pu, nu, cu, rfl, hu1, hu2⟩ := hv
 have hbx := Box1.mk1 w (.slice pu nu cu) 36
 have HP := hol (h.below hbx.bel)
 have HA := hol (same1_asks (w.alloc (.cells #[.slice pu nu cu] 36)) e Ns w.heap.size 0 (.slice pu nu cu) N (by simp) hbx.c0 ((Fit.of hu1 hu2).below hbx.bel) he)
 have HBX := hol hbx.bel
 have HANS : Hold (Ns.any (fun M => decide (M = N)) = decide (N ∈ Ns)) := ⟨by
  by_cases hm : N ∈ Ns
  ·rw [decide_eq_true hm, List.any_eq_true]
   exact ⟨N, hm, by simp⟩
  ·rw [decide_eq_false hm, List.any_eq_false]
   intro x hx
   have : x ≠ N := fun e => hm (e ▸ hx)
   simp [this]⟩
 clear h hu1 hu2 hbx
 go_enter Tryz.func232, Tryz.ntmps232
 go_wp2_with fail
 refine (nany_calls _ e p0 n c Ns _ _ (enters_of Tryz.func246 (by kernel_rfl) rfl) _ HP.out HA.out).mono ?_
 rintro en w1 ⟨rfl, hb1⟩
 have HB1 := hol (bstep HBX.out hb1)
 clear hb1
 rw [HANS.out]
 go_wp2
 go_ret
 exact ⟨rfl, HB1.out⟩
theorem Tryz.info_Nat : (Tryz.prog.info? 36).map (fun i => (i.zero, i.size, i.bytes)) = some (some (.agg #[.slice none 0 0]), 1, 24) := by kernel_rfl
structure PStep (e : Nat) (s : StepN) (x y z : Option Addr × Nat × Nat) (w : World) : Prop where
 n : NatAt w x.1 x.2.1 x.2.2 s.n
 base : NatAt w y.1 y.2.1 y.2.2 s.base
 ps : PList w e z.1 z.2.1 z.2.2 s.ps
abbrev trip (x y z : Option Addr × Nat × Nat) : Value := .agg #[.slice x.1 x.2.1 x.2.2, .slice y.1 y.2.1 y.2.2, .slice z.1 z.2.1 z.2.2]
section
variable {F : StepN -> Option Addr × Nat × Nat -> Option Addr × Nat × Nat -> Option Addr × Nat × Nat -> World -> Prop} {e : TypeId} {B : Nat} {bad : Nat -> Prop} {w : World} {v : Value} {l : List StepN}
end
theorem snoc_take {α : Type} {l : List α} {k : Nat} {N : α} (h : l[k]? = some N) : l.take (k + 1) = l.take k ++ [N] := by
 obtain ⟨hi, e⟩ := List.getElem?_eq_some_iff.1 h
 rw [List.take_succ_eq_append_getElem hi, e]
theorem long1_calls {w : World} {v : Value} {e N : Nat} (h : Fit e N v w) (he : e <= 900000) :
  Calls Tryz.prog 220 #[v] w fun en w' => en = .returned (.bool (decide (1024 < blen N))) /\ Below w.heap.size w w' := by
 obtain ⟨p, n, c, rfl, h1, h2⟩ := h
 have hn : n < 1000000 := by have := h1.len_le h2; omega
 have hbx := Box1.mk1 w (.slice p n c) 36
 have H1 := hol (h1.below hbx.bel)
 have HBX := hol hbx.bel
 clear h1 h2 hbx
 go_enter Tryz.func220, Tryz.ntmps220
 go_wp2_with fail
 refine (bits_calls _ p n c N H1.out hn).mono ?_
 rintro en w1 ⟨rfl, hb1⟩
 have HB1 := hol (bstep HBX.out hb1)
 clear hb1
 obtain ⟨L, hL⟩ : ∃ L, blen N = L := ⟨_, rfl⟩
 rw [hL]
 have HL := hol hL
 clear hL
 by_cases hl : 1024 < L
 ·have HD : Hold (decide (1024 < L) = true) := ⟨decide_eq_true hl⟩
  have hl' : (1024 : Int) < L := by omega
  clear hl
  go_wp2
  go_ret
  exact ⟨by rw [HL.out, HD.out]; rfl, HB1.out⟩
 ·have HD : Hold (decide (1024 < L) = false) := ⟨decide_eq_false hl⟩
  have hl' : ¬ (1024 : Int) < L := by omega
  clear hl
  go_wp2
  go_ret
  exact ⟨by rw [HL.out, HD.out, <- (decide_eq_false (by have := of_decide_eq_false HD.out; omega) : decide ((1024 : Int) < (L : Nat)) = false)]; rfl, HB1.out⟩
theorem long_asks (w : World) (e : Nat) (Ns : List Nat) (he : e <= 900000) : Asks 220 #[] w e Ns (fun p => decide (1024 < blen p)) := by
 refine ⟨fun W M u _ _ hu => ?_⟩
 rw [Array.append_empty]
 exact long1_calls hu he
structure StepVal (e : Nat) (s : StepN) (v : Value) (w : World) : Prop where
 ex : ∃ q0 m0 d0 q1 m1 d1 q2 m2 d2, v = .agg #[.slice q0 m0 d0, .slice q1 m1 d1, .slice q2 m2 d2] /\ NatAt w q0 m0 d0 s.n /\ s.n < B32 e /\ NatAt w q1 m1 d1 s.base /\ s.base < B32 e /\ PList w e q2 m2 d2 s.ps
open Classical in
theorem long_calls {w : World} {v : Value} {e : Nat} {s : StepN} (h : StepVal e s v w) (he : e <= 900000) :
  Calls Tryz.prog 203 #[v] w fun en w' => en = .returned (.bool (decide (TooLong s))) /\ Below w.heap.size w w' := by
 obtain ⟨q0, m0, d0, q1, m1, d1, q2, m2, d2, rfl, h0, l0, h1, l1, h2⟩ := h.ex
 have hbx : Below w.heap.size w (w.alloc (.cells #[.slice q0 m0 d0, .slice q1 m1 d1, .slice q2 m2 d2] 168)) := bal
 have HBX3 := hol (Box3.made 168 w (.slice q0 m0 d0) (.slice q1 m1 d1) (.slice q2 m2 d2))
 obtain ⟨wa, hwa⟩ : ∃ wa, w.alloc (.cells #[.slice q0 m0 d0, .slice q1 m1 d1, .slice q2 m2 d2] 168) = wa := ⟨_, rfl⟩
 rw [hwa] at hbx HBX3
 have HNF := hol ((Fit.of h0 l0).below hbx)
 have HBF := hol ((Fit.of h1 l1).below hbx)
 have HP := hol (h2.below hbx)
 have HX := hol hbx
 obtain ⟨ANS, hANS⟩ : ∃ X, decide (TooLong s) = X := ⟨_, rfl⟩
 have HANS := hol hANS
 rw [hANS]
 have hca := HBX3.out.cells.1
 clear hANS h h0 l0 h1 l1 h2 hbx
 obtain ⟨S0, hS0⟩ : ∃ X, decide (1024 < blen s.n) = X := ⟨_, rfl⟩
 have HS0 := hol hS0
 clear hS0
 go_enter Tryz.func203, Tryz.ntmps203
 go_wp2_with fail
 refine (long1_calls HNF.out he).mono ?_
 rintro en w1 ⟨rfl, hb1⟩
 rw [HS0.out]
 have HX1 := hol (HBX3.out.below hb1 HBX3.out.lt)
 have HB1 := hol hb1
 clear hb1 hca
 cases S0 with
 | true =>
  have HF : Hold (ANS = true) := ⟨by rw [<- HANS.out]; exact decide_eq_true (.inl (of_decide_eq_true HS0.out))⟩
  have HE := hol (bstep HX.out HB1.out)
  go_wp2
  go_ret
  exact ⟨by rw [HF.out]; rfl, HE.out⟩
 | false =>
  obtain ⟨S1, hS1⟩ : ∃ X, decide (1024 < blen s.base) = X := ⟨_, rfl⟩
  have HS1 := hol hS1
  have hca := HX1.out.cells.2.1
  clear hS1
  go_wp2_with fail
  refine (long1_calls (HBF.out.below HB1.out) he).mono ?_
  rintro en w2 ⟨rfl, hb2⟩
  rw [HS1.out]
  have HX2 := hol (HX1.out.below hb2 HX1.out.lt)
  have HB2 := hol (bstep HB1.out hb2)
  clear hb2 hca
  cases S1 with
  | true =>
   have HF : Hold (ANS = true) := ⟨by rw [<- HANS.out]; exact decide_eq_true (.inr (.inl (of_decide_eq_true HS1.out)))⟩
   have HE := hol (bstep HX.out HB2.out)
   go_wp2
   go_ret
   exact ⟨by rw [HF.out]; rfl, HE.out⟩
  | false =>
   obtain ⟨S2, hS2⟩ : ∃ X, s.ps.any (fun p => decide (1024 < blen p)) = X := ⟨_, rfl⟩
   have HS2 := hol hS2
   have HF : Hold (ANS = S2) := ⟨by
    rw [<- HANS.out, <- hS2]
    have n0 := of_decide_eq_false HS0.out
    have n1 := of_decide_eq_false HS1.out
    by_cases hx : ∃ p ∈ s.ps, 1024 < blen p
    ·obtain ⟨p, hp, hl⟩ := hx
     rw [decide_eq_true (show TooLong s from .inr (.inr ⟨p, hp, hl⟩))]
     exact (List.any_eq_true.2 ⟨p, hp, decide_eq_true hl⟩).symm
    ·have : ¬ TooLong s := fun ht => by
      rcases ht with ht | ht | ht
      ·exact n0 ht
      ·exact n1 ht
      ·exact hx ht
     rw [decide_eq_false this]
     refine Eq.symm ?_
     rw [List.any_eq_false]
     exact fun p hp hc => hx ⟨p, hp, of_decide_eq_true hc⟩⟩
   have hca := HX2.out.cells.2.2
   clear hS2
   go_wp2_with fail
   refine (nany_calls _ e q2 m2 d2 s.ps _ _ (enters_of Tryz.func220 (by kernel_rfl) rfl) (fun p => decide (1024 < blen p)) (HP.out.below HB2.out) (long_asks _ e s.ps he)).mono ?_
   rintro en w3 ⟨rfl, hb3⟩
   rw [HS2.out]
   have HE := hol (bstep HX.out (bstep HB2.out hb3))
   clear hb3 hca
   go_wp2
   go_ret
   exact ⟨by rw [HF.out]; rfl, HE.out⟩
structure AsksS (g : Nat) (lb : Array Value) (w : World) (e : Nat) (l : List StepN) (p : StepN -> Bool) : Prop where
 out : ∀ (W : World) (s : StepN) (v : Value), Below w.heap.size w W -> s ∈ l -> StepVal e s v W -> Calls Tryz.prog g (#[v] ++ lb) W fun en w' => en = .returned (.bool (p s)) /\ Below W.heap.size W w'
theorem anyS_hit {l : List StepN} {p : StepN -> Bool} {k : Nat} {X : StepN} (h : l[k]? = some X) (hp : p X = true) : l.any p = true :=
 List.any_eq_true.2 ⟨X, List.mem_of_getElem? h, hp⟩
theorem anyS_miss {l : List StepN} {p : StepN -> Bool} (h : ∀ (i : Nat) (X : StepN), l[i]? = some X -> p X = false) : l.any p = false := by
 rw [List.any_eq_false]
 intro x hx
 obtain ⟨i, hi⟩ := List.getElem?_of_mem hx
 rw [h i x hi]; exact Bool.false_ne_true
theorem sfind_calls (w : World) (e : Nat) (p0 : Option Addr) (n c : Nat) (l : List StepN) (g : Nat) (lb : Array Value) (eg : ∀ args w, (callFunc g args).run Tryz.prog w = .ok (.enter g args) w) (p : StepN -> Bool)
  (h : PSteps w e p0 n c l) (hp : AsksS g lb w e l p) :
  Calls Tryz.prog 202 #[.slice p0 n c, .func (.func g) #[] lb] w fun en w' => ∃ K : Int, en = .returned (.int .i64 K) /\ decide (0 <= K) = l.any p /\ Below w.heap.size w w' := by
 have HH := hol h
 have hn := h.len
 have hmax : n <= 9223372036854775807 := Nat.le_trans h.cap h.max
 have HLN := hol hn
 clear h hn
 go_enter Tryz.func202, Tryz.ntmps202
 go_wp2
 go_loopw [5, 8] (fun _ iv wr => ∃ k : Nat, k <= n /\ iv = .int .i64 k /\ Hold (∀ i X, i < k -> l[i]? = some X -> p X = false) /\ Hold (Below w.heap.size w wr)) (fun _ iv _ => n - (intOf iv).toNat)
 case atStart => exact ⟨0, by omega, rfl, ⟨fun i X h => by omega⟩, ⟨Below.refl _ _⟩⟩
 case round =>
  obtain ⟨k, hk, rfl, HJ, HB⟩ := hrel
  by_cases hkn : k < n
  ·obtain ⟨X, hXk⟩ : ∃ X, l[k]? = some X := ⟨l[k]'(by rw [<- HLN.out]; exact hkn), List.getElem?_eq_getElem _⟩
   obtain ⟨b, off, rfl, hb, hc⟩ := (HH.out.below HB.out).at_ (by omega)
   obtain ⟨q0, m0, d0, q1, m1, d1, q2, m2, d2, x0, x1, x2, x3⟩ := hc k X hXk
   have HC := hol (hp.out wr X _ HB.out (List.mem_of_getElem? hXk) ⟨q0, m0, d0, q1, m1, d1, q2, m2, d2, rfl, x3⟩)
   have HX := hol hXk
   have hkn' : (k : Int) < n := by omega
   clear hc x3 hXk hp
   obtain ⟨P, hP⟩ : ∃ P, p X = P := ⟨_, rfl⟩
   rw [hP] at HC
   have HP := hol hP
   clear hP
   cases P with
   | true =>
    go_wp2_with (go_at_fn g; refine HC.out.mono ?_; rintro en w1 ⟨rfl, hb1⟩)
    go_ret
    exact ⟨_, rfl, by rw [anyS_hit HX.out HP.out]; exact decide_eq_true (by omega), bstep HB.out hb1⟩
   | false =>
    have HJ' : Hold (∀ i Y, i < k + 1 -> l[i]? = some Y -> p Y = false) := ⟨fun i Y hi hY => by
     rcases (by omega : i < k ∨ i = k) with h | rfl
     ·exact HJ.out i Y h hY
     ·have := HX.out
      rw [hY] at this
      cases this
      exact HP.out⟩
    go_wp2_with (go_at_fn g; refine HC.out.mono ?_; rintro en w1 ⟨rfl, hb1⟩)
    go_roundw
    case rel => exact ⟨k + 1, by omega, by go_num, HJ', ⟨bstep HB.out hb1⟩⟩
    case measure => simp [intOf]; omega
  ·obtain rfl : k = n := by omega
   have hkn' : ¬ (k : Int) < k := by omega
   go_wp2
   go_ret
   refine ⟨_, rfl, ?_, HB.out⟩
   rw [anyS_miss fun i X hX => HJ.out i X (by rw [HLN.out]; exact (List.getElem?_eq_some_iff.1 hX).1) hX]
   rfl
theorem sany_calls (w : World) (e : Nat) (p0 : Option Addr) (n c : Nat) (l : List StepN) (g : Nat) (lb : Array Value) (eg : ∀ args w, (callFunc g args).run Tryz.prog w = .ok (.enter g args) w) (p : StepN -> Bool)
  (h : PSteps w e p0 n c l) (hp : AsksS g lb w e l p) :
  Calls Tryz.prog 170 #[.slice p0 n c, .func (.func g) #[] lb] w fun en w' => en = .returned (.bool (l.any p)) /\ Below w.heap.size w w' := by
 go_enter Tryz.func170, Tryz.ntmps170
 go_wp2_with fail
 refine (sfind_calls w e p0 n c l g lb eg p h hp).mono ?_
 rintro en w1 ⟨K, rfl, hK, hb⟩
 have HB := hol hb
 have HK := hol hK
 clear hK hb
 go_wp2
 go_ret
 exact ⟨by rw [<- HK.out]; rfl, HB.out⟩
theorem PList.take {w : World} {e : Nat} {b off n c k : Nat} {Ns : List Nat} (h : PList w e (Option.some ⟨b, off, Option.none⟩) n c Ns) (hk : k <= n) : PList w e (Option.some ⟨b, off, Option.none⟩) k c (Ns.take k) := by
 refine ⟨by rw [List.length_take]; have := h.len; omega, Nat.le_trans hk h.cap, h.max, (fun x => by cases x), fun h0 => ?_⟩
 obtain ⟨b', off', h1, h2, h3⟩ := h.at_ (by omega)
 exact ⟨b', off', h1, h2, fun i N hN => by
  have hi : i < k := by
   have := (List.getElem?_eq_some_iff.1 hN).1
   rw [List.length_take] at this; omega
  rw [List.getElem?_take, if_pos hi] at hN
  exact h3 i N hN⟩
def KnownP (bs : List Nat) (p : Nat) : Prop := SmallP p ∨ (2 <= p /\ p ∈ bs)
open Classical in
theorem known_calls {w : World} {v : Value} {e PP : Nat} {pb : Option Addr} {nb cb : Nat} {bs : List Nat} (h : Fit e PP v w) (hb : PList w e pb nb cb bs) (he : e <= 200) :
  Calls Tryz.prog 231 #[v, .slice pb nb cb] w fun en w' => en = .returned (.bool (decide (KnownP bs PP))) /\ Below w.heap.size w w' := by
 obtain ⟨q, m, d, rfl, h1, h2⟩ := h
 have hba : Below w.heap.size w (w.alloc (.cells #[.slice q m d] 36)) := bal
 have HB := hol (NatBox.made w (.slice q m d))
 obtain ⟨wa, hwa⟩ : ∃ wa, w.alloc (.cells #[.slice q m d] 36) = wa := ⟨_, rfl⟩
 rw [hwa] at hba HB
 have HBX := hol hba
 have HF := hol ((Fit.of h1 h2).below hba)
 have HL := hol (hb.below hba)
 obtain ⟨ANS, hANS⟩ : ∃ X, decide (KnownP bs PP) = X := ⟨_, rfl⟩
 have HANS := hol hANS
 rw [hANS]
 clear hANS h1 h2 hb hba
 obtain ⟨K, hK⟩ : ∃ K, cmpI PP 2 = K := ⟨_, rfl⟩
 have HK := hol hK
 clear hK
 by_cases hS : SmallP PP
 ·have HS : Hold (decide (SmallP PP) = true) := ⟨decide_eq_true hS⟩
  have HA : Hold (ANS = true) := ⟨by rw [<- HANS.out]; exact decide_eq_true (.inl hS)⟩
  clear hS
  go_enter Tryz.func231, Tryz.ntmps231
  go_wp2
  refine wp_region_duties (by kernel_rfl) (by kernel_rfl)
   [some (.agg #[.slice q m d]), none, some (.bool true), some (undef), some (undef), some (undef), some (undef), some (undef), some (undef), some (undef), some (undef), some (undef), some (.bool true), some (.bool true)]
   [false, true, false, false, false, false, false, false, false, false, false, false, false, false] rfl
   (fun w1 w2 => Below w1.heap.size w1 w2)
   (fun _ w' => Below wa.heap.size wa w')
   (fun i v w' => match i with
    | 1 => v = .bool true
    | _ => True)
   ?_ (Below.refl _ _).drew ?_ ?_
  ·intro i v w1 w2 hf hb
   split at hf
   ·exact hf
   ·trivial
  ·simp only [Duties, Nat.reduceAdd]
   refine ⟨?_, ?_, ?_, ?_, ?_, ?_, ?_, ?_, ?_, ?_, ?_, ?_, ?_, ?_, trivial⟩
   all_goals intro D sp w' hD hW hdp hbx'
   case refine_1 =>
    have c0 := (HB.out.below hbx' HB.out.lt).cell
    with_reducible refine asked_pl ?_ ?_
    all_goals simp [Region.wanted, yielded, execOp, Act.eval, Act.put, go_sem, c0]
   case refine_2 =>
    (with_reducible refine asked_call (w1 := w') (f := 168) (args := #[.agg #[.slice q m d]]) ?_ ?_ ?_)
    ·simp [Region.wanted, yielded, Act.put, go_sem]
    ·simp [Act.eval, Act.put, go_sem]
    ·refine (small_does w' PP e _ (HF.out.below hbx') he).mono ?_
     rintro en w9 ⟨rfl, hb⟩
     rw [HS.out]
     exact ⟨_, rfl, hb, rfl, bstep hbx' hb⟩
   case refine_3 =>
    have k1 : (sp 1) = .bool true := (hdp 1 (mq (by kernel_rfl))).2
    with_reducible refine asked_pl ?_ ?_
    all_goals simp [Region.wanted, yielded, execOp, Act.eval, Act.put, go_sem, k1]
   case refine_4 | refine_5 | refine_6 | refine_7 | refine_8 | refine_9 | refine_10 | refine_11 | refine_12 =>
    (with_reducible refine asked_not ?_ ?_)
    ·(simp [Region.wanted, yielded, Act.put, go_sem] <;> exact fun h => by cases h)
    ·exact ⟨rfl, rfl⟩
   all_goals ((with_reducible refine asked_pl ?_ ?_); all_goals first | (simp only [Region.wanted]; done) | simp [Region.wanted, yielded, execOp, Act.eval, Act.put, go_sem])
  ·intro sp w7 hsp hbx'
   have HBe := hol (bstep HBX.out hbx')
   clear hsp hbx'
   simp only [frameOf, Nat.reduceAdd]
   generalize sp 1 = y1 at *
   go_simp
   go_wp2
   go_ret
   exact ⟨by rw [HA.out]; rfl, HBe.out⟩
 ·have HS : Hold (decide (SmallP PP) = false) := ⟨decide_eq_false hS⟩
  have HnS : Hold (¬ SmallP PP) := ⟨hS⟩
  clear hS
  by_cases h2 : 2 <= PP
  ·have HG : Hold (decide (0 <= K) = true) := ⟨decide_eq_true (by
    rw [<- HK.out]
    rcases Nat.lt_or_ge PP 2 with h | h
    ·omega
    ·rcases Nat.eq_or_lt_of_le h with h | h
     ·rw [<- h, cmpI_self]; decide
     ·have := cmpI_pos.2 h; omega)⟩
   obtain ⟨CC, hCC⟩ : ∃ X, decide (PP ∈ bs) = X := ⟨_, rfl⟩
   have HC := hol hCC
   have HA : Hold (ANS = CC) := ⟨by
    rw [<- HANS.out, <- hCC]
    exact decide_eq_decide.2 ⟨fun h => by
     rcases h with h | h
     ·exact absurd h HnS.out
     ·exact h.2, fun h => .inr ⟨h2, h⟩⟩⟩
   clear hCC h2
   go_enter Tryz.func231, Tryz.ntmps231
   go_wp2
   have hG := HG.out
   refine wp_region_duties (by kernel_rfl) (by kernel_rfl)
    [some (.agg #[.slice q m d]), none, some (.bool false), some (.agg #[.slice q m d]), none, none, some (.bool true), some (.bool true), some (.slice pb nb cb), some (.agg #[.slice q m d]), none, some (.bool CC), some (.bool CC), some (.bool CC)]
    [false, true, false, false, true, true, false, false, false, false, true, false, false, false] rfl
    (fun w1 w2 => Below w1.heap.size w1 w2)
    (fun _ w' => Below wa.heap.size wa w')
    (fun i v w' => match i with
     | 1 => v = .bool false
     | 4 => Fit 1 2 v w'
     | 5 => v = .int .i64 K
     | 10 => v = .bool CC
     | _ => True)
    ?_ (Below.refl _ _).drew ?_ ?_
   ·intro i v w1 w2 hf hb
    split at hf
    ·exact hf
    ·exact hf.below hb
    ·exact hf
    ·exact hf
    ·trivial
   ·simp only [Duties, Nat.reduceAdd]
    refine ⟨?_, ?_, ?_, ?_, ?_, ?_, ?_, ?_, ?_, ?_, ?_, ?_, ?_, ?_, trivial⟩
    all_goals intro D sp w' hD hW hdp hbx'
    case refine_1 | refine_4 | refine_10 =>
     have c0 := (HB.out.below hbx' HB.out.lt).cell
     with_reducible refine asked_pl ?_ ?_
     all_goals simp [Region.wanted, yielded, execOp, Act.eval, Act.put, go_sem, c0]
    case refine_2 =>
     (with_reducible refine asked_call (w1 := w') (f := 168) (args := #[.agg #[.slice q m d]]) ?_ ?_ ?_)
     ·simp [Region.wanted, yielded, Act.put, go_sem]
     ·simp [Act.eval, Act.put, go_sem]
     ·refine (small_does w' PP e _ (HF.out.below hbx') he).mono ?_
      rintro en w9 ⟨rfl, hb⟩
      rw [HS.out]
      exact ⟨_, rfl, hb, rfl, bstep hbx' hb⟩
    case refine_3 =>
     have k1 : (sp 1) = .bool false := (hdp 1 (mq (by kernel_rfl))).2
     with_reducible refine asked_pl ?_ ?_
     all_goals simp [Region.wanted, yielded, execOp, Act.eval, Act.put, go_sem, k1]
    case refine_5 =>
     (with_reducible refine asked_call (w1 := w') (f := 20) (args := #[.int .u64 2]) ?_ ?_ ?_)
     ·simp [Region.wanted, yielded, Act.put, go_sem]
     ·simp [Act.eval, Act.put, go_sem]
     ·refine (two_fit w').mono ?_
      rintro en w9 ⟨u, rfl, hu, hb⟩
      exact ⟨u, rfl, hb, hu, bstep hbx' hb⟩
    case refine_6 =>
     have k4 : Fit 1 2 (sp 4) w' := (hdp 4 (mq (by kernel_rfl))).2
     (with_reducible refine asked_call (w1 := w') (f := 33) (args := #[.agg #[.slice q m d], sp 4]) ?_ ?_ ?_)
     ·simp [Region.wanted, yielded, Act.put, go_sem]
     ·simp [Act.eval, Act.put, go_sem]
     ·refine (cmp_fitK (HF.out.below hbx') k4 (by omega) (by omega) HK.out).mono ?_
      rintro en w9 ⟨u, rfl, rfl, hb⟩
      exact ⟨_, rfl, hb, rfl, bstep hbx' hb⟩
    case refine_7 =>
     have k5 : (sp 5) = .int .i64 K := (hdp 5 (mq (by kernel_rfl))).2
     with_reducible refine asked_pl ?_ ?_
     all_goals simp [Region.wanted, yielded, execOp, Act.eval, Act.put, go_sem, k5, hG]
    case refine_11 =>
     (with_reducible refine asked_call (w1 := w') (f := 232) (args := #[.slice pb nb cb, .agg #[.slice q m d]]) ?_ ?_ ?_)
     ·simp [Region.wanted, yielded, Act.put, go_sem]
     ·simp [Act.eval, Act.put, go_sem]
     ·refine (contains_calls w' e pb nb cb bs _ PP (HL.out.below hbx') (HF.out.below hbx') (by omega)).mono ?_
      rintro en w9 ⟨rfl, hb⟩
      rw [HC.out]
      exact ⟨_, rfl, hb, rfl, bstep hbx' hb⟩
    case refine_12 =>
     have k10 : (sp 10) = .bool CC := (hdp 10 (mq (by kernel_rfl))).2
     with_reducible refine asked_pl ?_ ?_
     all_goals simp [Region.wanted, yielded, execOp, Act.eval, Act.put, go_sem, k10]
    all_goals ((with_reducible refine asked_pl ?_ ?_); all_goals first | (simp only [Region.wanted]; done) | simp [Region.wanted, yielded, execOp, Act.eval, Act.put, go_sem])
   ·intro sp w7 hsp hbx'
    have HBe := hol (bstep HBX.out hbx')
    clear hsp hbx'
    simp only [frameOf, Nat.reduceAdd]
    generalize sp 1 = y1, sp 4 = y4, sp 5 = y5, sp 10 = y10 at *
    go_simp
    go_wp2
    go_ret
    exact ⟨by rw [HA.out]; rfl, HBe.out⟩
  ·have HG : Hold (decide (0 <= K) = false) := ⟨decide_eq_false (by
    rw [<- HK.out, cmpI_lt (by omega)]; decide)⟩
   have HA : Hold (ANS = false) := ⟨by
    rw [<- HANS.out]
    refine decide_eq_false fun h => ?_
    rcases h with h | h
    ·exact HnS.out h
    ·exact h2 h.1⟩
   clear h2
   go_enter Tryz.func231, Tryz.ntmps231
   go_wp2
   have hG := HG.out
   refine wp_region_duties (by kernel_rfl) (by kernel_rfl)
    [some (.agg #[.slice q m d]), none, some (.bool false), some (.agg #[.slice q m d]), none, none, some (.bool false), some (.bool false), some (undef), some (undef), some (undef), some (.bool false), some (.bool false), some (.bool false)]
    [false, true, false, false, true, true, false, false, false, false, false, false, false, false] rfl
    (fun w1 w2 => Below w1.heap.size w1 w2)
    (fun _ w' => Below wa.heap.size wa w')
    (fun i v w' => match i with
     | 1 => v = .bool false
     | 4 => Fit 1 2 v w'
     | 5 => v = .int .i64 K
     | _ => True)
    ?_ (Below.refl _ _).drew ?_ ?_
   ·intro i v w1 w2 hf hb
    split at hf
    ·exact hf
    ·exact hf.below hb
    ·exact hf
    ·trivial
   ·simp only [Duties, Nat.reduceAdd]
    refine ⟨?_, ?_, ?_, ?_, ?_, ?_, ?_, ?_, ?_, ?_, ?_, ?_, ?_, ?_, trivial⟩
    all_goals intro D sp w' hD hW hdp hbx'
    case refine_1 | refine_4 =>
     have c0 := (HB.out.below hbx' HB.out.lt).cell
     with_reducible refine asked_pl ?_ ?_
     all_goals simp [Region.wanted, yielded, execOp, Act.eval, Act.put, go_sem, c0]
    case refine_2 =>
     (with_reducible refine asked_call (w1 := w') (f := 168) (args := #[.agg #[.slice q m d]]) ?_ ?_ ?_)
     ·simp [Region.wanted, yielded, Act.put, go_sem]
     ·simp [Act.eval, Act.put, go_sem]
     ·refine (small_does w' PP e _ (HF.out.below hbx') he).mono ?_
      rintro en w9 ⟨rfl, hb⟩
      rw [HS.out]
      exact ⟨_, rfl, hb, rfl, bstep hbx' hb⟩
    case refine_3 =>
     have k1 : (sp 1) = .bool false := (hdp 1 (mq (by kernel_rfl))).2
     with_reducible refine asked_pl ?_ ?_
     all_goals simp [Region.wanted, yielded, execOp, Act.eval, Act.put, go_sem, k1]
    case refine_5 =>
     (with_reducible refine asked_call (w1 := w') (f := 20) (args := #[.int .u64 2]) ?_ ?_ ?_)
     ·simp [Region.wanted, yielded, Act.put, go_sem]
     ·simp [Act.eval, Act.put, go_sem]
     ·refine (two_fit w').mono ?_
      rintro en w9 ⟨u, rfl, hu, hb⟩
      exact ⟨u, rfl, hb, hu, bstep hbx' hb⟩
    case refine_6 =>
     have k4 : Fit 1 2 (sp 4) w' := (hdp 4 (mq (by kernel_rfl))).2
     (with_reducible refine asked_call (w1 := w') (f := 33) (args := #[.agg #[.slice q m d], sp 4]) ?_ ?_ ?_)
     ·simp [Region.wanted, yielded, Act.put, go_sem]
     ·simp [Act.eval, Act.put, go_sem]
     ·refine (cmp_fitK (HF.out.below hbx') k4 (by omega) (by omega) HK.out).mono ?_
      rintro en w9 ⟨u, rfl, rfl, hb⟩
      exact ⟨_, rfl, hb, rfl, bstep hbx' hb⟩
    case refine_7 =>
     have k5 : (sp 5) = .int .i64 K := (hdp 5 (mq (by kernel_rfl))).2
     with_reducible refine asked_pl ?_ ?_
     all_goals simp [Region.wanted, yielded, execOp, Act.eval, Act.put, go_sem, k5, hG]
    case refine_9 | refine_10 | refine_11 =>
     (with_reducible refine asked_not ?_ ?_)
     ·(simp [Region.wanted, yielded, Act.put, go_sem] <;> exact fun h => by cases h)
     ·exact ⟨rfl, rfl⟩
    all_goals ((with_reducible refine asked_pl ?_ ?_); all_goals first | (simp only [Region.wanted]; done) | simp [Region.wanted, yielded, execOp, Act.eval, Act.put, go_sem])
   ·intro sp w7 hsp hbx'
    have HBe := hol (bstep HBX.out hbx')
    clear hsp hbx'
    simp only [frameOf, Nat.reduceAdd]
    generalize sp 1 = y1, sp 4 = y4, sp 5 = y5 at *
    go_simp
    go_wp2
    go_ret
    exact ⟨by rw [HA.out]; rfl, HBe.out⟩
end Go.Proofs.YthgoeiegdhphjaaGreatDoor
