/- The three groups of the laws, over numbers: their primes' chains hold, their bases are members, their second bases. -/
import Derived.Test.YtcbhgfiafamflaaGreatDoorCertD
import Derived.Laws.OwnMore
import Derived.Lib.AppendZeros
import Derived.ArgAppend
import Derived.Deep.Cut
import Derived.KernelRfl
set_option maxRecDepth 1000000
set_option maxHeartbeats 16000000
namespace Go.Proofs.YtcbhgfiafamflaaGreatDoor
open Go Go.RowKit Go.Proofs.YtcbhgfiafamflaaGreatDoor.Flow
theorem Tryz.info_N : (Tryz.prog.info? 39).map (fun i => (i.zero, i.size, i.bytes)) = some (some (.slice none 0 0), 1, 24) := by kernel_rfl
structure SList (w : World) (p : Option Addr) (n c : Nat) (l : List StepN) : Prop where
 len : n = l.length
 cap : n ≤ c
 max : c ≤ 9223372036854775807
 at_ : 0 < n → ∃ b off, p = some ⟨b, off, none⟩ ∧ b < w.heap.size ∧ ∀ i s, l[i]? = some s → ∃ q0 m0 d0 q1 m1 d1 q2 m2 d2,
  w.cell? ⟨b, off + i * 3, none⟩ = some (.slice q0 m0 d0) ∧ w.cell? ⟨b, off + i * 3 + 1, none⟩ = some (.slice q1 m1 d1) ∧ w.cell? ⟨b, off + i * 3 + 2, none⟩ = some (.slice q2 m2 d2) ∧
  BitsAt w q0 m0 d0 s.n ∧ BitsAt w q1 m1 d1 s.base ∧ NList w q2 m2 d2 s.ps
theorem SList.below {w w' : World} {p : Option Addr} {n c : Nat} {l : List StepN} (h : SList w p n c l) (hb : Below w.heap.size w w') : SList w' p n c l := by
 refine ⟨h.len, h.cap, h.max, fun h0 => ?_⟩
 obtain ⟨b, off, h1, h2, h3⟩ := h.at_ h0
 refine ⟨b, off, h1, Nat.lt_of_lt_of_le h2 hb.size, fun i s hs => ?_⟩
 obtain ⟨q0, m0, d0, q1, m1, d1, q2, m2, d2, k0, k1, k2, k3, k4, k5⟩ := h3 i s hs
 have hc : ∀ o, w'.cell? ⟨b, o, none⟩ = w.cell? ⟨b, o, none⟩ := fun o => hb.cell (p := ⟨b, o, none⟩) h2
 exact ⟨q0, m0, d0, q1, m1, d1, q2, m2, d2, by rw [hc]; exact k0, by rw [hc]; exact k1, by rw [hc]; exact k2, k3.below hb, k4.below hb, k5.below hb⟩
structure OwnN (w0 w : World) (v : Value) (Ns : List Nat) : Prop where
 ex : ∃ vs : List Value, w.ownsRow w0.heap.size 39 1 v Ns.length vs ∧ vs.length = Ns.length ∧ ∀ (i N : Nat), Ns[i]? = some N → ∃ q m d, vs[i]? = some (.slice q m d) ∧ BitsAt w0 q m d N
theorem OwnN.list {w0 w : World} {v : Value} {Ns : List Nat} (h : OwnN w0 w v Ns) (hb0 : Below w0.heap.size w0 w) : ∃ p c, v = .slice p Ns.length c ∧ NList w p Ns.length c Ns := by
 obtain ⟨vs, h1, h2, h3⟩ := h.ex
 rcases h1.2 with ⟨rfl, h0⟩ | ⟨g, cap, cur, rfl, hb, hg, hnc, hcm, hcs, ht⟩
 ·refine ⟨none, 0, by rw [h0], ⟨rfl, by omega, by omega, fun h => by omega⟩⟩
 ·have hlt : g < w.heap.size := (Array.getElem?_eq_some_iff.1 hg).1
  refine ⟨some ⟨g, 0, none⟩, cap, rfl, ⟨rfl, hnc, by simpa [maxLen] using hcm, fun _ => ⟨g, 0, rfl, hlt, fun i N hN => ?_⟩⟩⟩
  obtain ⟨q, m, d, h4, h5⟩ := h3 i N hN
  refine ⟨q, m, d, ?_, h5.below hb0⟩
  have hi : i < Ns.length := (List.getElem?_eq_some_iff.1 hN).1
  have h6 : (cur.toList.take (Ns.length * 1))[i]? = some (.slice q m d) := by rw [ht]; exact h4
  rw [List.getElem?_take, if_pos (by omega)] at h6
  unfold World.cell?
  dsimp only
  rw [hg]
  simp only [Nat.zero_add]
  rw [Array.getElem?_toList] at h6
  exact h6
theorem OwnN.start (w : World) : OwnN w (w.alloc (.cells #[] 39)) (.slice (some ⟨w.heap.size, 0, none⟩) 0 0) [] :=
 ⟨[], ⟨by simp, .inr ⟨w.heap.size, 0, #[], rfl, Nat.le_refl _, heap_alloc_new w _, Nat.le_refl _, by simp [maxLen], rfl, rfl⟩⟩, rfl, fun i N h => by simp at h⟩
theorem OwnN.below {w0 w w' : World} {v : Value} {Ns : List Nat} (h : OwnN w0 w v Ns) (hb : Below w.heap.size w w') : OwnN w0 w' v Ns := by
 obtain ⟨vs, h1, h2, h3⟩ := h.ex
 refine ⟨vs, ⟨h1.1, ?_⟩, h2, h3⟩
 rcases h1.2 with h4 | ⟨g, cap, cur, e, hbg, hg, h5⟩
 ·exact .inl h4
 ·exact .inr ⟨g, cap, cur, e, hbg, by rw [hb.block g (Array.getElem?_eq_some_iff.1 hg).1]; exact hg, h5⟩
theorem OwnN.app {w0 w : World} {v : Value} {Ns : List Nat} (h : OwnN w0 w v Ns) (hb0 : Below w0.heap.size w0 w) {g : Nat} {q : Option Addr} {m d N c : Nat} (hc : w.cell? ⟨g, 0, none⟩ = some (.slice q m d)) (hN : BitsAt w0 q m d N) (hl : Ns.length ≤ 1000000) (ty : TypeId) :
  ∃ v' w', (Builtin.append_ #[41, 41] ty #[v, .slice (some ⟨g, 0, none⟩) 1 c]).run Tryz.prog w = .ok v' w' ∧ OwnN w0 w' v' (Ns ++ [N]) ∧ Below w0.heap.size w0 w' := by
 obtain ⟨i, hi, hz, hs, hb⟩ := info_parts Tryz.info_N
 obtain ⟨vs, h1, h2, h3⟩ := h.ex
 obtain ⟨v', w', k1, k2, k3, _⟩ := run_append_own (P := Tryz.prog) w w0.heap.size 41 ty 39 i (.slice none 0 0) 1 24 Tryz.underlying41 hi hz hs hb (by rfl) (by decide) v Ns.length vs h1 ⟨g, 0, none⟩ 1 c [.slice q m d] (by simp)
  (fun j u hu => by
   cases j with
   | zero => simp at hu; subst hu; rw [add_plain]; exact hc
   | succ j => simp at hu)
  (fun u hu => by simp at hu; subst hu; rfl) (by simp only [maxLen]; omega) (by omega) hb0.size
 refine ⟨v', w', k1, ⟨vs ++ [.slice q m d], by rw [List.length_append]; exact k2, by simp [h2], fun j M hM => ?_⟩, hb0.grown k3 hb0.size (fun b e => ?_)⟩
 ·rcases Nat.lt_or_ge j Ns.length with hj | hj
  ·rw [List.getElem?_append_left hj] at hM
   obtain ⟨q', m', d', h4, h5⟩ := h3 j M hM
   exact ⟨q', m', d', by rw [List.getElem?_append_left (by omega)]; exact h4, h5⟩
  ·rw [List.getElem?_append_right hj] at hM
   obtain ⟨t, ht⟩ : ∃ t, j - Ns.length = t := ⟨_, rfl⟩
   rw [ht] at hM
   cases t with
   | zero =>
    simp at hM
    subst hM
    exact ⟨q, m, d, by rw [List.getElem?_append_right (by omega), h2, ht]; rfl, hN⟩
   | succ t => simp at hM
 ·rcases h1.2 with ⟨rfl, _⟩ | ⟨g', cap, cur, rfl, hbg, _⟩
  ·cases e
  ·obtain rfl : g' = b := by simpa [Value.ownBlock] using e
   exact hbg
open Classical in
theorem dcheck_calls (w : World) (p : Option Addr) (n c : Nat) (l : List StepN) (h : SList w p n c l) (hn : n ≤ 1000)
  (hl : ∀ s ∈ l, blen s.n ≤ 1100 ∧ blen s.base ≤ 1100 ∧ (∀ q ∈ s.ps, blen q ≤ 1100) ∧ s.ps.length ≤ 1000000) :
  Calls Tryz.prog 82 #[.slice p n c] w fun e w' => e = .returned (.bool (decide (ChainP [] l))) ∧ Below w.heap.size w w' := by
 have HS : Hold _ := ⟨h⟩
 have HL : Hold _ := ⟨hl⟩
 have HLn : Hold _ := ⟨h.len⟩
 obtain ⟨ANS, hANS⟩ : ∃ A, decide (ChainP [] l) = A := ⟨_, rfl⟩
 have HANS : Hold _ := ⟨hANS⟩
 rw [hANS]
 clear hANS h hl
 go_enter Tryz.func82, Tryz.ntmps82
 go_wp2
 go_loopw [3, 9] (fun bv iv wr => ∃ k : Nat, k ≤ n ∧ iv = .int .i64 k ∧ Hold (OwnN w wr bv ((l.take k).map (·.n))) ∧ Hold (ChainP [] (l.take k)) ∧ Hold (Below w.heap.size w wr)) (fun _ iv _ => n - (intOf iv).toNat)
 case atStart => exact ⟨0, by omega, rfl, ⟨OwnN.start w⟩, ⟨trivial⟩, ⟨(Below.refl _ _).alloc (Nat.le_refl _) _⟩⟩
 case round =>
  obtain ⟨k, hk, rfl, HO, HC, HB⟩ := hrel
  by_cases hkn : k < n
  ·obtain ⟨S, hSk⟩ : ∃ s, l[k]? = some s := ⟨l[k]'(by rw [← HLn.out]; exact hkn), List.getElem?_eq_getElem _⟩
   obtain ⟨b, off, rfl, hb, hc⟩ := HS.out.at_ (by omega)
   obtain ⟨q0, m0, d0, q1, m1, d1, q2, m2, d2, k0, k1, k2, k3, k4, k5⟩ := hc k S hSk
   have hcc : ∀ o, wr.cell? ⟨b, o, none⟩ = w.cell? ⟨b, o, none⟩ := fun o => HB.out.cell (p := ⟨b, o, none⟩) hb
   rw [← hcc] at k0 k1 k2
   obtain ⟨l0, l1, l2, l3⟩ := HL.out S (List.mem_of_getElem? hSk)
   have HSk : Hold _ := ⟨hSk⟩
   have K3 : Hold _ := ⟨k3⟩
   have K4 : Hold _ := ⟨k4⟩
   have K5 : Hold _ := ⟨k5⟩
   have L2 : Hold _ := ⟨l2⟩
   have hm2 := k5.len
   have HBd : Hold (∀ q ∈ (l.take k).map (·.n), blen q ≤ 1100) := ⟨fun q hq => by
    obtain ⟨s, hs, rfl⟩ := List.mem_map.1 hq
    exact (HL.out s (List.mem_of_mem_take hs)).1⟩
   have HSplit : Hold (ChainP [] l → HoldsP S.n S.base S.ps ((l.take k).map (·.n))) := ⟨fun hc => by
    have hi : k < l.length := (List.getElem?_eq_some_iff.1 HSk.out).1
    have e : l[k] = S := by have := HSk.out; rw [List.getElem?_eq_getElem hi] at this; exact Option.some.inj this
    rw [← List.take_append_drop (k + 1) l, chain_append, List.take_succ_eq_append_getElem hi, e, chain_snoc] at hc
    simpa using hc.1.2⟩
   have HNext : Hold (HoldsP S.n S.base S.ps ((l.take k).map (·.n)) → ChainP [] (l.take (k + 1)) ∧ (l.take (k + 1)).map (·.n) = (l.take k).map (·.n) ++ [S.n]) := ⟨fun hh => by
    have hi : k < l.length := (List.getElem?_eq_some_iff.1 HSk.out).1
    have e : l[k] = S := by have := HSk.out; rw [List.getElem?_eq_getElem hi] at this; exact Option.some.inj this
    rw [List.take_succ_eq_append_getElem hi, e]
    exact ⟨(chain_snoc _ _ _).2 ⟨HC.out, by simpa using hh⟩, by simp⟩⟩
   have hklen : ((l.take k).map (·.n)).length = k := by rw [List.length_map, List.length_take]; have := HLn.out; omega
   obtain ⟨Bs, hBs⟩ : ∃ Bs, (l.take k).map (·.n) = Bs := ⟨_, rfl⟩
   rw [hBs] at HO HBd HSplit HNext hklen
   obtain ⟨pb, cb, rfl, hnl⟩ := HO.out.list HB.out
   have hab : Below wr.heap.size wr (wr.alloc (.cells #[.slice q0 m0 d0, .slice q1 m1 d1, .slice q2 m2 d2] 43)) := bal
   have HAB : Hold _ := ⟨hab⟩
   have HNL : Hold _ := ⟨hnl.below hab⟩
   have HOa : Hold _ := ⟨HO.out.below hab⟩
   have HBa : Hold _ := ⟨bstep HB.out hab⟩
   have HBox : Hold ((wr.alloc (.cells #[.slice q0 m0 d0, .slice q1 m1 d1, .slice q2 m2 d2] 43)).heap[wr.heap.size]? = some (.cells #[.slice q0 m0 d0, .slice q1 m1 d1, .slice q2 m2 d2] 43 (0, 0))) := ⟨heap_alloc_new wr _⟩
   have HKl : Hold _ := ⟨hklen⟩
   have hm2b : m2 ≤ 1000000 := by omega
   clear hc hcc hSk k3 k4 k5 l2 hnl hab hBs hklen hm2 HO HC
   go_wp2_with fail
   refine (dholds_calls _ q0 m0 d0 S.n q1 m1 d1 S.base q2 m2 d2 S.ps pb Bs.length cb Bs (K3.out.below HBa.out) (K4.out.below HBa.out) (K5.out.below HBa.out) HNL.out l0 l1 L2.out HBd.out hm2b (by rw [HKl.out]; omega)).mono ?_
   rintro en w5 ⟨rfl, hb5⟩
   by_cases hh : HoldsP S.n S.base S.ps Bs
   ·rw [decide_eq_true hh]
    obtain ⟨hc1, hc2⟩ := HNext.out hh
    have HC1 : Hold _ := ⟨hc1⟩
    have HC2 : Hold _ := ⟨hc2⟩
    have hbox5 : w5.heap[wr.heap.size]? = some (.cells #[.slice q0 m0 d0, .slice q1 m1 d1, .slice q2 m2 d2] 43 (0, 0)) := by
     rw [hb5.block _ (Array.getElem?_eq_some_iff.1 HBox.out).1]; exact HBox.out
    have c5 : w5.cell? ⟨wr.heap.size, 0, none⟩ = some (.slice q0 m0 d0) := by simp [World.cell?, hbox5]
    have HO5 : Hold _ := ⟨HOa.out.below hb5⟩
    have HB5 : Hold _ := ⟨bstep HBa.out hb5⟩
    have hab5 : Below w5.heap.size w5 (w5.alloc (.cells #[.slice q0 m0 d0] 39)) := bal
    have HB6 : Hold _ := ⟨bstep HB5.out hab5⟩
    obtain ⟨v7, w7, happ, ho7, hb7⟩ := (HO5.out.below hab5).app HB6.out (g := w5.heap.size) (c := 1) (q := q0) (m := m0) (d := d0) (by simp [go_sem]) K3.out (by rw [HKl.out]; omega) 41
    have HO7 : Hold _ := ⟨ho7⟩
    have HB7 : Hold _ := ⟨hb7⟩
    clear hc1 hc2 hh hb5 hab5 hbox5 ho7 hb7
    go_wp2_with (at_builtin; refine Lib.wpList_append_run _ rfl _ _ _ _ rfl _ _ rfl rfl _ _ happ ?_; refine Paused.out ?_)
    refine ⟨?_⟩
    clear happ
    go_wp2
    go_roundw
    case rel => exact ⟨k + 1, by omega, by go_num, ⟨by rw [HC2.out]; exact HO7.out⟩, HC1, HB7⟩
    case measure => simp [intOf]; omega
   ·rw [decide_eq_false hh]
    have HF : Hold (ANS = false) := ⟨by rw [← HANS.out]; exact decide_eq_false fun hc => hh (HSplit.out hc)⟩
    have HBf : Hold _ := ⟨bstep HBa.out hb5⟩
    clear hh hb5
    go_wp2
    go_ret
    exact ⟨by rw [HF.out]; rfl, HBf.out⟩
  ·obtain rfl : k = n := by omega
   have HT : Hold (ANS = true) := ⟨by
    rw [← HANS.out]
    have := HC.out
    rw [List.take_of_length_le (by rw [← HLn.out]; exact Nat.le_refl _)] at this
    exact decide_eq_true this⟩
   go_wp2
   go_ret
   exact ⟨by rw [HT.out]; rfl, HB.out⟩
end Go.Proofs.YtcbhgfiafamflaaGreatDoor
namespace Go.Proofs.YtcbhgfiafamflaaGreatDoor
def pm (a n : Nat) : Nat → Nat → Nat
 | 0, _ => 1 % n
 | f + 1, e => if e = 0 then 1 % n else
  let h := pm a n f (e / 2)
  if e % 2 = 1 then h * h % n * a % n else h * h % n
theorem pm_eq (a n : Nat) : ∀ f e, e < 2 ^ f → pm a n f e = a ^ e % n
 | 0, e, h => by
  have : e = 0 := by simp at h; omega
  subst this
  rw [pm, Nat.pow_zero]
 | f + 1, e, h => by
  unfold pm
  split
  ·rename_i h0; rw [h0, Nat.pow_zero]
  ·have ih := pm_eq a n f (e / 2) (by rw [Nat.pow_succ] at h; omega)
   have e2 : a ^ (2 * (e / 2)) = a ^ (e / 2) * a ^ (e / 2) := by rw [← Nat.pow_add]; congr 1; omega
   simp only [ih]
   split
   ·rename_i h1
    have : e = 2 * (e / 2) + 1 := by omega
    conv => rhs; rw [this, Nat.pow_succ, e2]
    simp [Nat.mul_mod]
   ·rename_i h1
    have : e = 2 * (e / 2) := by omega
    conv => rhs; rw [this, e2]
    rw [← Nat.mul_mod]
end Go.Proofs.YtcbhgfiafamflaaGreatDoor
namespace Go.Proofs.YtcbhgfiafamflaaGreatDoor
open Go Go.RowKit Go.Proofs.YtcbhgfiafamflaaGreatDoor.Flow
structure PList (w : World) (e : Nat) (p : Option Addr) (n c : Nat) (Ns : List Nat) : Prop where
 len : n = Ns.length
 cap : n ≤ c
 max : c ≤ 9223372036854775807
 nil : p = none → c = 0
 at_ : 0 < n → ∃ b off, p = some ⟨b, off, none⟩ ∧ b < w.heap.size ∧ ∀ i N, Ns[i]? = some N → ∃ q m d, w.cell? ⟨b, off + i, none⟩ = some (.slice q m d) ∧ NatAt w q m d N ∧ N < B32 e
theorem PList.below {w w' : World} {e : Nat} {p : Option Addr} {n c : Nat} {Ns : List Nat} (h : PList w e p n c Ns) (hb : Below w.heap.size w w') : PList w' e p n c Ns := by
 refine ⟨h.len, h.cap, h.max, h.nil, fun h0 => ?_⟩
 obtain ⟨b, off, h1, h2, h3⟩ := h.at_ h0
 refine ⟨b, off, h1, Nat.lt_of_lt_of_le h2 hb.size, fun i N hN => ?_⟩
 obtain ⟨q, m, d, h4, h5, h6⟩ := h3 i N hN
 exact ⟨q, m, d, by rw [hb.cell (p := ⟨b, off + i, none⟩) h2]; exact h4, h5.below hb, h6⟩
structure PSteps (w : World) (e : Nat) (p : Option Addr) (n c : Nat) (l : List StepN) : Prop where
 len : n = l.length
 cap : n ≤ c
 max : c ≤ 9223372036854775807
 nil : p = none → c = 0
 at_ : 0 < n → ∃ b off, p = some ⟨b, off, none⟩ ∧ b < w.heap.size ∧ ∀ i s, l[i]? = some s → ∃ q0 m0 d0 q1 m1 d1 q2 m2 d2,
  w.cell? ⟨b, off + i * 3, none⟩ = some (.slice q0 m0 d0) ∧ w.cell? ⟨b, off + i * 3 + 1, none⟩ = some (.slice q1 m1 d1) ∧ w.cell? ⟨b, off + i * 3 + 2, none⟩ = some (.slice q2 m2 d2) ∧
  NatAt w q0 m0 d0 s.n ∧ s.n < B32 e ∧ NatAt w q1 m1 d1 s.base ∧ s.base < B32 e ∧ PList w e q2 m2 d2 s.ps
theorem PSteps.below {w w' : World} {e : Nat} {p : Option Addr} {n c : Nat} {l : List StepN} (h : PSteps w e p n c l) (hb : Below w.heap.size w w') : PSteps w' e p n c l := by
 refine ⟨h.len, h.cap, h.max, h.nil, fun h0 => ?_⟩
 obtain ⟨b, off, h1, h2, h3⟩ := h.at_ h0
 refine ⟨b, off, h1, Nat.lt_of_lt_of_le h2 hb.size, fun i s hs => ?_⟩
 obtain ⟨q0, m0, d0, q1, m1, d1, q2, m2, d2, k0, k1, k2, k3, k4, k5, k6, k7⟩ := h3 i s hs
 have hc : ∀ o, w'.cell? ⟨b, o, none⟩ = w.cell? ⟨b, o, none⟩ := fun o => hb.cell (p := ⟨b, o, none⟩) h2
 exact ⟨q0, m0, d0, q1, m1, d1, q2, m2, d2, by rw [hc]; exact k0, by rw [hc]; exact k1, by rw [hc]; exact k2, k3.below hb, k4, k5.below hb, k6, k7.below hb⟩
def TooLong (s : StepN) : Prop := 1024 < blen s.n ∨ 1024 < blen s.base ∨ ∃ p ∈ s.ps, 1024 < blen p
open Classical in
def SmallDoes : Prop := ∀ (w : World) (N e : Nat) (v : Value), Fit e N v w → e ≤ 200 →
 Calls Tryz.prog 74 #[v] w fun en w' => en = .returned (.bool (decide (SmallP N))) ∧ Below w.heap.size w w'
end Go.Proofs.YtcbhgfiafamflaaGreatDoor
namespace Go.Proofs.YtcbhgfiafamflaaGreatDoor
open Go Go.RowKit Go.Proofs.YtcbhgfiafamflaaGreatDoor.Flow
open Classical in
theorem small_does : SmallDoes := by
 intro w N e v hv he
 obtain ⟨p, n, c, rfl, h1, h2⟩ := hv
 have hn : n < 1000000 := by have := h1.len_le h2; omega
 have hbx := Box1.mk1 w (.slice p n c) 33
 have H1 : Hold _ := ⟨h1.below hbx.bel⟩
 have HBX : Hold _ := ⟨hbx.bel⟩
 clear h1 h2 hbx
 by_cases hb : blen N ≤ 64
 ·by_cases hlow : N < 2
  ·have hno : Hold (decide (SmallP N) = false) := ⟨decide_eq_false fun hs => by have := hs.1; omega⟩
   have hlow' : (N : Int) < 2 := by omega
   have HB : Hold _ := ⟨hb⟩
   clear hb hlow
   go_enter Tryz.func74, Tryz.ntmps74
   go_wp2_with fail
   refine (uint_calls _ p n c N H1.out hn).mono ?_
   rintro en w1 ⟨rfl, hb1⟩
   rw [if_pos HB.out, decide_eq_true HB.out]
   have HB1 : Hold _ := ⟨bstep HBX.out hb1⟩
   clear hb1
   go_wp2
   go_ret
   exact ⟨by rw [hno.out]; rfl, HB1.out⟩
  ·by_cases hhigh : 65536 ≤ N
   ·have hno : Hold (decide (SmallP N) = false) := ⟨decide_eq_false fun hs => by have := hs.2.1; omega⟩
    have hlow' : ¬ (N : Int) < 2 := by omega
    have hhigh' : (65536 : Int) ≤ N := by omega
    obtain ⟨K, hgK⟩ : ∃ K : Int, (65536 : Int) = K := ⟨_, rfl⟩
    rw [hgK] at hhigh'
    have HB : Hold _ := ⟨hb⟩
    clear hb hlow hhigh
    go_enter Tryz.func74, Tryz.ntmps74
    go_wp2_with fail
    refine (uint_calls _ p n c N H1.out hn).mono ?_
    rintro en w1 ⟨rfl, hb1⟩
    rw [if_pos HB.out, decide_eq_true HB.out]
    have HB1 : Hold _ := ⟨bstep HBX.out hb1⟩
    clear hb1
    go_upto_region 2 with fail
    rw [hgK]
    clear hgK
    go_wp2
    go_ret
    exact ⟨by rw [hno.out]; rfl, HB1.out⟩
   ·have hlow' : ¬ (N : Int) < 2 := by omega
    have hhigh' : ¬ (65536 : Int) ≤ N := by omega
    have HLT : Hold (N < 65536) := ⟨by omega⟩
    have H2 : Hold (2 ≤ N) := ⟨by omega⟩
    obtain ⟨K, hgK⟩ : ∃ K : Int, (65536 : Int) = K := ⟨_, rfl⟩
    rw [hgK] at hhigh'
    have HB : Hold _ := ⟨hb⟩
    clear hb hlow hhigh
    go_enter Tryz.func74, Tryz.ntmps74
    go_wp2_with fail
    refine (uint_calls _ p n c N H1.out hn).mono ?_
    rintro en w1 ⟨rfl, hb1⟩
    rw [if_pos HB.out, decide_eq_true HB.out]
    have HB1 : Hold _ := ⟨bstep HBX.out hb1⟩
    clear hb1
    go_upto_region 2 with fail
    rw [hgK]
    clear hgK
    go_wp2
    go_loopw [5] (fun dv wr => w1 = wr ∧ ∃ d : Nat, 2 ≤ d ∧ d ≤ 256 ∧ dv = .int .u64 d ∧ Hold (∀ e, 2 ≤ e → e < d → N % e ≠ 0)) (fun dv _ => 300 - (intOf dv).toNat)
    case atStart => exact ⟨rfl, 2, by omega, by omega, rfl, ⟨fun e h1 h2 => by omega⟩⟩
    case round =>
     obtain ⟨rfl, d, hd2, hd, rfl, HD⟩ := hrel
     obtain ⟨S, hS⟩ : ∃ S, d * d = S := ⟨_, rfl⟩
     have hS' : (d : Int) * d = (S : Nat) := by rw [← hS]; simp
     have hSl : S ≤ 65536 := by rw [← hS]; exact Nat.mul_le_mul hd hd
     have HSl : Hold _ := ⟨hSl⟩
     have hSw : IntKind.u64.wrap ((S : Nat) : Int) = S := IntWalk.u64_in _ ⟨by omega, by omega⟩
     clear hSl
     by_cases hdd : S ≤ N
     ·have hdlt : d < 256 := Nat.lt_of_not_le fun hge => by
       have := Nat.mul_le_mul hge hge
       have := HLT.out
       omega
      have hmod : (N : Int).tmod d = ((N % d : Nat) : Int) := by rw [Int.tmod_eq_emod_of_nonneg (by omega)]; simp
      obtain ⟨R, hR⟩ : ∃ R, N % d = R := ⟨_, rfl⟩
      rw [hR] at hmod
      have hd0 : ¬ (d : Int) = 0 := by omega
      have hdd' : (S : Int) ≤ N := by omega
      rcases Nat.eq_zero_or_pos R with h0 | h0
      ·have hno : Hold (decide (SmallP N) = false) := ⟨decide_eq_false fun hs => hs.2.2 d hd2 (by omega) (by omega)⟩
       subst h0
       have hS2 := Lib.hid hS
       have hR2 := Lib.hid hR
       clear hS hR
       go_wp2
       go_ret
       exact ⟨by rw [hno.out]; rfl, HB1.out⟩
      ·have hR0 : ((R : Int) == 0) = false := by rw [beq_eq_false_iff_ne]; omega
       have HD' : Hold (∀ e, 2 ≤ e → e < d + 1 → N % e ≠ 0) := ⟨fun e h1 h2 => by
        rcases (by omega : e < d ∨ e = d) with h3 | rfl
        ·exact HD.out e h1 h3
        ·omega⟩
       have hS2 := Lib.hid hS
       have hR2 := Lib.hid hR
       clear hS hR
       go_wp2
       go_roundw
       case rel => exact ⟨trivial, d + 1, by omega, by omega, by go_num, HD'⟩
       case measure => simp [intOf]; omega
     ·have hdd' : ¬ (S : Int) ≤ N := by omega
      have hyes : Hold (decide (SmallP N) = true) := ⟨decide_eq_true ⟨H2.out, HLT.out, fun e h1 h2 => HD.out e h1 (Nat.lt_of_not_le fun hge => by
       have := Nat.mul_le_mul hge hge
       omega)⟩⟩
      have hS2 := Lib.hid hS
      clear hS
      go_wp2
      go_ret
      exact ⟨by rw [hyes.out]; rfl, HB1.out⟩
 ·have hno : Hold (decide (SmallP N) = false) := ⟨decide_eq_false fun hs => hb ((blen_le N 64).2 (Nat.lt_trans hs.2.1 (by decide)))⟩
  have HB : Hold _ := ⟨hb⟩
  clear hb
  go_enter Tryz.func74, Tryz.ntmps74
  go_wp2_with fail
  refine (uint_calls _ p n c N H1.out hn).mono ?_
  rintro en w1 ⟨rfl, hb1⟩
  rw [if_neg HB.out, decide_eq_false HB.out]
  have HB1 : Hold _ := ⟨bstep HBX.out hb1⟩
  clear hb1
  go_wp2
  go_ret
  exact ⟨by rw [hno.out]; rfl, HB1.out⟩
end Go.Proofs.YtcbhgfiafamflaaGreatDoor
namespace Go.Proofs.YtcbhgfiafamflaaGreatDoor
open Go
def kkey (key : List Nat) : List Nat := if 64 < key.length then sha key else key
def kblock (key : List Nat) : List Nat := kkey key ++ List.replicate (64 - (kkey key).length) 0
def masked (b : List Nat) (x : Nat) : List Nat := b.map (· ^^^ x)
def ipad (key : List Nat) : List Nat := masked (kblock key) 54
def opad (key : List Nat) : List Nat := masked (kblock key) 92
def tagged (key m : List Nat) : List Nat := opad key ++ sha (ipad key ++ m)
def hmac (key m : List Nat) : List Nat := sha (tagged key m)
theorem kkey_length (key : List Nat) : (kkey key).length ≤ 64 := by
 unfold kkey
 split
 ·rw [sha_length]; omega
 ·omega
theorem kblock_length (key : List Nat) : (kblock key).length = 64 := by have := kkey_length key; simp [kblock]; omega
theorem kkey_bytes {key : List Nat} (h : Bytes8 key) : Bytes8 (kkey key) := by
 unfold kkey
 split
 ·exact sha_bytes _
 ·exact h
theorem kblock_bytes {key : List Nat} (h : Bytes8 key) : Bytes8 (kblock key) := by
 intro x hx
 rcases List.mem_append.1 hx with h1 | h1
 ·exact kkey_bytes h x h1
 ·have := (List.mem_replicate.1 h1).2; omega
theorem masked_length (b : List Nat) (x : Nat) : (masked b x).length = b.length := by simp [masked]
theorem masked_bytes {b : List Nat} (h : Bytes8 b) {x : Nat} (hx : x < 256) : Bytes8 (masked b x) := by
 intro y hy
 obtain ⟨z, hz, rfl⟩ := List.mem_map.1 hy
 exact Nat.xor_lt_two_pow (n := 8) (h z hz) hx
theorem ipad_length (key : List Nat) : (ipad key).length = 64 := by rw [ipad, masked_length, kblock_length]
theorem opad_length (key : List Nat) : (opad key).length = 64 := by rw [opad, masked_length, kblock_length]
theorem ipad_bytes {key : List Nat} (h : Bytes8 key) : Bytes8 (ipad key) := masked_bytes (kblock_bytes h) (by omega)
theorem opad_bytes {key : List Nat} (h : Bytes8 key) : Bytes8 (opad key) := masked_bytes (kblock_bytes h) (by omega)
theorem hmac_length (key m : List Nat) : (hmac key m).length = 32 := sha_length _
theorem hmac_bytes (key m : List Nat) : Bytes8 (hmac key m) := sha_bytes _
end Go.Proofs.YtcbhgfiafamflaaGreatDoor
namespace Go.Proofs.YtcbhgfiafamflaaGreatDoor
def smallB (p : Nat) : Bool := decide (2 ≤ p) && decide (p < 65536) && (List.range 256).all fun d => decide (d < 2) || decide (p < d * d) || !(p % d == 0)
theorem smallB_spec {p : Nat} (h : smallB p = true) : SmallP p := by
 simp only [smallB, Bool.and_eq_true, decide_eq_true_eq, List.all_eq_true, Bool.or_eq_true, Bool.not_eq_true', beq_eq_false_iff_ne] at h
 obtain ⟨⟨h2, hlt⟩, h⟩ := h
 refine ⟨h2, hlt, fun d h3 h4 => ?_⟩
 have hd : d < 256 := Nat.lt_of_not_le fun hle => by have := Nat.mul_le_mul hle hle; omega
 rcases h d (List.mem_range.2 hd) with (h5 | h5) | h5
 ·omega
 ·omega
 ·exact h5
theorem pw_fuel {p : Nat} (hp : 2 ≤ p) : ∀ (f n : Nat), 0 < n → n < 2 ^ f → pw p f n = pw p n n
 | 0, n, h0, h => by simp at h; omega
 | f + 1, n, h0, h => by
  rw [pw_step hp h0, pw]
  split
  ·rename_i hm
   have h4 : 0 < n / p := Nat.div_pos (Nat.le_of_dvd h0 (Nat.dvd_of_mod_eq_zero hm)) (by omega)
   have h5 : n / p < 2 ^ f := by
    have : n / p ≤ n / 2 := Nat.div_le_div_left hp (by omega)
    rw [Nat.pow_succ] at h
    omega
   rw [pw_fuel hp f (n / p) h4 h5]
  ·rfl
def okB (f N base : Nat) (behind ps : List Nat) (i p : Nat) : Bool :=
 !(ps.take i).contains p && (smallB p || behind.contains p) && decide (2 ≤ p) && (N - 1) % p == 0 && Nat.gcd ((pm base N f ((N - 1) / p) + N - 1) % N) N == 1
def holdsB (f N base : Nat) (ps behind : List Nat) : Bool :=
 decide (2 ≤ N) && !ps.isEmpty && decide (ps.length ≤ 32) && decide (N ≤ 2 ^ f) && (List.range ps.length).all (fun i => okB f N base behind ps i (ps.getD i 0)) && pm base N f (N - 1) == 1 &&
  decide (N < ps.foldl (fun a p => a * pw p f (N - 1)) 1 * ps.foldl (fun a p => a * pw p f (N - 1)) 1)
theorem foldl_pw {f n : Nat} (h0 : 0 < n) (h : n < 2 ^ f) : ∀ (ps : List Nat) (a : Nat), (∀ p ∈ ps, 2 ≤ p) → ps.foldl (fun a p => a * pw p f n) a = ps.foldl (fun a p => a * pw p n n) a
 | [], _, _ => rfl
 | p :: ps, a, hp => by
  rw [List.foldl_cons, List.foldl_cons, pw_fuel (hp p (by simp)) f n h0 h]
  exact foldl_pw h0 h ps _ fun q hq => hp q (by simp [hq])
theorem holdsB_spec {f N base : Nat} {ps behind : List Nat} (h : holdsB f N base ps behind = true) : HoldsP N base ps behind := by
 simp only [holdsB, Bool.and_eq_true, decide_eq_true_eq, List.all_eq_true, Bool.not_eq_true', beq_iff_eq] at h
 obtain ⟨⟨⟨⟨⟨⟨h2, hne⟩, h32⟩, hf⟩, hall⟩, hone⟩, hgr⟩ := h
 have hlt : N - 1 < 2 ^ f := by omega
 have each : ∀ i p, ps[i]? = .some p → OneOk N base behind ps i p := fun i p hp => by
  have hi := (List.getElem?_eq_some_iff.1 hp).1
  have h3 := hall i (List.mem_range.2 hi)
  rw [List.getD_eq_getElem?_getD, hp, Option.getD_some] at h3
  simp only [okB, Bool.and_eq_true, decide_eq_true_eq, Bool.not_eq_true', beq_iff_eq, Bool.or_eq_true, List.contains_iff_mem] at h3
  obtain ⟨⟨⟨⟨k1, k2⟩, k3⟩, k4⟩, k5⟩ := h3
  refine ⟨(fun hm => by rw [List.contains_iff_mem.2 hm] at k1; cases k1), k2.imp smallB_spec id, k3, k4, ?_⟩
  rw [← pm_eq base N f _ (Nat.lt_of_le_of_lt (Nat.div_le_self _ _) hlt)]
  exact k5
 have hps : ∀ p ∈ ps, 2 ≤ p := fun p hp => by
  obtain ⟨i, hi, e⟩ := List.getElem_of_mem hp
  exact (each i p (by rw [List.getElem?_eq_getElem hi, e])).2.2.1
 refine ⟨h2, (fun e => by rw [e] at hne; cases hne), h32, each, ?_, ?_⟩
 ·rw [← pm_eq base N f _ hlt]; exact hone
 ·have := foldl_pw (f := f) (n := N - 1) (by omega) hlt ps 1 hps
  unfold pwl
  rw [← this]
  exact hgr
def gP : Nat → Nat
 | 0 => 607
 | 1 => 655211
 | _ => 20752587082923246163
def gQ : Nat → Nat
 | 0 => 101
 | 1 => 65521
 | _ => 1152921504606847009
def gG : Nat → Nat
 | 0 => 64
 | 1 => 1024
 | _ => 262144
def gH : Nat → Nat
 | 0 => 597
 | 1 => 96520
 | _ => 12833098634328171918
def gSize : Nat → Nat
 | 0 => 2
 | 1 => 3
 | _ => 9
def gTimes : Nat → Nat
 | 0 => 6
 | 1 => 10
 | _ => 18
def gChain : Nat → List StepN
 | 0 => []
 | 1 => [⟨655211, 2, [65521]⟩]
 | _ => [⟨1152921504606847009, 13, [2, 3, 11, 683, 2971]⟩, ⟨20752587082923246163, 2, [1152921504606847009]⟩]
theorem g1_holds : HoldsP 655211 2 [65521] [] := holdsB_spec (f := 20) (by kernel_rfl)
theorem g2_holds1 : HoldsP 1152921504606847009 13 [2, 3, 11, 683, 2971] [] := holdsB_spec (f := 61) (by kernel_rfl)
theorem g2_holds2 : HoldsP 20752587082923246163 2 [1152921504606847009] [1152921504606847009] := holdsB_spec (f := 65) (by kernel_rfl)
theorem small607 : SmallP 607 := smallB_spec (by kernel_rfl)
theorem small101 : SmallP 101 := smallB_spec (by kernel_rfl)
theorem small65521 : SmallP 65521 := smallB_spec (by kernel_rfl)
def Told (N : Nat) (l : List StepN) : Prop := SmallP N ∨ (ChainP [] l ∧ ∃ s ∈ l, s.n = N)
theorem gChain_ok : ∀ i, i < 3 → ChainP [] (gChain i)
 | 0, _ => trivial
 | 1, _ => ⟨g1_holds, trivial⟩
 | 2, _ => ⟨g2_holds1, g2_holds2, trivial⟩
 | _ + 3, h => by omega
theorem gP_told : ∀ i, i < 3 → Told (gP i) (gChain i)
 | 0, _ => .inl small607
 | 1, _ => .inr ⟨gChain_ok 1 (by omega), _, List.mem_singleton.2 rfl, rfl⟩
 | 2, _ => .inr ⟨gChain_ok 2 (by omega), _, List.mem_cons_of_mem _ (List.mem_singleton.2 rfl), rfl⟩
 | _ + 3, h => by omega
theorem gQ_told : ∀ i, i < 3 → Told (gQ i) (gChain i)
 | 0, _ => .inl small101
 | 1, _ => .inl small65521
 | 2, _ => .inr ⟨gChain_ok 2 (by omega), _, List.mem_cons_self, rfl⟩
 | _ + 3, h => by omega
theorem gTimes_eq : ∀ i, i < 3 → gP i - 1 = gQ i * gTimes i
 | 0, _ => rfl
 | 1, _ => rfl
 | 2, _ => rfl
 | _ + 3, h => by omega
theorem g_bounds : ∀ i, i < 3 → 64 < gQ i ∧ 1 < gG i ∧ gG i < gP i ∧ 1 < gH i ∧ gH i < gP i ∧ gP i < 2 ^ 65
 | 0, _ => by decide
 | 1, _ => by decide
 | 2, _ => by decide
 | _ + 3, h => by omega
theorem gG_member : ∀ i, i < 3 → gG i ^ gQ i % gP i = 1
 | 0, _ => by rw [← pm_eq (gG 0) (gP 0) 65 (gQ 0) (by decide)]; kernel_rfl
 | 1, _ => by rw [← pm_eq (gG 1) (gP 1) 65 (gQ 1) (by decide)]; kernel_rfl
 | 2, _ => by rw [← pm_eq (gG 2) (gP 2) 65 (gQ 2) (by decide)]; kernel_rfl
 | _ + 3, h => by omega
theorem key_nil : hmac [] [] = [182, 19, 103, 154, 8, 20, 217, 236, 119, 47, 149, 215, 120, 195, 95, 197, 255, 22, 151, 196, 147, 113, 86, 83, 198, 199, 18, 20, 66, 146, 197, 173] := by kernel_rfl
theorem tk_nil : hmac [182, 19, 103, 154, 8, 20, 217, 236, 119, 47, 149, 215, 120, 195, 95, 197, 255, 22, 151, 196, 147, 113, 86, 83, 198, 199, 18, 20, 66, 146, 197, 173] [104, 0, 1] =
  [22, 9, 94, 96, 137, 201, 132, 135, 12, 215, 97, 165, 119, 173, 84, 193, 49] ++ (hmac [182, 19, 103, 154, 8, 20, 217, 236, 119, 47, 149, 215, 120, 195, 95, 197, 255, 22, 151, 196, 147, 113, 86, 83, 198, 199, 18, 20, 66, 146, 197, 173] [104, 0, 1]).drop 17 := by kernel_rfl
def numB (bs : List Nat) : Nat := bs.foldl (fun n x => n * 256 + x) 0
def gBytes : Nat → List Nat
 | 0 => [22, 9, 94, 96, 137, 201, 132, 135, 12, 215]
 | 1 => [22, 9, 94, 96, 137, 201, 132, 135, 12, 215, 97]
 | _ => [22, 9, 94, 96, 137, 201, 132, 135, 12, 215, 97, 165, 119, 173, 84, 193, 49]
theorem gH_eq : ∀ i, i < 3 → numB (gBytes i) ^ gTimes i % gP i = gH i
 | 0, _ => by rw [← pm_eq (numB (gBytes 0)) (gP 0) 65 (gTimes 0) (by decide)]; kernel_rfl
 | 1, _ => by rw [← pm_eq (numB (gBytes 1)) (gP 1) 65 (gTimes 1) (by decide)]; kernel_rfl
 | 2, _ => by rw [← pm_eq (numB (gBytes 2)) (gP 2) 65 (gTimes 2) (by decide)]; kernel_rfl
 | _ + 3, h => by omega
end Go.Proofs.YtcbhgfiafamflaaGreatDoor
