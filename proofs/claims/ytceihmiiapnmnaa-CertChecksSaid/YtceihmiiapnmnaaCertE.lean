/- The document's chain. -/
import Derived.Test.YtceihmiiapnmnaaCertD
import Derived.Laws.OwnMore
import Derived.Lib.AppendZeros
import Derived.ArgAppend
namespace Go.Proofs.Ytceihmiiapnmnaa
open Go Go.RowKit Go.Proofs.Ytceihmiiapnmnaa.Flow
set_option maxRecDepth 100000

theorem Try.info_N : (Try.prog.info? 38).map (fun i => (i.zero, i.size, i.bytes)) = some (some (.slice none 0 0), 1, 24) := by kernel_rfl

/-- A row of the document's steps. -/
structure SList (w : World) (p : Option Addr) (n c : Nat) (l : List StepN) : Prop where
  len : n = l.length
  cap : n ≤ c
  max : c ≤ 9223372036854775807
  at_ : 0 < n → ∃ b off, p = some ⟨b, off, none⟩ ∧ b < w.heap.size ∧ ∀ i s, l[i]? = some s → ∃ q0 m0 d0 q1 m1 d1 q2 m2 d2,
    w.cell? ⟨b, off + i * 3, none⟩ = some (.slice q0 m0 d0) ∧ w.cell? ⟨b, off + i * 3 + 1, none⟩ = some (.slice q1 m1 d1) ∧ w.cell? ⟨b, off + i * 3 + 2, none⟩ = some (.slice q2 m2 d2) ∧
    BitsAt w q0 m0 d0 s.n ∧ BitsAt w q1 m1 d1 s.base ∧ NList w q2 m2 d2 s.ps
theorem SList.below {w w' : World} {p : Option Addr} {n c : Nat} {l : List StepN} (h : SList w p n c l) (hb : Below w.heap.size w w') : SList w' p n c l := by
  refine ⟨h.len, h.cap, h.max, fun h0 => ?_⟩
  obtain ⟨b, off, h1, h2, h3⟩ := h.at_ h0
  refine ⟨b, off, h1, Nat.lt_of_lt_of_le h2 hb.size, fun i s hs => ?_⟩
  obtain ⟨q0, m0, d0, q1, m1, d1, q2, m2, d2, k0, k1, k2, k3, k4, k5⟩ := h3 i s hs
  have hc : ∀ o, w'.cell? ⟨b, o, none⟩ = w.cell? ⟨b, o, none⟩ := fun o => hb.cell (p := ⟨b, o, none⟩) h2
  exact ⟨q0, m0, d0, q1, m1, d1, q2, m2, d2, by rw [hc]; exact k0, by rw [hc]; exact k1, by rw [hc]; exact k2, k3.below hb, k4.below hb, k5.below hb⟩

/-- Numbers that lay when the call began, in a row of the call's own that grows. -/
structure OwnN (w0 w : World) (v : Value) (Ns : List Nat) : Prop where
  ex : ∃ vs : List Value, w.ownsRow w0.heap.size 38 1 v Ns.length vs ∧ vs.length = Ns.length ∧ ∀ (i N : Nat), Ns[i]? = some N → ∃ q m d, vs[i]? = some (.slice q m d) ∧ BitsAt w0 q m d N
theorem OwnN.list {w0 w : World} {v : Value} {Ns : List Nat} (h : OwnN w0 w v Ns) (hb0 : Below w0.heap.size w0 w) : ∃ p c, v = .slice p Ns.length c ∧ NList w p Ns.length c Ns := by
  obtain ⟨vs, h1, h2, h3⟩ := h.ex
  rcases h1.2 with ⟨rfl, h0⟩ | ⟨g, cap, cur, rfl, hb, hg, hnc, hcm, hcs, ht⟩
  · refine ⟨none, 0, by rw [h0], ⟨rfl, by omega, by omega, fun h => by omega⟩⟩
  · have hlt : g < w.heap.size := (Array.getElem?_eq_some_iff.1 hg).1
    refine ⟨some ⟨g, 0, none⟩, cap, rfl, ⟨rfl, hnc, by simpa [maxLen] using hcm, fun _ => ⟨g, 0, rfl, hlt, fun i N hN => ?_⟩⟩⟩
    obtain ⟨q, m, d, h4, h5⟩ := h3 i N hN
    refine ⟨q, m, d, ?_, h5.below hb0⟩
    have hi : i < Ns.length := (List.getElem?_eq_some_iff.1 hN).1
    have h6 : (cur.toList.take (Ns.length * 1))[i]? = some (.slice q m d) := by rw [ht]; exact h4
    rw [List.getElem?_take, if_pos (by omega)] at h6
    unfold World.cell?
    dsimp only
    rw [hg]
    simp only [Nat.zero_add]
    rw [Array.getElem?_toList] at h6
    exact h6
theorem OwnN.start (w : World) : OwnN w (w.alloc (.cells #[] 38)) (.slice (some ⟨w.heap.size, 0, none⟩) 0 0) [] :=
  ⟨[], ⟨by simp, .inr ⟨w.heap.size, 0, #[], rfl, Nat.le_refl _, heap_alloc_new w _, Nat.le_refl _, by simp [maxLen], rfl, rfl⟩⟩, rfl, fun i N h => by simp at h⟩
theorem OwnN.below {w0 w w' : World} {v : Value} {Ns : List Nat} (h : OwnN w0 w v Ns) (hb : Below w.heap.size w w') : OwnN w0 w' v Ns := by
  obtain ⟨vs, h1, h2, h3⟩ := h.ex
  refine ⟨vs, ⟨h1.1, ?_⟩, h2, h3⟩
  rcases h1.2 with h4 | ⟨g, cap, cur, e, hbg, hg, h5⟩
  · exact .inl h4
  · exact .inr ⟨g, cap, cur, e, hbg, by rw [hb.block g (Array.getElem?_eq_some_iff.1 hg).1]; exact hg, h5⟩

/-- One more. -/
theorem OwnN.app {w0 w : World} {v : Value} {Ns : List Nat} (h : OwnN w0 w v Ns) (hb0 : Below w0.heap.size w0 w) {g : Nat} {q : Option Addr} {m d N c : Nat} (hc : w.cell? ⟨g, 0, none⟩ = some (.slice q m d)) (hN : BitsAt w0 q m d N) (hl : Ns.length ≤ 1000000) (ty : TypeId) :
    ∃ v' w', (Builtin.append_ #[53, 53] ty #[v, .slice (some ⟨g, 0, none⟩) 1 c]).run Try.prog w = .ok v' w' ∧ OwnN w0 w' v' (Ns ++ [N]) ∧ Below w0.heap.size w0 w' := by
  obtain ⟨i, hi, hz, hs, hb⟩ := info_parts Try.info_N
  obtain ⟨vs, h1, h2, h3⟩ := h.ex
  obtain ⟨v', w', k1, k2, k3, _⟩ := run_append_own (P := Try.prog) w w0.heap.size 53 ty 38 i (.slice none 0 0) 1 24 Try.underlying53 hi hz hs hb (by rfl) (by decide) v Ns.length vs h1 ⟨g, 0, none⟩ 1 c [.slice q m d] (by simp)
    (fun j u hu => by
      cases j with
      | zero => simp at hu; subst hu; rw [add_plain]; exact hc
      | succ j => simp at hu)
    (fun u hu => by simp at hu; subst hu; rfl) (by simp only [maxLen]; omega) (by omega) hb0.size
  refine ⟨v', w', k1, ⟨vs ++ [.slice q m d], by rw [List.length_append]; exact k2, by simp [h2], fun j M hM => ?_⟩, hb0.grown k3 hb0.size (fun b e => ?_)⟩
  · rcases Nat.lt_or_ge j Ns.length with hj | hj
    · rw [List.getElem?_append_left hj] at hM
      obtain ⟨q', m', d', h4, h5⟩ := h3 j M hM
      exact ⟨q', m', d', by rw [List.getElem?_append_left (by omega)]; exact h4, h5⟩
    · rw [List.getElem?_append_right hj] at hM
      obtain ⟨t, ht⟩ : ∃ t, j - Ns.length = t := ⟨_, rfl⟩
      rw [ht] at hM
      cases t with
      | zero =>
        simp at hM
        subst hM
        exact ⟨q, m, d, by rw [List.getElem?_append_right (by omega), h2, ht]; rfl, hN⟩
      | succ t => simp at hM
  · rcases h1.2 with ⟨rfl, _⟩ | ⟨g', cap, cur, rfl, hbg, _⟩
    · cases e
    · obtain rfl : g' = b := by simpa [Value.ownBlock] using e
      exact hbg

set_option maxHeartbeats 4000000 in
set_option maxRecDepth 1000000 in
open Classical in
theorem dcheck_calls (w : World) (p : Option Addr) (n c : Nat) (l : List StepN) (h : SList w p n c l) (hn : n ≤ 1000)
    (hl : ∀ s ∈ l, blen s.n ≤ 1100 ∧ blen s.base ≤ 1100 ∧ (∀ q ∈ s.ps, blen q ≤ 1100) ∧ s.ps.length ≤ 1000000) :
    Calls Try.prog 11 #[.slice p n c] w fun e w' => e = .returned (.bool (decide (ChainP [] l))) ∧ Below w.heap.size w w' := by
  have HS : Hold _ := ⟨h⟩
  have HL : Hold _ := ⟨hl⟩
  have HLn : Hold _ := ⟨h.len⟩
  obtain ⟨ANS, hANS⟩ : ∃ A, decide (ChainP [] l) = A := ⟨_, rfl⟩
  have HANS : Hold _ := ⟨hANS⟩
  rw [hANS]
  clear hANS h hl
  go_enter Try.func11, Try.ntmps11
  go_wp2
  go_loopw [3, 9] (fun bv iv wr => ∃ k : Nat, k ≤ n ∧ iv = .int .i64 k ∧ Hold (OwnN w wr bv ((l.take k).map (·.n))) ∧ Hold (ChainP [] (l.take k)) ∧ Hold (Below w.heap.size w wr)) (fun _ iv _ => n - (intOf iv).toNat)
  case atStart => exact ⟨0, by omega, rfl, ⟨OwnN.start w⟩, ⟨trivial⟩, ⟨(Below.refl _ _).alloc (Nat.le_refl _) _⟩⟩
  case round =>
    obtain ⟨k, hk, rfl, HO, HC, HB⟩ := hrel
    by_cases hkn : k < n
    · obtain ⟨S, hSk⟩ : ∃ s, l[k]? = some s := ⟨l[k]'(by rw [← HLn.out]; exact hkn), List.getElem?_eq_getElem _⟩
      obtain ⟨b, off, rfl, hb, hc⟩ := HS.out.at_ (by omega)
      obtain ⟨q0, m0, d0, q1, m1, d1, q2, m2, d2, k0, k1, k2, k3, k4, k5⟩ := hc k S hSk
      have hcc : ∀ o, wr.cell? ⟨b, o, none⟩ = w.cell? ⟨b, o, none⟩ := fun o => HB.out.cell (p := ⟨b, o, none⟩) hb
      rw [← hcc] at k0 k1 k2
      obtain ⟨l0, l1, l2, l3⟩ := HL.out S (List.mem_of_getElem? hSk)
      have HSk : Hold _ := ⟨hSk⟩
      have K3 : Hold _ := ⟨k3⟩
      have K4 : Hold _ := ⟨k4⟩
      have K5 : Hold _ := ⟨k5⟩
      have L2 : Hold _ := ⟨l2⟩
      have hm2 := k5.len
      have HBd : Hold (∀ q ∈ (l.take k).map (·.n), blen q ≤ 1100) := ⟨fun q hq => by
        obtain ⟨s, hs, rfl⟩ := List.mem_map.1 hq
        exact (HL.out s (List.mem_of_mem_take hs)).1⟩
      have HSplit : Hold (ChainP [] l → HoldsP S.n S.base S.ps ((l.take k).map (·.n))) := ⟨fun hc => by
        have hi : k < l.length := (List.getElem?_eq_some_iff.1 HSk.out).1
        have e : l[k] = S := by have := HSk.out; rw [List.getElem?_eq_getElem hi] at this; exact Option.some.inj this
        rw [← List.take_append_drop (k + 1) l, chain_append, List.take_succ_eq_append_getElem hi, e, chain_snoc] at hc
        simpa using hc.1.2⟩
      have HNext : Hold (HoldsP S.n S.base S.ps ((l.take k).map (·.n)) → ChainP [] (l.take (k + 1)) ∧ (l.take (k + 1)).map (·.n) = (l.take k).map (·.n) ++ [S.n]) := ⟨fun hh => by
        have hi : k < l.length := (List.getElem?_eq_some_iff.1 HSk.out).1
        have e : l[k] = S := by have := HSk.out; rw [List.getElem?_eq_getElem hi] at this; exact Option.some.inj this
        rw [List.take_succ_eq_append_getElem hi, e]
        exact ⟨(chain_snoc _ _ _).2 ⟨HC.out, by simpa using hh⟩, by simp⟩⟩
      have hklen : ((l.take k).map (·.n)).length = k := by rw [List.length_map, List.length_take]; have := HLn.out; omega
      obtain ⟨Bs, hBs⟩ : ∃ Bs, (l.take k).map (·.n) = Bs := ⟨_, rfl⟩
      rw [hBs] at HO HBd HSplit HNext hklen
      obtain ⟨pb, cb, rfl, hnl⟩ := HO.out.list HB.out
      have hab : Below wr.heap.size wr (wr.alloc (.cells #[.slice q0 m0 d0, .slice q1 m1 d1, .slice q2 m2 d2] 55)) := (Below.refl _ _).alloc (Nat.le_refl _) _
      have HAB : Hold _ := ⟨hab⟩
      have HNL : Hold _ := ⟨hnl.below hab⟩
      have HOa : Hold _ := ⟨HO.out.below hab⟩
      have HBa : Hold _ := ⟨bstep HB.out hab⟩
      have HBox : Hold ((wr.alloc (.cells #[.slice q0 m0 d0, .slice q1 m1 d1, .slice q2 m2 d2] 55)).heap[wr.heap.size]? = some (.cells #[.slice q0 m0 d0, .slice q1 m1 d1, .slice q2 m2 d2] 55 (0, 0))) := ⟨heap_alloc_new wr _⟩
      have HKl : Hold _ := ⟨hklen⟩
      have hm2b : m2 ≤ 1000000 := by omega
      clear hc hcc hSk k3 k4 k5 l2 hnl hab hBs hklen hm2 HO HC
      go_wp2_with fail
      refine (dholds_calls _ q0 m0 d0 S.n q1 m1 d1 S.base q2 m2 d2 S.ps pb Bs.length cb Bs (K3.out.below HBa.out) (K4.out.below HBa.out) (K5.out.below HBa.out) HNL.out l0 l1 L2.out HBd.out hm2b (by rw [HKl.out]; omega)).mono ?_
      rintro en w5 ⟨rfl, hb5⟩
      by_cases hh : HoldsP S.n S.base S.ps Bs
      · rw [decide_eq_true hh]
        obtain ⟨hc1, hc2⟩ := HNext.out hh
        have HC1 : Hold _ := ⟨hc1⟩
        have HC2 : Hold _ := ⟨hc2⟩
        have hbox5 : w5.heap[wr.heap.size]? = some (.cells #[.slice q0 m0 d0, .slice q1 m1 d1, .slice q2 m2 d2] 55 (0, 0)) := by
          rw [hb5.block _ (Array.getElem?_eq_some_iff.1 HBox.out).1]; exact HBox.out
        have c5 : w5.cell? ⟨wr.heap.size, 0, none⟩ = some (.slice q0 m0 d0) := by simp [World.cell?, hbox5]
        have HO5 : Hold _ := ⟨HOa.out.below hb5⟩
        have HB5 : Hold _ := ⟨bstep HBa.out hb5⟩
        have hab5 : Below w5.heap.size w5 (w5.alloc (.cells #[.slice q0 m0 d0] 38)) := (Below.refl _ _).alloc (Nat.le_refl _) _
        have HB6 : Hold _ := ⟨bstep HB5.out hab5⟩
        obtain ⟨v7, w7, happ, ho7, hb7⟩ := (HO5.out.below hab5).app HB6.out (g := w5.heap.size) (c := 1) (q := q0) (m := m0) (d := d0) (by simp [go_sem]) K3.out (by rw [HKl.out]; omega) 53
        have HO7 : Hold _ := ⟨ho7⟩
        have HB7 : Hold _ := ⟨hb7⟩
        clear hc1 hc2 hh hb5 hab5 hbox5 ho7 hb7
        go_wp2_with (at_builtin; refine Lib.wpList_append_run _ rfl _ _ _ _ rfl _ _ rfl rfl _ _ happ ?_; refine Paused.out ?_)
        refine ⟨?_⟩
        clear happ
        go_wp2
        go_roundw
        case rel => exact ⟨k + 1, by omega, by go_num, ⟨by rw [HC2.out]; exact HO7.out⟩, HC1, HB7⟩
        case measure => simp [intOf]; omega
      · rw [decide_eq_false hh]
        have HF : Hold (ANS = false) := ⟨by rw [← HANS.out]; exact decide_eq_false fun hc => hh (HSplit.out hc)⟩
        have HBf : Hold _ := ⟨bstep HBa.out hb5⟩
        clear hh hb5
        go_wp2
        go_ret
        exact ⟨by rw [HF.out]; rfl, HBf.out⟩
    · obtain rfl : k = n := by omega
      have HT : Hold (ANS = true) := ⟨by
        rw [← HANS.out]
        have := HC.out
        rw [List.take_of_length_le (by rw [← HLn.out]; exact Nat.le_refl _)] at this
        exact decide_eq_true this⟩
      go_wp2
      go_ret
      exact ⟨by rw [HT.out]; rfl, HB.out⟩

end Go.Proofs.Ytceihmiiapnmnaa
