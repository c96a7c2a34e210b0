/- Claims as a chain, the program's and the document's. -/
import Derived.Test.YtceihmiiapnmnaaCertM
namespace Go.Proofs.Ytceihmiiapnmnaa
open Go Go.RowKit Go.Proofs.Ytceihmiiapnmnaa.Flow
set_option maxRecDepth 100000

theorem Try.info_CStep : (Try.prog.info? 52).map (fun i => (i.zero, i.size, i.bytes)) = some (some (.agg #[.slice none 0 0, .slice none 0 0, .slice none 0 0]), 3, 72) := by kernel_rfl
theorem Try.info_SStep : (Try.prog.info? 55).map (fun i => (i.zero, i.size, i.bytes)) = some (some (.agg #[.slice none 0 0, .slice none 0 0, .slice none 0 0]), 3, 72) := by kernel_rfl

/-- Steps in a row of the call's own. -/
structure OwnT (F : StepN → Option Addr × Nat × Nat → Option Addr × Nat × Nat → Option Addr × Nat × Nat → World → Prop) (e : TypeId) (B : Nat) (bad : Nat → Prop) (w : World) (v : Value) (l : List StepN) : Prop where
  ex : ∃ vs : List Value, w.ownsRow B e 3 v l.length vs ∧ vs.length = l.length * 3 ∧ ∀ (i : Nat) (s : StepN), l[i]? = some s → ∃ x y z : Option Addr × Nat × Nat,
    vs[i * 3]? = some (.slice x.1 x.2.1 x.2.2) ∧ vs[i * 3 + 1]? = some (.slice y.1 y.2.1 y.2.2) ∧ vs[i * 3 + 2]? = some (.slice z.1 z.2.1 z.2.2) ∧ Firm (F s x y z) bad w
section
variable {F : StepN → Option Addr × Nat × Nat → Option Addr × Nat × Nat → Option Addr × Nat × Nat → World → Prop} {e : TypeId} {B : Nat} {bad : Nat → Prop} {w : World} {v : Value} {l : List StepN}
theorem OwnT.nil : OwnT F e B bad w (.slice none 0 0) [] := ⟨[], World.ownsRow_nil w B e 3, rfl, fun i s h => by simp at h⟩
theorem OwnT.block (h : OwnT F e B bad w v l) : ∀ g, v.ownBlock = some g → B ≤ g ∧ g < w.heap.size := by obtain ⟨_, h1, _⟩ := h.ex; exact ownsRow_block h1
theorem OwnT.ty (h : OwnT F e B bad w v l) : ∀ g, v.ownBlock = some g → ∃ cur, w.heap[g]? = some (.cells cur e (0, 0)) := by
  obtain ⟨_, h1, _⟩ := h.ex
  intro g hg
  rcases h1.2 with ⟨rfl, _⟩ | ⟨g', cap, cur, rfl, _, hg', _⟩
  · cases hg
  · obtain rfl : g' = g := by simpa [Value.ownBlock] using hg
    exact ⟨cur, hg'⟩
theorem OwnT.step {w' : World} (h : OwnT F e B bad w v l) (a : Agree bad w w') (hk : ∀ g, v.ownBlock = some g → w'.heap[g]? = w.heap[g]?) : OwnT F e B bad w' v l := by
  obtain ⟨vs, h1, h2, h3⟩ := h.ex
  refine ⟨vs, ownsRow_keep h1 hk, h2, fun i N hN => ?_⟩
  obtain ⟨x, y, z, k1, k2, k3, k4⟩ := h3 i N hN
  exact ⟨x, y, z, k1, k2, k3, k4.step a⟩
theorem OwnT.below {w' : World} (h : OwnT F e B bad w v l) (hb : Below w.heap.size w w') : OwnT F e B bad w' v l := h.step (.of hb) fun g hg => hb.block g (h.block g hg).2
theorem OwnT.more {bad' : Nat → Prop} (h : OwnT F e B bad w v l) (hb : ∀ b, b < w.heap.size → bad' b → bad b) : OwnT F e B bad' w v l := by
  obtain ⟨vs, h1, h2, h3⟩ := h.ex
  refine ⟨vs, h1, h2, fun i N hN => ?_⟩
  obtain ⟨x, y, z, k1, k2, k3, k4⟩ := h3 i N hN
  exact ⟨x, y, z, k1, k2, k3, k4.more hb⟩
theorem OwnT.app {st : TypeId} {bytes : Nat} {i : TypeInfo} (hu : Try.prog.underlying st = some (.slice e)) (hi : Try.prog.info? e = some i)
    {z0 : Value} (hz : i.zero = some z0) (hs : i.size = 3) (hb : i.bytes = bytes) (hzs : z0.cells.size = 3) (hby : bytes ≤ 1000) (h : OwnT F e B bad w v l) (hB : B ≤ w.heap.size) {g c : Nat} {s : StepN} {x y z : Option Addr × Nat × Nat}
    (hc0 : w.cell? ⟨g, 0, none⟩ = some (.slice x.1 x.2.1 x.2.2)) (hc1 : w.cell? ⟨g, 1, none⟩ = some (.slice y.1 y.2.1 y.2.2)) (hc2 : w.cell? ⟨g, 2, none⟩ = some (.slice z.1 z.2.1 z.2.2))
    (hN : Firm (F s x y z) bad w) (hv : ∀ g, v.ownBlock = some g → bad g) (hl : l.length ≤ 1000000) (ty : TypeId) :
    ∃ v' w', (Builtin.append_ #[st, st] ty #[v, .slice (some ⟨g, 0, none⟩) 1 c]).run Try.prog w = .ok v' w' ∧ OwnT F e B bad w' v' (l ++ [s]) ∧ w.grownBy w' v.ownBlock ∧ MovedV w v v' := by
  obtain ⟨vs, h1, h2, h3⟩ := h.ex
  obtain ⟨v', w', k1, k2, k3, k4⟩ := run_appV hu hi hz hs hb hzs (by decide) h1 (a := ⟨g, 0, none⟩) (m := 1) (c := c) (news := [.slice x.1 x.2.1 x.2.2, .slice y.1 y.2.1 y.2.2, .slice z.1 z.2.1 z.2.2]) rfl
    (fun j u hj => by
      match j, hj with
      | 0, hj => simp at hj; subst hj; exact hc0
      | 1, hj => simp at hj; subst hj; exact hc1
      | 2, hj => simp at hj; subst hj; exact hc2
      | j + 3, hj => simp at hj)
    (fun u hj => by simp at hj; rcases hj with rfl | rfl | rfl <;> rfl) (by simp only [maxLen]; omega) (Nat.le_trans (Nat.mul_le_mul (Nat.add_le_add_right hl 1) hby) (by decide)) hB ty
  have ag : Agree bad w w' := .grown k3 hv
  refine ⟨v', w', k1, ⟨vs ++ [.slice x.1 x.2.1 x.2.2, .slice y.1 y.2.1 y.2.2, .slice z.1 z.2.1 z.2.2], by rw [List.length_append]; exact k2, by simp [h2]; omega, fun j M hM => ?_⟩, k3, k4⟩
  rcases Nat.lt_or_ge j l.length with hj | hj
  · rw [List.getElem?_append_left hj] at hM
    obtain ⟨x', y', z', g0, g1, g2, g3⟩ := h3 j M hM
    exact ⟨x', y', z', by rw [List.getElem?_append_left (by omega)]; exact g0, by rw [List.getElem?_append_left (by omega)]; exact g1, by rw [List.getElem?_append_left (by omega)]; exact g2, g3.step ag⟩
  · rw [List.getElem?_append_right hj] at hM
    obtain ⟨t, ht⟩ : ∃ t, j - l.length = t := ⟨_, rfl⟩
    rw [ht] at hM
    cases t with
    | zero =>
      simp at hM
      subst hM
      have e0 : j * 3 - vs.length = 0 := by omega
      have e1 : j * 3 + 1 - vs.length = 1 := by omega
      have e2 : j * 3 + 2 - vs.length = 2 := by omega
      exact ⟨x, y, z, by rw [List.getElem?_append_right (by omega), e0]; rfl, by rw [List.getElem?_append_right (by omega), e1]; rfl, by rw [List.getElem?_append_right (by omega), e2]; rfl, hN.step ag⟩
    | succ t => simp at hM
theorem OwnT.app2 {st : TypeId} {bytes : Nat} {i : TypeInfo} (hu : Try.prog.underlying st = some (.slice e)) (hi : Try.prog.info? e = some i)
    {z0 : Value} (hz : i.zero = some z0) (hs : i.size = 3) (hb : i.bytes = bytes) (hzs : z0.cells.size = 3) (hby : bytes ≤ 1000) (h : OwnT F e B bad w v l) (hB : B ≤ w.heap.size) {g c : Nat} {s : StepN} {x y z : Option Addr × Nat × Nat}
    (hc0 : w.cell? ⟨g, 0, none⟩ = some (.slice x.1 x.2.1 x.2.2)) (hc1 : w.cell? ⟨g, 1, none⟩ = some (.slice y.1 y.2.1 y.2.2)) (hc2 : w.cell? ⟨g, 2, none⟩ = some (.slice z.1 z.2.1 z.2.2))
    (hN : Firm (F s x y z) bad w) (hv : ∀ g, v.ownBlock = some g → bad g) (hlt : ∀ g, bad g → g < w.heap.size) (hl : l.length ≤ 1000000) (ty : TypeId) :
    ∃ v' w' bad', (Builtin.append_ #[st, st] ty #[v, .slice (some ⟨g, 0, none⟩) 1 c]).run Try.prog w = .ok v' w' ∧ OwnT F e B bad' w' v' (l ++ [s]) ∧ w.grownBy w' v.ownBlock ∧
      (∀ g, bad g → bad' g) ∧ (∀ g, g < w.heap.size → bad' g → bad g) ∧ (∀ g, v'.ownBlock = some g → bad' g) ∧ (∀ g, bad' g → g < w'.heap.size) := by
  obtain ⟨v', w', k1, _, k3, k4⟩ := h.app hu hi hz hs hb hzs hby hB (c := c) hc0 hc1 hc2 hN hv hl ty
  have hsub : ∀ g, g < w.heap.size → (bad g ∨ v'.ownBlock = some g) → bad g := by
    intro g hg hx
    rcases hx with hx | hx
    · exact hx
    · rcases k4 with k4 | k4
      · exact hv g (by rw [← k4]; exact hx)
      · have := k4 g hx; omega
  obtain ⟨v2, w2, g1, g2, _, _⟩ := (h.more (bad' := fun g => bad g ∨ v'.ownBlock = some g) hsub).app hu hi hz hs hb hzs hby hB (c := c) hc0 hc1 hc2 (hN.more hsub) (fun g hg => .inl (hv g hg)) hl ty
  rw [k1] at g1
  injection g1 with e1 e2
  subst e1 e2
  exact ⟨v', w', _, k1, g2, k3, fun g hg => .inl hg, hsub, fun g hg => .inr hg, fun g hg => by
    rcases hg with hg | hg
    · exact Nat.lt_of_lt_of_le (hlt g hg) k3.size
    · exact (g2.block g hg).2⟩
/-- Another row, of another type, has grown. -/
theorem OwnT.other {e' : TypeId} {bad' : Nat → Prop} {w' : World} {v' : Value} (h : OwnT F e B bad w v l) (hg : w.grownBy w' v'.ownBlock) (ht : ∀ g, v'.ownBlock = some g → ∃ cur, w.heap[g]? = some (.cells cur e' (0, 0))) (hne : e ≠ e')
    (hv : ∀ g, v'.ownBlock = some g → bad' g) (hsub : ∀ g, g < w.heap.size → bad' g → bad g) : OwnT F e B bad' w' v l := by
  refine (h.more hsub).step (.grown hg hv) fun g hx => hg.block g (h.block g hx).2 fun hc => ?_
  obtain ⟨c1, h1⟩ := h.ty g hx
  obtain ⟨c2, h2⟩ := ht g hc.symm
  rw [h1] at h2
  injection h2 with h3
  injection h3 with _ h4
  exact hne h4
theorem OwnT.elim (h : OwnT F e B bad w v l) : ∃ p c, v = .slice p l.length c ∧ l.length ≤ c ∧ c ≤ 9223372036854775807 ∧ (p = none → c = 0) ∧
    (0 < l.length → ∃ b off, p = some ⟨b, off, none⟩ ∧ b < w.heap.size ∧ ∀ (i : Nat) (s : StepN), l[i]? = some s → ∃ x y z : Option Addr × Nat × Nat,
      w.cell? ⟨b, off + i * 3, none⟩ = some (.slice x.1 x.2.1 x.2.2) ∧ w.cell? ⟨b, off + i * 3 + 1, none⟩ = some (.slice y.1 y.2.1 y.2.2) ∧ w.cell? ⟨b, off + i * 3 + 2, none⟩ = some (.slice z.1 z.2.1 z.2.2) ∧ F s x y z w) := by
  obtain ⟨vs, h1, h2, h3⟩ := h.ex
  rcases h1.2 with ⟨rfl, h0⟩ | ⟨g, cap, cur, rfl, hb, hg, hnc, hcm, hcs, ht⟩
  · exact ⟨none, 0, by rw [h0], by omega, by omega, fun _ => rfl, fun h => by omega⟩
  · have hlt : g < w.heap.size := (Array.getElem?_eq_some_iff.1 hg).1
    have hcell : ∀ (o : Nat) (u : Value), vs[o]? = some u → w.cell? ⟨g, 0 + o, none⟩ = some u := by
      intro o u hu
      have h6 : (cur.toList.take (l.length * 3))[o]? = some u := by rw [ht]; exact hu
      have ho : o < l.length * 3 := by rw [← h2]; exact (List.getElem?_eq_some_iff.1 hu).1
      rw [List.getElem?_take, if_pos ho] at h6
      unfold World.cell?
      dsimp only
      rw [hg]
      simp only [Nat.zero_add]
      rw [Array.getElem?_toList] at h6
      exact h6
    refine ⟨some ⟨g, 0, none⟩, cap, rfl, hnc, by simpa [maxLen] using hcm, (fun h => by cases h), fun _ => ⟨g, 0, rfl, hlt, fun i s hs => ?_⟩⟩
    obtain ⟨x, y, z, k0, k1, k2, k3⟩ := h3 i s hs
    exact ⟨x, y, z, hcell _ _ k0, hcell _ _ k1, hcell _ _ k2, k3.out⟩
end
theorem OwnT.psteps {t : TypeId} {B : Nat} {bad : Nat → Prop} {w : World} {v : Value} {l : List StepN} (h : OwnT (PStep 2) t B bad w v l) (hu : ∀ s ∈ l, s.n < B32 2 ∧ s.base < B32 2) : ∃ p c, v = .slice p l.length c ∧ PSteps w 2 p l.length c l := by
  obtain ⟨p, c, h1, h2, h3, h4, h5⟩ := h.elim
  refine ⟨p, c, h1, rfl, h2, h3, h4, fun h0 => ?_⟩
  obtain ⟨b, off, g1, g2, g3⟩ := h5 h0
  refine ⟨b, off, g1, g2, fun i s hs => ?_⟩
  obtain ⟨x, y, z, k0, k1, k2, k3⟩ := g3 i s hs
  have hm := hu s (List.mem_of_getElem? hs)
  exact ⟨_, _, _, _, _, _, _, _, _, k0, k1, k2, k3.n, hm.1, k3.base, hm.2, k3.ps⟩
theorem OwnT.slist {t : TypeId} {B : Nat} {bad : Nat → Prop} {w : World} {v : Value} {l : List StepN} (h : OwnT SStep t B bad w v l) : ∃ p c, v = .slice p l.length c ∧ SList w p l.length c l := by
  obtain ⟨p, c, h1, h2, h3, _, h5⟩ := h.elim
  refine ⟨p, c, h1, rfl, h2, h3, fun h0 => ?_⟩
  obtain ⟨b, off, g1, g2, g3⟩ := h5 h0
  refine ⟨b, off, g1, g2, fun i s hs => ?_⟩
  obtain ⟨x, y, z, k0, k1, k2, k3⟩ := g3 i s hs
  exact ⟨_, _, _, _, _, _, _, _, _, k0, k1, k2, k3.n, k3.base, k3.ps⟩

def ChainOut (w : World) (l : List StepN) (e : Ending) (w' : World) : Prop :=
  ∃ p c p' c', e = .returned (.tuple #[.slice p l.length c, .slice p' l.length c']) ∧ PSteps w' 2 p l.length c l ∧ SList w' p' l.length c' l ∧ Below w.heap.size w w'

theorem snoc_take {α : Type} {l : List α} {k : Nat} {N : α} (h : l[k]? = some N) : l.take (k + 1) = l.take k ++ [N] := by
  obtain ⟨hi, e⟩ := List.getElem?_eq_some_iff.1 h
  rw [List.take_succ_eq_append_getElem hi, e]

set_option maxHeartbeats 4000000 in
set_option maxRecDepth 100000 in
theorem chain_calls (w : World) (p : Option Addr) (n c : Nat) (l : List StepN) (h : ClaimsIn w p n c l) (hf : FewP l) :
    Calls Try.prog 9 #[.slice p n c] w (ChainOut w l) := by
  have HS : Hold _ := ⟨h⟩
  have HF : Hold _ := ⟨hf⟩
  have HLn : Hold _ := ⟨h.len⟩
  have hn8 : n ≤ 8 := by rw [h.len]; exact hf.1
  clear h hf
  go_enter Try.func9, Try.ntmps9
  go_wp2
  go_loopw [4, 5, 12] (fun va vb iv wr => ∃ k : Nat, k ≤ n ∧ iv = .int .i64 k ∧ ∃ bad : Nat → Prop, Hold (Below w.heap.size w wr) ∧ Hold (∀ h, bad h → h < wr.heap.size) ∧
    Hold (OwnT (PStep 2) 52 w.heap.size bad wr va (l.take k)) ∧ Hold (OwnT SStep 55 w.heap.size bad wr vb (l.take k)) ∧
    Hold (∀ g, va.ownBlock = some g → bad g) ∧ Hold (∀ g, vb.ownBlock = some g → bad g)) (fun _ _ iv _ => n - (intOf iv).toNat)
  case atStart => exact ⟨0, by omega, rfl, fun _ => False, ⟨Below.refl _ _⟩, ⟨fun _ h => h.elim⟩, ⟨OwnT.nil⟩, ⟨OwnT.nil⟩, ⟨fun g h => by cases h⟩, ⟨fun g h => by cases h⟩⟩
  case round =>
    obtain ⟨k, hk, rfl, bad, HB, HLT, HA, HD, HVA, HVB⟩ := hrel
    by_cases hkn : k < n
    · obtain ⟨S, hSk⟩ : ∃ s, l[k]? = some s := ⟨l[k]'(by rw [← HLn.out]; exact hkn), List.getElem?_eq_getElem _⟩
      have hUS := HS.out.u64 S (List.mem_of_getElem? hSk)
      have hP40 := HF.out.2 S (List.mem_of_getElem? hSk)
      obtain ⟨b, off, rfl, hb, hc⟩ := (HS.out.below HB.out).at_ (by omega)
      obtain ⟨q, m, d, k0, k1, k2, k3⟩ := hc k S hSk
      have HTk : Hold _ := ⟨snoc_take hSk⟩
      have HTl : Hold ((l.take k).length ≤ 1000000) := ⟨by rw [List.length_take]; omega⟩
      have hab : Below wr.heap.size wr (wr.alloc (.cells #[.int .u64 (S.n : Nat), .int .u64 (S.base : Nat), .slice q m d] 35)) := (Below.refl _ _).alloc (Nat.le_refl _) _
      have HR : Hold _ := ⟨k3.below hab⟩
      have HUS : Hold _ := ⟨hUS⟩
      have hm40 : m ≤ 40 := by rw [k3.len]; exact hP40
      have HAb : Hold _ := ⟨hab⟩
      clear hc hSk hUS hP40 k3 hab
      go_wp2_with fail
      refine (step_calls _ S q m d HR.out HUS.out hm40).mono ?_
      rintro en w5 ⟨x, y, z, x', y', z', rfl, hb5, hf1, hf2⟩
      dsimp only [trip]
      have hz5 : wr.heap.size ≤ (wr.alloc (.cells #[.int .u64 (S.n : Nat), .int .u64 (S.base : Nat), .slice q m d] 35)).heap.size := HAb.out.size
      have hB5 : Below wr.heap.size wr w5 := bstep HAb.out hb5
      have HB5 : Hold _ := ⟨bstep HB.out hB5⟩
      have fr1 : Firm (PStep 2 S x y z) bad w5 := hf1.more fun g _ hg => Nat.lt_of_lt_of_le (HLT.out g hg) hz5
      have fr2 : Firm (SStep S x' y' z') bad w5 := hf2.more fun g _ hg => Nat.lt_of_lt_of_le (HLT.out g hg) hz5
      have b6 : Below w5.heap.size w5 (((w5.alloc (.cells #[.slice x.1 x.2.1 x.2.2, .slice y.1 y.2.1 y.2.2, .slice z.1 z.2.1 z.2.2] 52)).alloc (.cells #[.slice x'.1 x'.2.1 x'.2.2, .slice y'.1 y'.2.1 y'.2.2, .slice z'.1 z'.2.1 z'.2.2] 55)).alloc (.cells #[.slice x.1 x.2.1 x.2.2, .slice y.1 y.2.1 y.2.2, .slice z.1 z.2.1 z.2.2] 52)) := bstep (bstep ((Below.refl _ _).alloc (Nat.le_refl _) _) ((Below.refl _ _).alloc (Nat.le_refl _) _)) ((Below.refl _ _).alloc (Nat.le_refl _) _)
      have bx1 : Box3 52 (((w5.alloc (.cells #[.slice x.1 x.2.1 x.2.2, .slice y.1 y.2.1 y.2.2, .slice z.1 z.2.1 z.2.2] 52)).alloc (.cells #[.slice x'.1 x'.2.1 x'.2.2, .slice y'.1 y'.2.1 y'.2.2, .slice z'.1 z'.2.1 z'.2.2] 55)).alloc (.cells #[.slice x.1 x.2.1 x.2.2, .slice y.1 y.2.1 y.2.2, .slice z.1 z.2.1 z.2.2] 52)) (w5.heap.size + 1 + 1) (.slice x.1 x.2.1 x.2.2) (.slice y.1 y.2.1 y.2.2) (.slice z.1 z.2.1 z.2.2) := by
        have := Box3.made 52 ((w5.alloc (.cells #[.slice x.1 x.2.1 x.2.2, .slice y.1 y.2.1 y.2.2, .slice z.1 z.2.1 z.2.2] 52)).alloc (.cells #[.slice x'.1 x'.2.1 x'.2.2, .slice y'.1 y'.2.1 y'.2.2, .slice z'.1 z'.2.1 z'.2.2] 55)) (.slice x.1 x.2.1 x.2.2) (.slice y.1 y.2.1 y.2.2) (.slice z.1 z.2.1 z.2.2)
        simpa using this
      have bx2 : Box3 55 (((w5.alloc (.cells #[.slice x.1 x.2.1 x.2.2, .slice y.1 y.2.1 y.2.2, .slice z.1 z.2.1 z.2.2] 52)).alloc (.cells #[.slice x'.1 x'.2.1 x'.2.2, .slice y'.1 y'.2.1 y'.2.2, .slice z'.1 z'.2.1 z'.2.2] 55)).alloc (.cells #[.slice x.1 x.2.1 x.2.2, .slice y.1 y.2.1 y.2.2, .slice z.1 z.2.1 z.2.2] 52)) (w5.heap.size + 1) (.slice x'.1 x'.2.1 x'.2.2) (.slice y'.1 y'.2.1 y'.2.2) (.slice z'.1 z'.2.1 z'.2.2) := by
        have := Box3.made 55 (w5.alloc (.cells #[.slice x.1 x.2.1 x.2.2, .slice y.1 y.2.1 y.2.2, .slice z.1 z.2.1 z.2.2] 52)) (.slice x'.1 x'.2.1 x'.2.2) (.slice y'.1 y'.2.1 y'.2.2) (.slice z'.1 z'.2.1 z'.2.2)
        have := this.below (w' := ((w5.alloc (.cells #[.slice x.1 x.2.1 x.2.2, .slice y.1 y.2.1 y.2.2, .slice z.1 z.2.1 z.2.2] 52)).alloc (.cells #[.slice x'.1 x'.2.1 x'.2.2, .slice y'.1 y'.2.1 y'.2.2, .slice z'.1 z'.2.1 z'.2.2] 55)).alloc (.cells #[.slice x.1 x.2.1 x.2.2, .slice y.1 y.2.1 y.2.2, .slice z.1 z.2.1 z.2.2] 52)) ((Below.refl _ _).alloc (Nat.le_refl _) _) this.lt
        simpa using this
      obtain ⟨W8, hW8⟩ : ∃ W, ((w5.alloc (.cells #[.slice x.1 x.2.1 x.2.2, .slice y.1 y.2.1 y.2.2, .slice z.1 z.2.1 z.2.2] 52)).alloc (.cells #[.slice x'.1 x'.2.1 x'.2.2, .slice y'.1 y'.2.1 y'.2.2, .slice z'.1 z'.2.1 z'.2.2] 55)).alloc (.cells #[.slice x.1 x.2.1 x.2.2, .slice y.1 y.2.1 y.2.2, .slice z.1 z.2.1 z.2.2] 52) = W := ⟨_, rfl⟩
      rw [hW8] at b6 bx1 bx2
      have hB8 : Below wr.heap.size wr W8 := bstepS hB5 b6
      have HW8 : Hold _ := ⟨hW8⟩
      obtain ⟨i1, hi1, hz1, hs1, hb1⟩ := info_parts Try.info_CStep
      obtain ⟨i2, hi2, hz2, hs2, hb2⟩ := info_parts Try.info_SStep
      obtain ⟨v9, W9, bad9, happ9, ho9, hg9, m1, m2, m3, m4⟩ := (HA.out.below hB8).app2 Try.underlying26 hi1 hz1 hs1 hb1 rfl (by decide) (bstepS HB5.out b6).size (g := w5.heap.size + 1 + 1) (c := 1) bx1.cells.1 bx1.cells.2.1 bx1.cells.2.2 (fr1.step (.of b6)) HVA.out (fun g hg => Nat.lt_of_lt_of_le (HLT.out g hg) hB8.size) HTl.out 26
      have HBx : Hold _ := ⟨bx2⟩
      have hd9 := (HD.out.below hB8).other hg9 (HA.out.below hB8).ty (by decide) (fun g hg => m1 g (HVA.out g hg)) m2
      have HA9 : Hold _ := ⟨ho9⟩
      have HD9 : Hold _ := ⟨hd9⟩
      have HB9 : Hold (Below w.heap.size w W9) := ⟨(bstepS HB5.out b6).grown hg9 (bstepS HB5.out b6).size fun g hg => (HA.out.block g hg).1⟩
      have HLT9 : Hold _ := ⟨m4⟩
      have HVA9 : Hold _ := ⟨m3⟩
      have HVB9 : Hold (∀ g, u5.ownBlock = some g → bad9 g) := ⟨fun g hg => m1 g (HVB.out g hg)⟩
      have HF9 : Hold (Firm (SStep S x' y' z') bad9 W9) := ⟨((fr2.step (.of b6)).more m2).step (.grown hg9 fun g hg => m1 g (HVA.out g hg))⟩
      have hbx9 : Box3 55 W9 (w5.heap.size + 1) (.slice x'.1 x'.2.1 x'.2.2) (.slice y'.1 y'.2.1 y'.2.2) (.slice z'.1 z'.2.1 z'.2.2) := ⟨by
        rw [hg9.block _ bx2.lt fun hx => by have := (HA.out.block _ hx.symm).2; have := hB5.size; omega]
        exact bx2.at_⟩
      have c0 := hbx9.cells.1
      have c1 := hbx9.cells.2.1
      have c2 := hbx9.cells.2.2
      clear hi1 hz1 hs1 hb1 hf1 hf2 hb5 hz5 hB5 fr1 fr2 b6 bx1 bx2 hB8 hW8 ho9 hg9 m1 m2 m3 m4 hd9 hbx9
      go_wp2_with (at_builtin; rw [HW8.out]; refine Lib.wpList_append_run _ rfl _ _ _ _ rfl _ _ rfl rfl _ _ happ9 ?_; refine Paused.out ?_)
      refine ⟨?_⟩
      clear happ9 HW8
      have bB : Below W9.heap.size W9 (W9.alloc (.cells #[.slice x'.1 x'.2.1 x'.2.2, .slice y'.1 y'.2.1 y'.2.2, .slice z'.1 z'.2.1 z'.2.2] 55)) := (Below.refl _ _).alloc (Nat.le_refl _) _
      have bxB := Box3.made 55 W9 (.slice x'.1 x'.2.1 x'.2.2) (.slice y'.1 y'.2.1 y'.2.2) (.slice z'.1 z'.2.1 z'.2.2)
      have hBB := bstep HB9.out bB
      obtain ⟨vb, Wb, badb, happb, hob, hgb, m1, m2, m3, m4⟩ := (HD9.out.below bB).app2 Try.underlying27 hi2 hz2 hs2 hb2 rfl (by decide) hBB.size (g := W9.heap.size) (c := 1) bxB.cells.1 bxB.cells.2.1 bxB.cells.2.2 (HF9.out.step (.of bB)) HVB9.out (fun g hg => Nat.lt_of_lt_of_le (HLT9.out g hg) bB.size) HTl.out 27
      have hab2 := (HA9.out.below bB).other hgb (HD9.out.below bB).ty (by decide) (fun g hg => m1 g (HVB9.out g hg)) m2
      have HAf : Hold _ := ⟨hab2⟩
      have HDf : Hold _ := ⟨hob⟩
      have HBf : Hold (Below w.heap.size w Wb) := ⟨hBB.grown hgb hBB.size fun g hg => (HD9.out.block g hg).1⟩
      have HLf : Hold _ := ⟨m4⟩
      have HVAf : Hold (∀ g, v9.ownBlock = some g → badb g) := ⟨fun g hg => m1 g (HVA9.out g hg)⟩
      have HVBf : Hold _ := ⟨m3⟩
      clear hi2 hz2 hs2 hb2 bB bxB hBB hob hgb m1 m2 m3 m4 hab2
      go_wp2_with (at_builtin; refine Lib.wpList_append_run _ rfl _ _ _ _ rfl _ _ rfl rfl _ _ happb ?_; refine Paused.out ?_)
      refine ⟨?_⟩
      clear happb c0 c1 c2
      go_wp2
      go_roundw
      case rel => exact ⟨k + 1, by omega, by go_num, badb, HBf, HLf, ⟨by rw [HTk.out]; exact HAf.out⟩, ⟨by rw [HTk.out]; exact HDf.out⟩, HVAf, HVBf⟩
      case measure => simp [intOf]; omega
    · obtain rfl : k = n := by omega
      have htk : l.take k = l := List.take_of_length_le (by rw [← HLn.out]; exact Nat.le_refl _)
      rw [htk] at HA HD
      have HU := HS.out.u64
      obtain ⟨p1, c1, rfl, hp⟩ := HA.out.psteps (fun s hs => ⟨(HU s hs).1, (HU s hs).2.1⟩)
      obtain ⟨p2, c2, rfl, hd⟩ := HD.out.slist
      have HP : Hold _ := ⟨And.intro hp hd⟩
      clear hp hd HU htk
      go_wp2
      refine bodyPost_ret (v := .tuple #[.slice p1 l.length c1, .slice p2 l.length c2]) (by simp [results, Try.results9, go_sem]) rfl ⟨p1, c1, p2, c2, rfl, HP.out.1, HP.out.2, HB.out⟩

end Go.Proofs.Ytceihmiiapnmnaa
