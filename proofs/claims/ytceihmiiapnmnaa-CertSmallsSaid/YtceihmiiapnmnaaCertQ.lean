/- CertFronts: rows of steps laid one behind the other; a number that is too long. -/
import Derived.Test.YtceihmiiapnmnaaFit4
import Derived.Test.YtceihmiiapnmnaaCertP
/-! Bytes of any length as a number, by the program and by the document. -/
namespace Go.Proofs.Ytceihmiiapnmnaa
open Go Go.RowKit Go.Proofs.Ytceihmiiapnmnaa.Flow
set_option maxRecDepth 100000

theorem BRow.grown {w w' : World} {p : Option Addr} {n c : Nat} {xs : List Bool} {g : Nat} (h : BRow w p n c xs) (hg : w.grownBy w' (some g)) (hp : ∀ q, p = some q → q.block ≠ g) : BRow w' p n c xs := by
  refine ⟨h.len, h.cap, h.max, ?_⟩
  rcases h.at_ with h1 | ⟨b, off, h1, h2, h3⟩
  · exact .inl h1
  · have hne := hp _ h1
    refine .inr ⟨b, off, h1, Nat.lt_of_lt_of_le h2 hg.size, fun i x hx => ?_⟩
    exact hg.cell (h3 i x hx) (fun e => hne (Option.some.inj e))

theorem NatAt.grown {w w' : World} {p : Option Addr} {n c N g : Nat} (h : NatAt w p n c N) (hg : w.grownBy w' (some g)) (hp : ∀ q, p = some q → q.block ≠ g) : NatAt w' p n c N :=
  let ⟨ws, h1, h2, h3, h4⟩ := h.ex
  ⟨ws, h1.grown hg hp, h2, h3, h4⟩

end Go.Proofs.Ytceihmiiapnmnaa

namespace Go.Proofs.Ytceihmiiapnmnaa
open Go Go.RowKit Go.Proofs.Ytceihmiiapnmnaa.Flow

theorem PSteps.take {w : World} {e : Nat} {p : Option Addr} {n c : Nat} {l : List StepN} (h : PSteps w e p n c l) (K : Nat) (hK : K ≤ n) : PSteps w e p K c (l.take K) := by
  refine ⟨by rw [List.length_take, ← h.len]; omega, Nat.le_trans hK h.cap, h.max, h.nil, fun h0 => ?_⟩
  obtain ⟨b, off, h1, h2, h3⟩ := h.at_ (by omega)
  refine ⟨b, off, h1, h2, fun i s hs => h3 i s ?_⟩
  rw [List.getElem?_take] at hs
  split at hs
  · exact hs
  · cases hs

theorem made_cell (W : World) (v : Value) (t : TypeId) : (W.alloc (.cells #[v] t)).cell? ⟨W.heap.size, 0, none⟩ = some v := by simp [go_sem]

/-- The front of a chain that holds holds. -/
theorem chain_front {l : List StepN} (h : ChainP [] l) (K : Nat) : ChainP [] (l.take K) := by
  rw [← List.take_append_drop K l, chain_append] at h
  exact h.1
/-- With a step that doesn't hold it doesn't. -/
theorem chain_bad {l : List StepN} {s : StepN} {K : Nat} (hb : ¬ HoldsP s.n s.base s.ps ((l.take K).map (·.n))) : ¬ ChainP [] (l.take K ++ [s] ++ l.drop K) := by
  intro h
  rw [chain_append, chain_snoc] at h
  exact hb (by simpa using h.1.2)

/-- Squares of 2^63. -/
def sq63 : Nat → Nat
  | 0 => 9223372036854775808
  | i + 1 => sq63 i * sq63 i
theorem sq63_low : ∀ i, B32 (2 ^ i) ≤ sq63 i
  | 0 => by decide
  | i + 1 => by
    have e : 2 ^ (i + 1) = 2 ^ i + 2 ^ i := by rw [Nat.pow_succ]; omega
    rw [e, B32_add]
    exact Nat.mul_le_mul (sq63_low i) (sq63_low i)
theorem sq63_high : ∀ i, sq63 i < B32 (2 * 2 ^ i)
  | 0 => by decide
  | i + 1 => by
    have e : 2 * 2 ^ (i + 1) = 2 * 2 ^ i + 2 * 2 ^ i := by rw [Nat.pow_succ]; omega
    rw [e, B32_add]
    exact Nat.mul_lt_mul_of_lt_of_lt (sq63_high i) (sq63_high i)
theorem B32_pow (k : Nat) : B32 k = 2 ^ (32 * k) := by unfold B32; rw [Nat.pow_mul]
theorem blen_B32 {N k : Nat} (h : B32 k ≤ N) : 32 * k < blen N := by
  rcases Nat.lt_or_ge (32 * k) (blen N) with h1 | h1
  · exact h1
  · have := (blen_le N (32 * k)).1 h1
    rw [← B32_pow] at this
    omega
theorem sq63_long : 1024 < blen (sq63 5) := by
  have := blen_B32 (k := 32) (sq63_low 5)
  omega

/-! A number that is too long, in a box. -/
structure LongG (t : TypeId) (wA : World) (i : Nat) (x y : Option Addr × Nat × Nat) (w : World) : Prop where
  bel : Below wA.heap.size wA w
  box : Box3 t w wA.heap.size (.slice x.1 x.2.1 x.2.2) (.slice y.1 y.2.1 y.2.2) (.slice none 0 0)
  one : NatAt w x.1 x.2.1 x.2.2 1
  sq : NatAt w y.1 y.2.1 y.2.2 (sq63 i)
theorem LongG.step {t : TypeId} {wA w w' : World} {i : Nat} {x y z : Option Addr × Nat × Nat} (h : LongG t wA i x y w) (hb : Below w.heap.size w w') (hz : NatAt w' z.1 z.2.1 z.2.2 (sq63 i * sq63 i)) :
    LongG t wA (i + 1) x z (w'.setCell ⟨wA.heap.size, 1, none⟩ (.slice z.1 z.2.1 z.2.2)) := by
  have hbx := h.box.below hb h.box.lt
  have hk := KeptS.set hbx.cells.2.1 (.slice z.1 z.2.1 z.2.2)
  exact ⟨(bstepS h.bel hb).setCell (Nat.le_refl _) _, hbx.set1 _, natLike.kept (h.one.below hb) hk, natLike.kept hz hk⟩
def longS : StepN := ⟨1, sq63 5, []⟩
theorem longS_long : TooLong longS := .inr (.inl sq63_long)
theorem LongG.psteps {t : TypeId} {wA w : World} {x y : Option Addr × Nat × Nat} (h : LongG t wA 5 x y w) {g : Nat} {e : TypeId} (hb : w.heap[g]? = some (.cells #[.slice x.1 x.2.1 x.2.2, .slice y.1 y.2.1 y.2.2, .slice none 0 0] e (0, 0))) : PSteps w 200 (some ⟨g, 0, none⟩) 1 1 [longS] := by
  have k : Box3 e w g (.slice x.1 x.2.1 x.2.2) (.slice y.1 y.2.1 y.2.2) (.slice none 0 0) := ⟨hb⟩
  refine ⟨rfl, Nat.le_refl _, by omega, (fun e => by cases e), fun _ => ⟨g, 0, rfl, k.lt, fun i s hs => ?_⟩⟩
  cases i with
  | zero =>
    simp at hs
    subst hs
    refine ⟨_, _, _, _, _, _, _, _, _, k.cells.1, k.cells.2.1, k.cells.2.2, h.one, ?_, h.sq, ?_, PList.none _ _⟩
    · exact B2_B200 (by show 1 < B32 2; decide)
    · exact Nat.lt_of_lt_of_le (sq63_high 5) (B32_mono (by decide))
  | succ i => simp at hs

/-! Steps laid behind steps. -/
theorem PStep.firm {e : Nat} {s : StepN} {x y z : Option Addr × Nat × Nat} {w : World} (h : PStep e s x y z w) : Firm (PStep e s x y z) (fun g => w.heap.size ≤ g) w := by
  have f1 := natStands.firm h.n (bad := fun g => w.heap.size ≤ g) fun q hq hx => by have := natStands.lt h.n q hq; omega
  have f2 := natStands.firm h.base (bad := fun g => w.heap.size ≤ g) fun q hq hx => by have := natStands.lt h.base q hq; omega
  refine fun w2 a => ⟨f1 w2 a, f2 w2 a, ⟨h.ps.len, h.ps.cap, h.ps.max, h.ps.nil, fun h0 => ?_⟩⟩
  obtain ⟨b, off, h1, h2, h3⟩ := h.ps.at_ h0
  refine ⟨b, off, h1, Nat.lt_of_lt_of_le h2 a.size, fun i N hN => ?_⟩
  obtain ⟨q, m, d, k1, k2, k3⟩ := h3 i N hN
  refine ⟨q, m, d, ?_, natStands.firm k2 (bad := fun g => w.heap.size ≤ g) (fun q hq hx => by have := natStands.lt k2 q hq; omega) w2 a, k3⟩
  rw [World.cell?_of_block (a := ⟨b, off + i, none⟩) (a.block b h2 (by omega))]
  exact k1

theorem add_block (a : Addr) (k : Nat) : (a.add k).block = a.block := by unfold Addr.add; split <;> rfl
/-- Steps that lie somewhere. -/
def Src (bad : Nat → Prop) (w : World) (v : Value) (r : List StepN) : Prop :=
  (v = .slice none 0 0 ∧ r = []) ∨ ∃ a c, v = .slice (some a) r.length c ∧ ∀ (i : Nat) (s : StepN), r[i]? = some s → ∃ x y z : Option Addr × Nat × Nat,
    w.cell? (a.add (i * 3)) = some (.slice x.1 x.2.1 x.2.2) ∧ w.cell? (a.add (i * 3 + 1)) = some (.slice y.1 y.2.1 y.2.2) ∧ w.cell? (a.add (i * 3 + 2)) = some (.slice z.1 z.2.1 z.2.2) ∧ Firm (PStep 2 s x y z) bad w
theorem Src.below {bad : Nat → Prop} {w w' : World} {v : Value} {r : List StepN} (h : Src bad w v r) (hb : Below w.heap.size w w') : Src bad w' v r := by
  rcases h with h | ⟨a, c, h1, h2⟩
  · exact .inl h
  · refine .inr ⟨a, c, h1, fun i s hs => ?_⟩
    obtain ⟨x, y, z, k0, k1, k2, k3⟩ := h2 i s hs
    have hlt : ∀ o, (a.add o).block < w.heap.size := fun o => by
      have := World.block_lt_of_cell? w (a.add (i * 3)) k0
      rw [add_block] at this
      rw [add_block]
      exact this
    have hc : ∀ o, w'.cell? (a.add o) = w.cell? (a.add o) := fun o => hb.cell (p := a.add o) (hlt o)
    exact ⟨x, y, z, by rw [hc]; exact k0, by rw [hc]; exact k1, by rw [hc]; exact k2, k3.step (.of hb)⟩
theorem PSteps.src {w : World} {p : Option Addr} {n c : Nat} {l : List StepN} (h : PSteps w 2 p n c l) : Src (fun g => w.heap.size ≤ g) w (.slice p n c) l := by
  cases p with
  | none =>
    have hc := h.nil rfl
    have := h.cap
    have h0 : n = 0 := by omega
    subst hc h0
    exact .inl ⟨rfl, List.eq_nil_of_length_eq_zero h.len.symm⟩
  | some a =>
    refine .inr ⟨a, c, by rw [← h.len], fun i s hs => ?_⟩
    have hi := (List.getElem?_eq_some_iff.1 hs).1
    obtain ⟨b, off, e, h2, h3⟩ := h.at_ (by rw [h.len]; omega)
    cases e
    obtain ⟨q0, m0, d0, q1, m1, d1, q2, m2, d2, k0, k1, k2, k3, _, k5, _, k7⟩ := h3 i s hs
    exact ⟨(q0, m0, d0), (q1, m1, d1), (q2, m2, d2), by rw [add_plain]; exact k0, by rw [add_plain, ← Nat.add_assoc]; exact k1, by rw [add_plain, ← Nat.add_assoc]; exact k2, PStep.firm ⟨k3, k5, k7⟩⟩
/-- Those from a place on. -/
def backV (p : Option Addr) (m c K : Nat) : Value := .slice (if c = K then p else p.map (·.add (K * 3))) (m - K) (c - K)
theorem PSteps.srcBack {w : World} {p : Option Addr} {n c : Nat} {l : List StepN} (h : PSteps w 2 p n c l) (K : Nat) (hK : K ≤ n) : Src (fun g => w.heap.size ≤ g) w (backV p n c K) (l.drop K) := by
  have hl := h.len
  have hc := h.cap
  unfold backV
  by_cases hcK : c = K
  · rw [if_pos hcK]
    have e : n - K = 0 := by omega
    have e2 : l.drop K = [] := List.drop_eq_nil_of_le (by omega)
    rw [e, e2]
    cases p with
    | none => have := h.nil rfl; exact .inl ⟨by rw [show c - K = 0 by omega], rfl⟩
    | some a => exact .inr ⟨a, c - K, rfl, fun i s hs => by simp at hs⟩
  · rw [if_neg hcK]
    cases p with
    | none => have := h.nil rfl; omega
    | some a =>
      refine .inr ⟨a.add (K * 3), c - K, by rw [List.length_drop, ← hl]; rfl, fun i s hs => ?_⟩
      rw [List.getElem?_drop] at hs
      have hi := (List.getElem?_eq_some_iff.1 hs).1
      obtain ⟨b, off, e, h2, h3⟩ := h.at_ (by omega)
      cases e
      obtain ⟨q0, m0, d0, q1, m1, d1, q2, m2, d2, k0, k1, k2, k3, _, k5, _, k7⟩ := h3 (K + i) s hs
      have ee : ∀ t, ((⟨b, off, none⟩ : Addr).add (K * 3)).add (i * 3 + t) = ⟨b, off + (K + i) * 3 + t, none⟩ := fun t => by rw [add_plain, add_plain]; congr 1; omega
      exact ⟨(q0, m0, d0), (q1, m1, d1), (q2, m2, d2), by rw [show i * 3 = i * 3 + 0 from rfl, ee]; exact k0, by rw [ee]; exact k1, by rw [ee]; exact k2, PStep.firm ⟨k3, k5, k7⟩⟩
theorem slice_frontS {w : World} {p : Option Addr} {m c K : Nat} {l : List StepN} (h : PSteps w 2 p m c l) (hK : K ≤ m) :
    ∀ w', (Instr.sliceAt 26 (.slice p m c) none (some (.int .i64 (K : Int))) none).run Try.prog w' = .ok (.slice p K c) w' := by
  intro w'
  have hel : Try.prog.elem 26 = 52 := by kernel_rfl
  have hu : Try.prog.underlying 26 = some (.slice (Try.prog.elem 26)) := by rw [hel]; exact Try.underlying26
  have hc := h.cap
  rw [run_sliceAt_slice w' 26 _ _ _ _ hu, run_slice_h w' 26 _ _ _ hu .i64 _ (by omega) (by omega)]
  have hs : (sizeOf (Try.prog.elem 26)).run Try.prog w' = .ok 3 w' := by rw [hel]; simp [go_sem]
  rw [hs]
  simp only [Result.andThen_ok, sliced]
  have e : p.map (·.add (0 * 3)) = p := by
    cases p with
    | none => rfl
    | some a => obtain ⟨b, off, sp⟩ := a; simp [Addr.add]
  rw [e]
  simp
theorem slice_backS (p : Option Addr) {m c K : Nat} (hK : K ≤ m) :
    ∀ w', (Instr.sliceAt 26 (.slice p m c) (some (.int .i64 (K : Int))) none none).run Try.prog w' = .ok (backV p m c K) w' := by
  intro w'
  have hel : Try.prog.elem 26 = 52 := by kernel_rfl
  have hu : Try.prog.underlying 26 = some (.slice (Try.prog.elem 26)) := by rw [hel]; exact Try.underlying26
  rw [run_sliceAt_slice w' 26 _ _ _ _ hu, run_slice_l w' 26 _ _ _ hu .i64 _ (by omega) (by omega)]
  have hs : (sizeOf (Try.prog.elem 26)).run Try.prog w' = .ok 3 w' := by rw [hel]; simp [go_sem]
  rw [hs]
  simp [Result.andThen_ok, sliced, backV]

/-- Append a row of steps. -/
theorem OwnT.apps {e : TypeId} {B : Nat} {bad : Nat → Prop} {w : World} {v u : Value} {l r : List StepN} {st : TypeId} {bytes : Nat} {i : TypeInfo} (hu : Try.prog.underlying st = some (.slice e)) (hi : Try.prog.info? e = some i)
    {z0 : Value} (hz : i.zero = some z0) (hs : i.size = 3) (hb : i.bytes = bytes) (hzs : z0.cells.size = 3) (hby : bytes ≤ 1000) (h : OwnT (PStep 2) e B bad w v l) (hB : B ≤ w.heap.size) (hsrc : Src bad w u r)
    (hv : ∀ g, v.ownBlock = some g → bad g) (hl : l.length + r.length ≤ 1000000) (ty : TypeId) {C : Prop}
    (k : ∀ v' w', (Builtin.append_ #[st, st] ty #[v, u]).run Try.prog w = .ok v' w' → OwnT (PStep 2) e B bad w' v' (l ++ r) → w.grownBy w' v.ownBlock → C) : C := by
  have h' := h
  obtain ⟨vs, h1, h2, h3⟩ := h.ex
  rcases hsrc with ⟨rfl, rfl⟩ | ⟨a, c, rfl, hc⟩
  · refine k v w (run_append_owned_none (P := Try.prog) w B st ty e i 3 hu hi v l.length vs h1) (by rw [List.append_nil]; exact h') ⟨rfl, rfl, rfl, Nat.le_refl _, fun _ _ _ => rfl⟩
  · have hnl : ∀ j, j < r.length * 3 → ∃ p n c, w.cell? (a.add j) = some (.slice p n c) := fun j hj => by
      obtain ⟨x, y, z, k0, k1, k2, _⟩ := hc (j / 3) r[j / 3] (List.getElem?_eq_getElem (by omega))
      rcases (by omega : j = j / 3 * 3 ∨ j = j / 3 * 3 + 1 ∨ j = j / 3 * 3 + 2) with hj | hj | hj
      · rw [hj]; exact ⟨_, _, _, k0⟩
      · rw [hj]; exact ⟨_, _, _, k1⟩
      · rw [hj]; exact ⟨_, _, _, k2⟩
    obtain ⟨news, hnews⟩ : ∃ N : List Value, N = (List.range (r.length * 3)).map fun j => (w.cell? (a.add j)).getD undef := ⟨_, rfl⟩
    have hlen : news.length = r.length * 3 := by rw [hnews]; simp
    have hget : ∀ j u, w.cell? (a.add j) = some u → j < r.length * 3 → news[j]? = some u := fun j u hju hj => by
      rw [hnews, List.getElem?_map, List.getElem?_range hj]
      simp [hju]
    have hcell : ∀ j u, news[j]? = some u → w.cell? (a.add j) = some u := fun j u hj => by
      have hjl : j < r.length * 3 := by rw [← hlen]; exact (List.getElem?_eq_some_iff.1 hj).1
      obtain ⟨p, n, c, hp⟩ := hnl j hjl
      rw [hget j _ hp hjl] at hj
      cases hj
      exact hp
    obtain ⟨v', w', k1, k2, k3, _⟩ := run_append_own (P := Try.prog) w B st ty e i z0 3 bytes hu hi hz hs hb hzs (by decide) v l.length vs h1 a r.length c news hlen hcell
      (fun u hu => by
        obtain ⟨j, hj, e'⟩ := List.getElem_of_mem hu
        obtain ⟨p, n, c, hp⟩ := hnl j (by rw [← hlen]; exact hj)
        have := hcell j u (by rw [List.getElem?_eq_getElem hj, e'])
        rw [hp] at this
        cases this
        rfl) (by simp only [maxLen]; omega) (Nat.le_trans (Nat.mul_le_mul hl hby) (by decide)) hB
    have ag : Agree bad w w' := .grown k3 hv
    refine k v' w' k1 ⟨vs ++ news, by rw [List.length_append]; exact k2, by rw [List.length_append, List.length_append, h2, hlen]; omega, fun j M hM => ?_⟩ k3
    rcases Nat.lt_or_ge j l.length with hj | hj
    · rw [List.getElem?_append_left hj] at hM
      obtain ⟨x', y', z', g0, g1, g2, g3⟩ := h3 j M hM
      exact ⟨x', y', z', by rw [List.getElem?_append_left (by omega)]; exact g0, by rw [List.getElem?_append_left (by omega)]; exact g1, by rw [List.getElem?_append_left (by omega)]; exact g2, g3.step ag⟩
    · rw [List.getElem?_append_right hj] at hM
      have hjr := (List.getElem?_eq_some_iff.1 hM).1
      obtain ⟨x, y, z, g0, g1, g2, g3⟩ := hc _ M hM
      exact ⟨x, y, z, by rw [List.getElem?_append_right (by omega), show j * 3 - vs.length = (j - l.length) * 3 by omega]; exact hget _ _ g0 (by omega),
        by rw [List.getElem?_append_right (by omega), show j * 3 + 1 - vs.length = (j - l.length) * 3 + 1 by omega]; exact hget _ _ g1 (by omega),
        by rw [List.getElem?_append_right (by omega), show j * 3 + 2 - vs.length = (j - l.length) * 3 + 2 by omega]; exact hget _ _ g2 (by omega), g3.step ag⟩

theorem Box3.src {e : TypeId} {bad : Nat → Prop} {w : World} {g : Nat} {s : StepN} {x y z : Option Addr × Nat × Nat} (h : Box3 e w g (.slice x.1 x.2.1 x.2.2) (.slice y.1 y.2.1 y.2.2) (.slice z.1 z.2.1 z.2.2)) (hf : Firm (PStep 2 s x y z) bad w) :
    Src bad w (.slice (some ⟨g, 0, none⟩) 1 1) [s] := by
  refine .inr ⟨⟨g, 0, none⟩, 1, rfl, fun i s' hs => ?_⟩
  cases i with
  | zero =>
    simp at hs
    subst hs
    exact ⟨x, y, z, by rw [add_plain]; exact h.cells.1, by rw [add_plain]; exact h.cells.2.1, by rw [add_plain]; exact h.cells.2.2, hf⟩
  | succ i => simp at hs

/-- How the region stands that lays a front, a step and a back in one row. -/
structure LayG (e : TypeId) (w0 : World) (l1 l2 : List StepN) (s : StepN) (x y z : Option Addr × Nat × Nat) (d0 d4 d6 d7 d11 d12 : Bool) (v0 v4 v6 v7 v11 v12 : Value) (w : World) : Prop where
  o4 : d4 = true → d0 = true
  o7 : d7 = true → d4 = true ∧ d6 = true
  o11 : d11 = true → d7 = true
  bel : Below w0.heap.size w0 w
  zero : d0 = true → d4 = false → OwnT (PStep 2) e w0.heap.size (fun g => w0.heap.size ≤ g) w v0 []
  four : d4 = true → d7 = false → OwnT (PStep 2) e w0.heap.size (fun g => w0.heap.size ≤ g) w v4 l1
  six : d6 = true → d7 = false → ∃ g, v6 = .slice (some ⟨g, 0, none⟩) 1 1 ∧ Box3 e w g (.slice x.1 x.2.1 x.2.2) (.slice y.1 y.2.1 y.2.2) (.slice z.1 z.2.1 z.2.2)
  apart : d0 = true → d6 = true → d4 = false → v0.ownBlock ≠ v6.ownBlock
  seven : d7 = true → d11 = false → OwnT (PStep 2) e w0.heap.size (fun g => w0.heap.size ≤ g) w v7 (l1 ++ [s])
  elev : d11 = true → OwnT (PStep 2) e w0.heap.size (fun g => w0.heap.size ≤ g) w v11 (l1 ++ [s] ++ l2)
  twel : d12 = true → v12 = v11
section
variable {e : TypeId} {w0 w : World} {l1 l2 : List StepN} {s : StepN} {x y z : Option Addr × Nat × Nat} {d0 d4 d6 d7 d11 d12 : Bool} {v0 v4 v6 v7 v11 v12 : Value}
theorem LayG.start : LayG e w0 l1 l2 s x y z false false false false false false v0 v4 v6 v7 v11 v12 w0.drew :=
  ⟨(fun h => by cases h), (fun h => by cases h), (fun h => by cases h), (Below.refl _ _).drew, (fun h => by cases h), (fun h => by cases h), (fun h => by cases h), (fun h => by cases h), (fun h => by cases h), (fun h => by cases h), (fun h => by cases h)⟩
theorem LayG.f4 (h : LayG e w0 l1 l2 s x y z false d4 d6 d7 d11 d12 v0 v4 v6 v7 v11 v12 w) : d4 = false := by
  cases d4
  · rfl
  · cases h.o4 rfl
theorem LayG.f7 (h : LayG e w0 l1 l2 s x y z d0 false d6 d7 d11 d12 v0 v4 v6 v7 v11 v12 w) : d7 = false := by
  cases d7
  · rfl
  · cases (h.o7 rfl).1
theorem LayG.f7' (h : LayG e w0 l1 l2 s x y z d0 d4 false d7 d11 d12 v0 v4 v6 v7 v11 v12 w) : d7 = false := by
  cases d7
  · rfl
  · cases (h.o7 rfl).2
theorem LayG.f11 (h : LayG e w0 l1 l2 s x y z d0 d4 d6 false d11 d12 v0 v4 v6 v7 v11 v12 w) : d11 = false := by
  cases d11
  · rfl
  · cases h.o11 rfl
theorem LayG.put0 (h : LayG e w0 l1 l2 s x y z false false d6 false false d12 v0 v4 v6 v7 v11 v12 w) :
    LayG e w0 l1 l2 s x y z true false d6 false false d12 (.slice (some ⟨w.heap.size, 0, none⟩) 0 0) v4 v6 v7 v11 v12 (w.alloc (.cells #[] e)) := by
  have hb : Below w.heap.size w (w.alloc (.cells #[] e)) := (Below.refl _ _).alloc (Nat.le_refl _) _
  refine ⟨(fun _ => rfl), (fun h => by cases h), (fun h => by cases h), bstepS h.bel hb, fun _ _ => ?_, (fun h => by cases h), fun h6 _ => ?_, fun _ h6 _ => ?_, (fun h => by cases h), (fun h => by cases h), h.twel⟩
  · refine ⟨[], ⟨rfl, .inr ⟨w.heap.size, 0, #[], rfl, h.bel.size, heap_alloc_new w _, Nat.le_refl _, by simp [maxLen], rfl, rfl⟩⟩, rfl, fun i s hs => by simp at hs⟩
  · obtain ⟨g, h1, h2⟩ := h.six h6 rfl
    exact ⟨g, h1, h2.below hb h2.lt⟩
  · obtain ⟨g, rfl, h2⟩ := h.six h6 rfl
    intro hx
    have : w.heap.size = g := by simpa [Value.ownBlock] using hx
    have := h2.lt
    omega
theorem LayG.put6 (h : LayG e w0 l1 l2 s x y z d0 d4 false false false d12 v0 v4 v6 v7 v11 v12 w) :
    LayG e w0 l1 l2 s x y z d0 d4 true false false d12 v0 v4 (.slice (some ⟨w.heap.size, 0, none⟩) 1 1) v7 v11 v12 (w.alloc (.cells #[.slice x.1 x.2.1 x.2.2, .slice y.1 y.2.1 y.2.2, .slice z.1 z.2.1 z.2.2] e)) := by
  have hb : Below w.heap.size w (w.alloc (.cells #[.slice x.1 x.2.1 x.2.2, .slice y.1 y.2.1 y.2.2, .slice z.1 z.2.1 z.2.2] e)) := (Below.refl _ _).alloc (Nat.le_refl _) _
  refine ⟨h.o4, (fun h => by cases h), (fun h => by cases h), bstepS h.bel hb, fun h0 h4 => (h.zero h0 h4).below hb, fun h4 _ => (h.four h4 rfl).below hb, fun _ _ => ⟨_, rfl, Box3.made e w _ _ _⟩, fun h0 _ h4 => ?_, (fun h => by cases h), (fun h => by cases h), h.twel⟩
  intro hx
  have := ((h.zero h0 h4).block w.heap.size (by rw [hx]; rfl)).2
  omega
theorem LayG.put4 (h : LayG e w0 l1 l2 s x y z true false d6 false false d12 v0 v4 v6 v7 v11 v12 w) {v' : Value} {w' : World} (ho : OwnT (PStep 2) e w0.heap.size (fun g => w0.heap.size ≤ g) w' v' l1) (hg : w.grownBy w' v0.ownBlock) :
    LayG e w0 l1 l2 s x y z true true d6 false false d12 v0 v' v6 v7 v11 v12 w' := by
  refine ⟨(fun _ => rfl), (fun h => by cases h), (fun h => by cases h), h.bel.grown hg h.bel.size (fun g hx => ((h.zero rfl rfl).block g hx).1), (fun _ h => by cases h), fun _ _ => ho, fun h6 _ => ?_, (fun _ _ h => by cases h), (fun h => by cases h), (fun h => by cases h), h.twel⟩
  obtain ⟨g, h1, h2⟩ := h.six h6 rfl
  refine ⟨g, h1, ⟨?_⟩⟩
  rw [hg.block g h2.lt fun hx => h.apart rfl h6 rfl (by rw [h1, ← hx]; rfl)]
  exact h2.at_
theorem LayG.put7 (h : LayG e w0 l1 l2 s x y z true true true false false d12 v0 v4 v6 v7 v11 v12 w) {v' : Value} {w' : World} (ho : OwnT (PStep 2) e w0.heap.size (fun g => w0.heap.size ≤ g) w' v' (l1 ++ [s])) (hg : w.grownBy w' v4.ownBlock) :
    LayG e w0 l1 l2 s x y z true true true true false d12 v0 v4 v6 v' v11 v12 w' :=
  ⟨(fun _ => rfl), (fun _ => ⟨rfl, rfl⟩), (fun h => by cases h), h.bel.grown hg h.bel.size (fun g hx => ((h.four rfl rfl).block g hx).1), (fun _ h => by cases h), (fun _ h => by cases h), (fun _ h => by cases h), (fun _ _ h => by cases h), fun _ _ => ho, (fun h => by cases h), h.twel⟩
theorem LayG.put11 (h : LayG e w0 l1 l2 s x y z true true true true false false v0 v4 v6 v7 v11 v12 w) {v' : Value} {w' : World} (ho : OwnT (PStep 2) e w0.heap.size (fun g => w0.heap.size ≤ g) w' v' (l1 ++ [s] ++ l2)) (hg : w.grownBy w' v7.ownBlock) :
    LayG e w0 l1 l2 s x y z true true true true true false v0 v4 v6 v7 v' v12 w' :=
  ⟨(fun _ => rfl), (fun _ => ⟨rfl, rfl⟩), (fun _ => rfl), h.bel.grown hg h.bel.size (fun g hx => ((h.seven rfl rfl).block g hx).1), (fun _ h => by cases h), (fun _ h => by cases h), (fun _ h => by cases h), (fun _ _ h => by cases h), (fun _ h => by cases h), fun _ => ho, (fun h => by cases h)⟩
theorem LayG.put12 (h : LayG e w0 l1 l2 s x y z d0 d4 d6 d7 true false v0 v4 v6 v7 v11 v12 w) : LayG e w0 l1 l2 s x y z d0 d4 d6 d7 true true v0 v4 v6 v7 v11 v11 w :=
  ⟨h.o4, h.o7, h.o11, h.bel, h.zero, h.four, h.six, h.apart, h.seven, h.elev, fun _ => rfl⟩
end

end Go.Proofs.Ytceihmiiapnmnaa
