/- A rule for regions that draw their order: an invariant over the set of operations that are done. It speaks of any program. -/
import Derived.Orders
import Derived.WalkKit
namespace Go.Proofs.Ytpodoleopebioaa.Flow
open Go
set_option maxRecDepth 100000

section
variable {P : Program} {ops : Array Oper} {Q : Exit → Act → World → Prop}

/-- Edges point back. -/
def backward (ops : Array Oper) : Bool :=
  (List.range ops.size).all fun i => ((ops[i]?).map fun o => o.after.all fun e => !Region.binds .any e || decide (e.on < i)).getD true

theorem backward_spec (h : backward ops = true) {i : Nat} {o : Oper} (ho : ops[i]? = some o) : ∀ e ∈ o.after, Region.binds .any e = true → e.on < i := by
  intro e he hb
  have hlt : i < ops.size := (Array.getElem?_eq_some_iff.1 ho).1
  have h1 := List.all_eq_true.1 h i (List.mem_range.2 hlt)
  simp only [ho, Option.map_some, Option.getD_some] at h1
  have h2 := (Array.all_eq_true_iff_forall_mem.1 h1) e he
  simpa [hb] using h2

/-- Nothing is ready: all is done. -/
theorem all_listed (hb : backward ops = true) {listed : Array Bool} (hsz : listed.size = ops.size) (hr : Region.ready .any ops listed = []) :
    ∀ i, i < ops.size → listed.getD i false = true := by
  intro i
  induction i using Nat.strongRecOn with
  | _ i ih =>
    intro hi
    cases hl : listed.getD i true with
    | true =>
      have : i < listed.size := by omega
      simp [this] at hl ⊢
      exact hl
    | false =>
      exfalso
      have ho : ops[i]? = some ops[i] := by simp [hi]
      have : i ∈ Region.ready .any ops listed := by
        rw [mem_ready]
        refine ⟨hl, ops[i], ho, fun e he hbd => ?_⟩
        have hlt := backward_spec hb ho e he hbd
        exact ih e.on hlt (by omega)
      rw [hr] at this
      cases this

def undone (listed : Array Bool) : Nat := (listed.toList.filter (fun b => !b)).length

theorem undone_set : ∀ (l : List Bool) (i : Nat), l[i]? = some false → ((l.set i true).filter (fun b => !b)).length + 1 = (l.filter (fun b => !b)).length
  | [], i, h => by simp at h
  | b :: l, 0, h => by
    simp at h; subst h; simp
  | b :: l, i + 1, h => by
    have h' : l[i]? = some false := by simpa using h
    have := undone_set l i h'
    cases b <;> simp [List.set] <;> omega

theorem undone_step {listed : Array Bool} {i : Nat} (h : listed.getD i true = false) : undone (listed.setIfInBounds i true) + 1 = undone listed := by
  have h' : listed.toList[i]? = some false := by
    have hlt : i < listed.size := by
      rcases Nat.lt_or_ge i listed.size with h1 | h1
      · exact h1
      · simp [Array.getElem?_eq_none h1] at h
    simp [hlt] at h ⊢
    exact h
  unfold undone
  rw [Array.toList_setIfInBounds]
  exact undone_set _ _ h'

/-- THE RULE, bare. -/
theorem wpAny_inv (hb : backward ops = true) (Inv : Array Bool → Act → World → Prop)
    (step : ∀ listed a w i o, ops[i]? = some o → listed.getD i true = false → (∀ e ∈ o.after, Region.binds .any e = true → listed.getD e.on false = true) → Inv listed a w →
      wpOp P ops Q i (Inv (listed.setIfInBounds i true)) a w)
    (done : ∀ listed a w, (∀ i, i < ops.size → listed.getD i false = true) → Inv listed a w → Q .normal a w) :
    ∀ (fuel : Nat) (listed : Array Bool) (a : Act) (w : World), listed.size = ops.size → undone listed ≤ fuel → Inv listed a w → wpAny P .any ops Q fuel listed a w := by
  intro fuel
  induction fuel with
  | zero =>
    intro listed a w hsz hu hi
    have hr : Region.ready .any ops listed = [] := by
      cases hrr : Region.ready .any ops listed with
      | nil => rfl
      | cons x xs =>
        have hx : x ∈ Region.ready .any ops listed := by rw [hrr]; simp
        have := undone_step (mem_ready.1 hx).1
        omega
    exact ⟨hr, done _ _ _ (all_listed hb hsz hr) hi⟩
  | succ fuel ih =>
    intro listed a w hsz hu hi
    refine ⟨fun hr => done _ _ _ (all_listed hb hsz hr) hi, fun i hm => ?_⟩
    obtain ⟨h0, o, ho, hall⟩ := mem_ready.1 hm
    refine wpOp_mono (fun a' w' h => ih _ a' w' (by simpa using hsz) (by have := undone_step h0; omega) h) (step listed a w i o ho h0 hall hi)

/-- What one operation gives. -/
def Oper.gives (P : Program) (o : Oper) (a : Act) (w : World) (R : Value → World → Prop) : Prop :=
  match (execOp a.eval o).run P w with
  | .ok (.value v) w' => R v w'
  | .ok .skip w' => R undef w'
  | .ok (.enter f args) w' => Calls P f args w' fun e w'' => ∃ v, e = .returned v ∧ R v w''
  | _ => False

theorem Oper.wp_of_gives {o : Oper} {a : Act} {w : World} {R : Value → World → Prop} {K : Act → World → Prop}
    (h : Oper.gives P o a w R) (hk : ∀ v w', R v w' → K (a.put o.dst v) w') : o.wp P a w K Q := by
  unfold Oper.gives at h
  unfold Oper.wp
  generalize (execOp a.eval o).run P w = r at *
  cases r with
  | ok n w' =>
    cases n <;> simp only [Oper.upon] at h ⊢
    case value u => exact hk _ _ h
    case skip => exact hk _ _ h
    case enter f args =>
      refine Calls.mono h fun e w'' he => ?_
      obtain ⟨v, he, hv⟩ := he
      subst he
      exact hk _ _ hv
  | halt x w' => simp at h

theorem Oper.gives_mono {o : Oper} {a : Act} {w : World} {R R' : Value → World → Prop} (h : Oper.gives P o a w R) (hk : ∀ v w', R v w' → R' v w') : Oper.gives P o a w R' := by
  unfold Oper.gives at *
  generalize (execOp a.eval o).run P w = r at *
  cases r with
  | ok n w' =>
    cases n <;> simp only at h ⊢
    case value u => exact hk _ _ h
    case skip => exact hk _ _ h
    case enter f args => exact Calls.mono h fun e w'' ⟨v, he, hv⟩ => ⟨v, he, hk _ _ hv⟩
  | halt x w' => simp at h

/-- a frame: what the slots hold. -/
def Act.get (a : Act) (t : Nat) : Value := a.tmps.getD t undef

/-- No two operations write one slot. -/
def dstsApart (ops : Array Oper) : Bool :=
  (List.range ops.size).all fun i => (List.range ops.size).all fun j => decide (i = j) || match (ops[i]?).bind (·.dst), (ops[j]?).bind (·.dst) with
    | some d, some e => decide (d ≠ e)
    | _, _ => true

theorem dstsApart_spec (h : dstsApart ops = true) {i j : Nat} {d : Tmp} (hi : (ops[i]?).bind (·.dst) = some d) (hj : (ops[j]?).bind (·.dst) = some d) : i = j := by
  have hlt : ∀ k, (ops[k]?).bind (·.dst) = some d → k < ops.size := by
    intro k hk
    rcases Nat.lt_or_ge k ops.size with h1 | h1
    · exact h1
    · simp [Array.getElem?_eq_none h1] at hk
  have h1 := List.all_eq_true.1 (List.all_eq_true.1 h i (List.mem_range.2 (hlt i hi))) j (List.mem_range.2 (hlt j hj))
  simp only [hi, hj] at h1
  simpa using h1

/-- The slots' values once the operations of 'D' are done: 'vals i' in the slot of operation i. -/
def puts (ops : Array Oper) (vals : Nat → Value) : List Nat → Act → Act
  | [], a => a
  | i :: l, a => puts ops vals l (a.put ((ops[i]?).bind (·.dst)) (vals i))

structure At (ops : Array Oper) (a0 : Act) (D : Nat → Bool) (vals : Nat → Value) (a : Act) : Prop where
  defers : a.defers = a0.defers
  size : a.tmps.size = a0.tmps.size
  old : ∀ t, (∀ i, D i = true → (ops[i]?).bind (·.dst) ≠ some t) → a.tmps[t]? = a0.tmps[t]?
  new : ∀ i t, D i = true → (ops[i]?).bind (·.dst) = some t → t < a0.tmps.size → a.tmps[t]? = some (vals i)

theorem put_size (a : Act) (d : Option Tmp) (v : Value) : (a.put d v).tmps.size = a.tmps.size := by cases d <;> simp [Act.put]
theorem put_defers (a : Act) (d : Option Tmp) (v : Value) : (a.put d v).defers = a.defers := by cases d <;> rfl
theorem put_get_ne (a : Act) (d : Option Tmp) (v : Value) (t : Nat) (h : d ≠ some t) : (a.put d v).tmps[t]? = a.tmps[t]? := by
  cases d with
  | none => rfl
  | some x =>
    have : x ≠ t := fun e => h (by rw [e])
    simp [Act.put, Array.getElem?_setIfInBounds_ne this]
theorem put_get_eq (a : Act) (v : Value) (t : Nat) (h : t < a.tmps.size) : (a.put (some t) v).tmps[t]? = some v := by
  simp [Act.put, h]

theorem At.step (hd : dstsApart ops = true) {a0 a : Act} {D : Nat → Bool} {vals : Nat → Value} (h : At ops a0 D vals a) {i : Nat} (hi : D i = false) (v : Value) :
    At ops a0 (fun j => D j || decide (j = i)) (fun j => if j = i then v else vals j) (a.put ((ops[i]?).bind (·.dst)) v) where
  defers := by rw [put_defers]; exact h.defers
  size := by rw [put_size]; exact h.size
  old := by
    intro t ht
    rw [put_get_ne _ _ _ _ (fun e => ht i (by simp) e)]
    exact h.old t fun j hj => ht j (by simp [hj])
  new := by
    intro j t hj hjt hlt
    by_cases hji : j = i
    · subst hji
      rw [hjt, put_get_eq _ _ _ (by rw [h.size]; exact hlt)]
      simp
    · have hDj : D j = true := by simpa [hji] using hj
      rw [put_get_ne _ _ _ _ (fun e => hji (dstsApart_spec hd hjt e))]
      rw [h.new j t hDj hjt hlt]
      simp [hji]

theorem puts_spec (hd : dstsApart ops = true) (vals : Nat → Value) : ∀ (l : List Nat) (D : Nat → Bool) (a0 a : Act), At ops a0 D vals a → l.Nodup → (∀ i ∈ l, D i = false) →
    At ops a0 (fun j => D j || decide (j ∈ l)) vals (puts ops vals l a)
  | [], D, a0, a, h, _, _ => by simpa [puts] using h
  | i :: l, D, a0, a, h, hn, hl => by
    have h1 := h.step hd (hl i (by simp)) (vals i)
    have e : (fun j => if j = i then vals i else vals j) = vals := by funext j; by_cases hj : j = i <;> simp [hj]
    rw [e] at h1
    have hn' := List.nodup_cons.1 hn
    have h2 := puts_spec hd vals l (fun j => D j || decide (j = i)) a0 _ h1 hn'.2 (fun j hj => by
      have : j ≠ i := fun e => hn'.1 (e ▸ hj)
      simp [hl j (by simp [hj]), this])
    have e2 : (fun j => (D j || decide (j = i)) || decide (j ∈ l)) = (fun j => D j || decide (j ∈ i :: l)) := by
      funext j; simp [Bool.or_assoc]
    rw [e2] at h2
    exact h2

theorem At.unique {a0 a b : Act} {D : Nat → Bool} {vals : Nat → Value} (h : At ops a0 D vals a) (k : At ops a0 D vals b) : a = b := by
  have h1 : a.tmps = b.tmps := by
    apply Array.ext_getElem?
    intro t
    by_cases ht : ∃ i, D i = true ∧ (ops[i]?).bind (·.dst) = some t
    · obtain ⟨i, hi, hit⟩ := ht
      by_cases hlt : t < a0.tmps.size
      · rw [h.new i t hi hit hlt, k.new i t hi hit hlt]
      · rw [Array.getElem?_eq_none (by rw [h.size]; omega), Array.getElem?_eq_none (by rw [k.size]; omega)]
    · rw [h.old t fun i hi e => ht ⟨i, hi, e⟩, k.old t fun i hi e => ht ⟨i, hi, e⟩]
  have h2 : a.defers = b.defers := by rw [h.defers, k.defers]
  cases a; cases b; simp_all

/-- THE RULE. 'G': what holds of the world when the operations of D are done; 'F i v w': what holds of operation i's value from then on; 'R': how the world may go on. -/
theorem wp_region_flow {id : Nat} {a0 : Act} {w0 : World} (hm : P.follows .mixedOrders = true) (hb : backward ops = true) (hd : dstsApart ops = true)
    (R : World → World → Prop) (G : (Nat → Bool) → World → Prop) (F : Nat → Value → World → Prop)
    (hF : ∀ i v w w', F i v w → R w w' → F i v w')
    (h0 : G (fun _ => false) { w0 with drawn := w0.drawn + 1 })
    (step : ∀ i o, ops[i]? = some o → ∀ (D : Nat → Bool) (vals : Nat → Value) (a : Act) (w : World), At ops a0 D vals a → D i = false →
      (∀ e ∈ o.after, Region.binds .any e = true → D e.on = true) → (∀ j, D j = true → F j (vals j) w) → G D w →
      if Region.wanted o (yielded ops a.tmps) then Oper.gives P o a w fun v w' => R w w' ∧ F i v w' ∧ G (fun j => D j || decide (j = i)) w'
      else R w w ∧ F i undef w ∧ G (fun j => D j || decide (j = i)) w)
    (done : ∀ (vals : Nat → Value) (w : World), (∀ j, j < ops.size → F j (vals j) w) → G (fun j => decide (j < ops.size)) w →
      Q .normal (puts ops vals (List.range ops.size) a0) w) : (Code.region id ops true).wp P Q a0 w0 := by
  refine wp_region_any hm ?_
  let Inv : Array Bool → Act → World → Prop := fun listed a w => listed.size = ops.size ∧ ∃ vals, At ops a0 (fun j => listed.getD j false) vals a ∧
    (∀ j, listed.getD j false = true → F j (vals j) w) ∧ G (fun j => listed.getD j false) w
  have hset : ∀ (listed : Array Bool) (i : Nat), i < listed.size → (fun j => (listed.setIfInBounds i true).getD j false) = (fun j => listed.getD j false || decide (j = i)) := by
    intro listed i hi
    funext j
    by_cases hji : j = i
    · subst hji; simp [hi]
    · rw [getD_set_ne false (Ne.symm hji)]; simp [hji]
  refine wpAny_inv hb Inv ?_ ?_ _ _ _ _ (by simp) ?_ ?_
  · intro listed a w i o ho hl hall ⟨hsz, vals, hat, hf, hg⟩
    have hilt : i < ops.size := (Array.getElem?_eq_some_iff.1 ho).1
    have hil : i < listed.size := by omega
    have hDi : listed.getD i false = false := by simp [hil] at hl ⊢; exact hl
    have hs := step i o ho (fun j => listed.getD j false) vals a w hat hDi hall hf hg
    have fin : ∀ v w', R w w' → F i v w' → G (fun j => listed.getD j false || decide (j = i)) w' → Inv (listed.setIfInBounds i true) (a.put o.dst v) w' := by
      intro v w' hr hfi hg'
      refine ⟨by simpa using hsz, fun j => if j = i then v else vals j, ?_, ?_, ?_⟩
      · rw [hset listed i hil]
        have := hat.step hd hDi v
        rw [ho] at this
        exact this
      · intro j hj
        by_cases hji : j = i
        · subst hji; simpa using hfi
        · rw [getD_set_ne false (Ne.symm hji)] at hj
          simp only [hji, if_false]
          exact hF _ _ _ _ (hf j hj) hr
      · rw [hset listed i hil]; exact hg'
    unfold wpOp
    simp only [ho]
    split
    · rename_i hw
      rw [if_pos hw] at hs
      exact .inl (Oper.wp_of_gives hs fun v w' ⟨h1, h2, h3⟩ => fin v w' h1 h2 h3)
    · rename_i hw
      rw [if_neg hw] at hs
      exact fin undef w hs.1 hs.2.1 hs.2.2
  · intro listed a w hall ⟨hsz, vals, hat, hf, hg⟩
    have e : (fun j => listed.getD j false) = (fun j => decide (j < ops.size)) := by
      funext j
      by_cases hj : j < ops.size
      · simp only [hall j hj]; simp [hj]
      · have : ¬ j < listed.size := by omega
        simp [this, hj]
    rw [e] at hat hg
    have h1 : At ops a0 (fun _ => false) vals a0 := ⟨rfl, rfl, fun _ _ => rfl, fun _ _ h => by simp at h⟩
    have h2 := puts_spec hd vals (List.range ops.size) _ a0 a0 h1 List.nodup_range (fun _ _ => rfl)
    have e2 : (fun j => false || decide (j ∈ List.range ops.size)) = (fun j => decide (j < ops.size)) := by funext j; simp [List.mem_range]
    rw [e2] at h2
    rw [hat.unique h2]
    exact done vals w (fun j hj => hf j (hall j hj)) hg
  · unfold undone
    refine Nat.le_trans (List.length_filter_le _ _) ?_
    simp
  · refine ⟨by simp, fun _ => undef, ?_, ?_, ?_⟩
    · exact ⟨rfl, rfl, fun _ _ => rfl, fun i t h => by simp [Array.getElem?_replicate] at h; split at h <;> simp at h⟩
    · intro j hj
      simp [Array.getElem?_replicate] at hj
      split at hj <;> simp at hj
    · have e : (fun j => (Array.replicate ops.size false).getD j false) = (fun _ => false) := by
        funext j; simp [Array.getElem?_replicate]; split <;> simp
      rw [e]; exact h0


/-! ### The rule with the plain operations' values written out -/

/-- An operand, or a guard, that another operation of the region writes: that one comes before (and is waited for), or comes behind (and waits). -/
def usesOk (ops : Array Oper) : Bool :=
  (List.range ops.size).all fun i => ((ops[i]?).map fun o => (o.looksAt ops).all fun t => (List.range ops.size).all fun j =>
    (ops[j]?).bind (·.dst) != some t || (decide (j < i) && o.after.any fun e => Region.binds .any e && e.on == j) || decide (i = j) ||
      (decide (i < j) && ((ops[j]?).map fun p => p.after.any fun e => Region.binds .any e && e.on == i).getD false)).getD true

theorem usesOk_spec (h : usesOk ops = true) {i j : Nat} {o : Oper} {t : Nat} (ho : ops[i]? = some o) (ht : t ∈ o.looksAt ops) (hj : (ops[j]?).bind (·.dst) = some t) :
    (j < i ∧ ∃ e ∈ o.after, Region.binds .any e = true ∧ e.on = j) ∨ i = j ∨ (i < j ∧ ∃ p, ops[j]? = some p ∧ ∃ e ∈ p.after, Region.binds .any e = true ∧ e.on = i) := by
  have hlt : i < ops.size := (Array.getElem?_eq_some_iff.1 ho).1
  have hjlt : j < ops.size := by
    rcases Nat.lt_or_ge j ops.size with h1 | h1
    · exact h1
    · simp [Array.getElem?_eq_none h1] at hj
  have h1 := List.all_eq_true.1 h i (List.mem_range.2 hlt)
  simp only [ho, Option.map_some, Option.getD_some] at h1
  have h2 := List.all_eq_true.1 (List.all_eq_true.1 h1 t ht) j (List.mem_range.2 hjlt)
  simp only [hj, bne_self_eq_false, Bool.false_or, Bool.or_eq_true, Bool.and_eq_true, decide_eq_true_eq] at h2
  rcases h2 with (⟨h3, h4⟩ | h3) | ⟨h3, h4⟩
  · left
    obtain ⟨e, he, hb⟩ := Array.any_eq_true'.1 h4
    simp only [Bool.and_eq_true, beq_iff_eq] at hb
    exact ⟨h3, e, he, hb.1, hb.2⟩
  · exact .inr (.inl h3)
  · right; right
    refine ⟨h3, ops[j], by simp [hjlt], ?_⟩
    simp only [show ops[j]? = some ops[j] by simp [hjlt], Option.map_some, Option.getD_some] at h4
    obtain ⟨e, he, hb⟩ := Array.any_eq_true'.1 h4
    simp only [Bool.and_eq_true, beq_iff_eq] at hb
    exact ⟨e, he, hb.1, hb.2⟩

theorem eval_of_get {a b : Act} {t : Nat} (h : a.tmps[t]? = b.tmps[t]?) : a.eval (.tmp t) = b.eval (.tmp t) := by
  simp only [Act.eval, Array.getD_eq_getD_getElem?, h]

/-- What an operation reads is the same in the frame at hand and in the frame of those that stand ahead of it. -/
theorem reads_same (hu : usesOk ops = true) (hd : dstsApart ops = true) {a0 a : Act} {D : Nat → Bool} {vals : Nat → Value} (h : At ops a0 D vals a)
    (hcl : ∀ j o, D j = true → ops[j]? = some o → ∀ e ∈ o.after, Region.binds .any e = true → D e.on = true) {i : Nat} {o : Oper} (ho : ops[i]? = some o) (hDi : D i = false)
    (hdeps : ∀ e ∈ o.after, Region.binds .any e = true → D e.on = true) : ∀ t ∈ o.looksAt ops, a.tmps[t]? = (puts ops vals (List.range i) a0).tmps[t]? := by
  have hi : i < ops.size := (Array.getElem?_eq_some_iff.1 ho).1
  have h1 : At ops a0 (fun _ => false) vals a0 := ⟨rfl, rfl, fun _ _ => rfl, fun _ _ h => by simp at h⟩
  have h2 := puts_spec hd vals (List.range i) _ a0 a0 h1 List.nodup_range (fun _ _ => rfl)
  intro t ht
  by_cases hex : ∃ j : Nat, (ops[j]?).bind (·.dst) = some t
  · obtain ⟨j, hj⟩ := hex
    have huq : ∀ k, (ops[k]?).bind (·.dst) = some t → k = j := fun k hk => dstsApart_spec hd hk hj
    rcases usesOk_spec hu ho ht hj with ⟨hlt, e, he, hb, heq⟩ | h3 | ⟨hlt, p, hp, e, he, hb, heq⟩
    · have hDj : D j = true := heq ▸ hdeps e he hb
      by_cases hts : t < a0.tmps.size
      · rw [h.new j t hDj hj hts, h2.new j t (by simp [List.mem_range, hlt]) hj hts]
      · rw [Array.getElem?_eq_none (by rw [h.size]; exact Nat.le_of_not_lt hts), Array.getElem?_eq_none (by rw [h2.size]; exact Nat.le_of_not_lt hts)]
    · subst h3
      rw [h.old t (fun k hk e => by rw [huq k e, hDi] at hk; cases hk), h2.old t (fun k hk e => by rw [huq k e] at hk; simp at hk)]
    · have hDj : D j = false := by
        cases hDj : D j with
        | false => rfl
        | true => have := hcl j p hDj hp e he hb; rw [heq, hDi] at this; cases this
      rw [h.old t (fun k hk e => by rw [huq k e, hDj] at hk; cases hk), h2.old t (fun k hk e => by rw [huq k e] at hk; simp at hk; omega)]
  · rw [h.old t fun k _ e => hex ⟨k, e⟩, h2.old t fun k _ e => hex ⟨k, e⟩]

theorem execOp_same {a b : Act} (o : Oper) (hs : ∀ cs d, o.op ≠ .select cs d) (h : ∀ t ∈ o.looksAt ops, a.tmps[t]? = b.tmps[t]?) : execOp a.eval o = execOp b.eval o :=
  execOp_congr o hs fun x hx => by
    cases x with
    | tmp t => exact eval_of_get (h t (List.mem_append_left _ (List.mem_filterMap.2 ⟨.tmp t, by simpa using hx, rfl⟩)))
    | _ => rfl

theorem wanted_same {a b : Act} (o : Oper) (h : ∀ t ∈ o.looksAt ops, a.tmps[t]? = b.tmps[t]?) : Region.wanted o (yielded ops a.tmps) = Region.wanted o (yielded ops b.tmps) := by
  unfold Region.wanted
  cases hg : o.guard with
  | none => rfl
  | some gw =>
    obtain ⟨g, want⟩ := gw
    have : yielded ops a.tmps g = yielded ops b.tmps g := by
      unfold yielded
      cases ht : (ops[g]?).bind (·.dst) with
      | none => rfl
      | some t =>
        have := h t (by simp [Oper.looksAt, hg, ht])
        simp only [Option.bind_some, this]
    simp only [this]

/-- What is asked of operation i, in the frame of those that stand ahead of it. -/
def asked (P : Program) (o : Oper) (ops : Array Oper) (a : Act) (w : World) (K : Value → World → Prop) : Prop :=
  if Region.wanted o (yielded ops a.tmps) then Oper.gives P o a w K else K undef w

theorem asked_mono {P : Program} {o : Oper} {ops : Array Oper} {a : Act} {w : World} {K K' : Value → World → Prop} (h : asked P o ops a w K) (hk : ∀ v w', K v w' → K' v w') : asked P o ops a w K' := by
  unfold asked at *
  split
  · rename_i hw; rw [if_pos hw] at h; exact Oper.gives_mono h hk
  · rename_i hw; rw [if_neg hw] at h; exact hk _ _ h

/-- The values: those written out, and the others. -/
def mix (V : Nat → Option Value) (sp : Nat → Value) (j : Nat) : Value := (V j).getD (sp j)

/-- THE RULE. 'V': the plain operations' values, written out: they leave the world alone. 'G', 'F', 'R': as in the bare rule, for the others. -/
theorem wp_region_plan {id : Nat} {a0 : Act} {w0 : World} (hm : P.follows .mixedOrders = true) (hb : backward ops = true) (hd : dstsApart ops = true) (hu : usesOk ops = true) (hs : Region.noSelect ops = true)
    (V : Nat → Option Value) (R : World → World → Prop) (G : (Nat → Bool) → World → Prop) (F : Nat → Value → World → Prop)
    (hF : ∀ i v w w', V i = none → F i v w → R w w' → F i v w')
    (h0 : G (fun _ => false) { w0 with drawn := w0.drawn + 1 })
    (plain : ∀ i o, ops[i]? = some o → ∀ v, V i = some v → ∀ (D : Nat → Bool) (sp : Nat → Value) (w : World), D i = false →
      (∀ j p, ops[j]? = some p → (∃ e ∈ p.after, Region.binds .any e = true ∧ e.on = i) → D j = false) →
      (∀ e ∈ o.after, Region.binds .any e = true → V e.on = none → D e.on = true) → (∀ j, D j = true → F j (sp j) w) → G D w →
      asked P o ops (puts ops (mix V sp) (List.range i) a0) w fun u w' => u = v ∧ w' = w)
    (special : ∀ i o, ops[i]? = some o → V i = none → ∀ (D : Nat → Bool) (sp : Nat → Value) (w : World), D i = false →
      (∀ j p, ops[j]? = some p → (∃ e ∈ p.after, Region.binds .any e = true ∧ e.on = i) → D j = false) →
      (∀ e ∈ o.after, Region.binds .any e = true → V e.on = none → D e.on = true) → (∀ j, D j = true → F j (sp j) w) → G D w →
      asked P o ops (puts ops (mix V sp) (List.range i) a0) w fun u w' => R w w' ∧ F i u w' ∧ G (fun j => D j || decide (j = i)) w')
    (done : ∀ (sp : Nat → Value) (w : World), (∀ j, j < ops.size → V j = none → F j (sp j) w) → G (fun j => decide (j < ops.size) && (V j).isNone) w →
      Q .normal (puts ops (mix V sp) (List.range ops.size) a0) w) : (Code.region id ops true).wp P Q a0 w0 := by
  refine wp_region_any hm ?_
  let D' : Array Bool → Nat → Bool := fun listed j => listed.getD j false && (V j).isNone
  let Inv : Array Bool → Act → World → Prop := fun listed a w => listed.size = ops.size ∧ (∀ j o, listed.getD j false = true → ops[j]? = some o → ∀ e ∈ o.after, Region.binds .any e = true → listed.getD e.on false = true) ∧
    ∃ sp, At ops a0 (fun j => listed.getD j false) (mix V sp) a ∧ (∀ j, D' listed j = true → F j (sp j) w) ∧ G (D' listed) w
  have hset : ∀ (listed : Array Bool) (i : Nat), i < listed.size → (fun j => (listed.setIfInBounds i true).getD j false) = (fun j => listed.getD j false || decide (j = i)) := by
    intro listed i hi
    funext j
    by_cases hji : j = i
    · subst hji; simp [hi]
    · rw [getD_set_ne false (Ne.symm hji)]; simp [hji]
  refine wpAny_inv hb Inv ?_ ?_ _ _ _ _ (by simp) ?_ ?_
  · intro listed a w i o ho hl hall ⟨hsz, hcl, sp, hat, hf, hg⟩
    have hilt : i < ops.size := (Array.getElem?_eq_some_iff.1 ho).1
    have hil : i < listed.size := by omega
    have hDi : listed.getD i false = false := by simp [hil] at hl ⊢; exact hl
    have hsel := Region.noSelect_spec hs i o
    have hrd := reads_same hu hd hat hcl ho hDi hall
    have hex := execOp_same (ops := ops) o (fun cs d => hsel cs d ho) hrd
    have hwt := wanted_same (ops := ops) o hrd
    have hcl' : ∀ j p, (listed.setIfInBounds i true).getD j false = true → ops[j]? = some p → ∀ e ∈ p.after, Region.binds .any e = true → (listed.setIfInBounds i true).getD e.on false = true := by
      intro j p hj hp e he hbd
      refine getD_set_true ?_
      by_cases hji : j = i
      · subst hji; rw [ho] at hp; cases hp; exact hall e he hbd
      · rw [getD_set_ne false (Ne.symm hji)] at hj; exact hcl j p hj hp e he hbd
    have hdeps : ∀ e ∈ o.after, Region.binds .any e = true → V e.on = none → D' listed e.on = true := fun e he hbd hv => by
      simp only [D', hall e he hbd, hv]; rfl
    have hD'i : D' listed i = false := by simp only [D', hDi]; rfl
    have hwait : ∀ j p, ops[j]? = some p → (∃ e ∈ p.after, Region.binds .any e = true ∧ e.on = i) → D' listed j = false := by
      intro j p hp ⟨e, he, hbd, hei⟩
      cases hj : listed.getD j false with
      | false => simp only [D', hj]; rfl
      | true => have := hcl j p hj hp e he hbd; rw [hei, hDi] at this; cases this
    have atput : ∀ v, At ops a0 (fun j => (listed.setIfInBounds i true).getD j false) (fun j => if j = i then v else mix V sp j) (a.put o.dst v) := by
      intro v
      rw [hset listed i hil]
      have := hat.step hd hDi v
      rw [ho] at this
      exact this
    -- the next state
    have fin : ∀ v w', (V i = some v → w' = w) → (V i = none → R w w' ∧ F i v w' ∧ G (fun j => D' listed j || decide (j = i)) w') → (∀ u, V i = some u → u = v) → Inv (listed.setIfInBounds i true) (a.put o.dst v) w' := by
      intro v w' hp hsn hvu
      refine ⟨by simpa using hsz, hcl', fun j => if j = i then v else sp j, ?_, ?_, ?_⟩
      · have e : mix V (fun j => if j = i then v else sp j) = (fun j => if j = i then v else mix V sp j) := by
          funext j
          by_cases hji : j = i
          · subst hji
            cases hV : V j with
            | none => simp [mix, hV]
            | some u => simp [mix, hV, hvu u hV]
          · simp [mix, hji]
        rw [e]; exact atput v
      · intro j hj
        by_cases hji : j = i
        · subst hji
          have hV : V j = none := by simp only [D', Bool.and_eq_true, Option.isNone_iff_eq_none] at hj; exact hj.2
          simpa using (hsn hV).2.1
        · simp only [D', getD_set_ne false (Ne.symm hji)] at hj
          simp only [hji, if_false]
          have hVj : V j = none := by simp only [Bool.and_eq_true, Option.isNone_iff_eq_none] at hj; exact hj.2
          have h1 := hf j hj
          cases hV : V i with
          | none => exact hF _ _ _ _ hVj h1 (hsn hV).1
          | some u => rw [hp (by rw [hV, hvu u hV])]; exact h1
      · cases hV : V i with
        | none =>
          have e : D' (listed.setIfInBounds i true) = (fun j => D' listed j || decide (j = i)) := by
            funext j
            by_cases hji : j = i
            · subst hji; simp [D', hV, hil]
            · simp only [D', getD_set_ne false (Ne.symm hji)]; simp [hji]
          rw [e]; exact (hsn hV).2.2
        | some u =>
          have e : D' (listed.setIfInBounds i true) = D' listed := by
            funext j
            by_cases hji : j = i
            · subst hji; simp [D', hV]
            · simp only [D', getD_set_ne false (Ne.symm hji)]
          rw [e, hp (by rw [hV, hvu u hV])]; exact hg
    have asked' : ∀ K : Value → World → Prop, asked P o ops (puts ops (mix V sp) (List.range i) a0) w K → (∀ v w', K v w' → Inv (listed.setIfInBounds i true) (a.put o.dst v) w') → wpOp P ops Q i (Inv (listed.setIfInBounds i true)) a w := by
      intro K hk hn
      unfold asked at hk
      rw [← hwt] at hk
      unfold wpOp
      simp only [ho]
      split
      · rename_i hw
        rw [if_pos hw] at hk
        unfold Oper.gives at hk
        rw [← hex] at hk
        exact .inl (Oper.wp_of_gives (R := K) hk hn)
      · rename_i hw
        rw [if_neg hw] at hk
        exact hn _ _ hk
    cases hV : V i with
    | none =>
      exact asked' _ (special i o ho hV (D' listed) sp w hD'i hwait hdeps hf hg) fun v w' h => fin v w' (fun e => by rw [hV] at e; cases e) (fun _ => h) (fun u e => by rw [hV] at e; cases e)
    | some v =>
      exact asked' _ (plain i o ho v hV (D' listed) sp w hD'i hwait hdeps hf hg) fun u w' h => fin u w' (fun _ => h.2) (fun e => by rw [hV] at e; cases e) (fun u' e => by rw [hV] at e; cases e; exact h.1.symm)
  · intro listed a w hall ⟨hsz, _, sp, hat, hf, hg⟩
    have e : (fun j => listed.getD j false) = (fun j => decide (j < ops.size)) := by
      funext j
      by_cases hj : j < ops.size
      · simp only [hall j hj]; simp [hj]
      · have : ¬ j < listed.size := by omega
        simp [this, hj]
    have eD : D' listed = (fun j => decide (j < ops.size) && (V j).isNone) := by
      funext j
      have := congrFun e j
      simp only [D', this]
    rw [e] at hat
    rw [eD] at hg
    have h1 : At ops a0 (fun _ => false) (mix V sp) a0 := ⟨rfl, rfl, fun _ _ => rfl, fun _ _ h => by simp at h⟩
    have h2 := puts_spec hd (mix V sp) (List.range ops.size) _ a0 a0 h1 List.nodup_range (fun _ _ => rfl)
    have e2 : (fun j => false || decide (j ∈ List.range ops.size)) = (fun j => decide (j < ops.size)) := by funext j; simp [List.mem_range]
    rw [e2] at h2
    rw [hat.unique h2]
    exact done sp w (fun j hj hV => hf j (by simp only [eD, hV]; simp [hj])) hg
  · unfold undone
    refine Nat.le_trans (List.length_filter_le _ _) ?_
    simp
  · have e : ∀ j, (Array.replicate ops.size false).getD j false = false := by
      intro j; simp [Array.getElem?_replicate]; split <;> simp
    refine ⟨by simp, ?_, fun _ => undef, ?_, ?_, ?_⟩
    · intro j o hj; rw [e j] at hj; cases hj
    · exact ⟨rfl, rfl, fun _ _ => rfl, fun i t h => by simp only [e i] at h; cases h⟩
    · intro j hj; simp only [D', e j] at hj; cases hj
    · have e2 : D' (Array.replicate ops.size false) = (fun _ => false) := by funext j; simp only [D', e j]; rfl
      rw [e2]; exact h0



/-! ### The rule, its duties laid out operation by operation -/

/-- The operations of the region, not written out, whose value this one waits for. -/
def depsOf (ms : List Bool) (o : Oper) : List Nat := (o.after.toList.filter fun e => Region.binds .any e && ms.getD e.on false).map (·.on)

/-- The operations that wait for operation k. -/
def waitersOf (ops : Array Oper) (k : Nat) : List Nat := (List.range ops.size).filter fun j => ((ops[j]?).map fun p => p.after.any fun e => Region.binds .any e && e.on == k).getD false

theorem mem_waitersOf {ops : Array Oper} {k j : Nat} (h : j ∈ waitersOf ops k) : ∃ p, ops[j]? = some p ∧ ∃ e ∈ p.after, Region.binds .any e = true ∧ e.on = k := by
  simp only [waitersOf, List.mem_filter, List.mem_range] at h
  obtain ⟨hj, h⟩ := h
  have ho : ops[j]? = some ops[j] := by simp [hj]
  rw [ho] at h
  simp only [Option.map_some, Option.getD_some] at h
  obtain ⟨e, he, hb⟩ := Array.any_eq_true'.1 h
  simp only [Bool.and_eq_true, beq_iff_eq] at hb
  exact ⟨_, ho, e, he, hb.1, hb.2⟩

/-- One duty for each operation, in the text's order: 'some v': a plain one; 'none': another one. 'fr': the frame so far. -/
def Duties (P : Program) (ops : Array Oper) (V : List Bool) (R : World → World → Prop) (G : (Nat → Bool) → World → Prop) (F : Nat → Value → World → Prop) :
    Nat → ((Nat → Value) → Act) → List Oper → List (Option Value) → Prop
  | k, fr, o :: l, some v :: L => (∀ (D : Nat → Bool) (sp : Nat → Value) (w : World), D k = false → (∀ j ∈ waitersOf ops k, D j = false) → (∀ j ∈ depsOf V o, D j = true ∧ F j (sp j) w) → G D w → asked P o ops (fr sp) w fun u w' => u = v ∧ w' = w) ∧
      Duties P ops V R G F (k + 1) (fun sp => (fr sp).put o.dst v) l L
  | k, fr, o :: l, none :: L => (∀ (D : Nat → Bool) (sp : Nat → Value) (w : World), D k = false → (∀ j ∈ waitersOf ops k, D j = false) → (∀ j ∈ depsOf V o, D j = true ∧ F j (sp j) w) → G D w →
        asked P o ops (fr sp) w fun u w' => R w w' ∧ F k u w' ∧ G (fun j => D j || decide (j = k)) w') ∧
      Duties P ops V R G F (k + 1) (fun sp => (fr sp).put o.dst (sp k)) l L
  | _, _, [], [] => True
  | _, _, _, _ => False

/-- The frame behind the region. -/
def frameOf : Nat → ((Nat → Value) → Act) → List Oper → List (Option Value) → (Nat → Value) → Act
  | k, fr, o :: l, some v :: L => frameOf (k + 1) (fun sp => (fr sp).put o.dst v) l L
  | k, fr, o :: l, none :: L => frameOf (k + 1) (fun sp => (fr sp).put o.dst (sp k)) l L
  | _, fr, _, _ => fr

def planAt (L : List (Option Value)) (i : Nat) : Option Value := (L[i]?).getD none

theorem puts_snoc (ops : Array Oper) (vals : Nat → Value) : ∀ (l : List Nat) (i : Nat) (a : Act), puts ops vals (l ++ [i]) a = (puts ops vals l a).put ((ops[i]?).bind (·.dst)) (vals i)
  | [], _, _ => rfl
  | _ :: l, i, _ => puts_snoc ops vals l i _

theorem duties_spec {P : Program} {all : List Oper} {ms : List Bool} {pl : List (Option Value)} {R : World → World → Prop} {G : (Nat → Bool) → World → Prop} {F : Nat → Value → World → Prop} {a0 : Act} :
    ∀ (l : List Oper) (L : List (Option Value)) (k : Nat) (fr : (Nat → Value) → Act), (∀ i, l[i]? = all[k + i]?) → (∀ i, L[i]? = pl[k + i]?) →
      (∀ sp, fr sp = puts all.toArray (mix (planAt pl) sp) (List.range k) a0) → Duties P all.toArray ms R G F k fr l L →
      (∀ i o, k ≤ i → all[i]? = some o → ∀ (D : Nat → Bool) (sp : Nat → Value) (w : World), D i = false → (∀ j ∈ waitersOf all.toArray i, D j = false) → (∀ j ∈ depsOf ms o, D j = true ∧ F j (sp j) w) → G D w →
        asked P o all.toArray (puts all.toArray (mix (planAt pl) sp) (List.range i) a0) w fun u w' =>
          match planAt pl i with
          | some v => u = v ∧ w' = w
          | none => R w w' ∧ F i u w' ∧ G (fun j => D j || decide (j = i)) w') ∧
      (∀ sp, frameOf k fr l L sp = puts all.toArray (mix (planAt pl) sp) (List.range (k + l.length)) a0)
  | [], [], k, fr, hl, _, hfr, _ => by
    refine ⟨fun i o hi ho => ?_, fun sp => by simp only [frameOf, List.length_nil, Nat.add_zero]; exact hfr sp⟩
    have := hl (i - k)
    rw [show k + (i - k) = i by omega, ho] at this
    simp at this
  | o :: l, some v :: L, k, fr, hl, hL, hfr, hd => by
    obtain ⟨h1, h2⟩ := hd
    have ho : all[k]? = some o := by have := hl 0; simpa using this.symm
    have hp : planAt pl k = some v := by have := hL 0; simp at this; simp [planAt, ← this]
    have hfr' : ∀ sp, (fr sp).put o.dst v = puts all.toArray (mix (planAt pl) sp) (List.range (k + 1)) a0 := fun sp => by
      rw [List.range_succ, puts_snoc, ← hfr sp]
      simp [ho, mix, hp]
    have ih := duties_spec l L (k + 1) (fun sp => (fr sp).put o.dst v) (fun i => by have := hl (i + 1); simpa [Nat.add_assoc, Nat.add_comm 1 i] using this) (fun i => by have := hL (i + 1); simpa [Nat.add_assoc, Nat.add_comm 1 i] using this) hfr' h2
    refine ⟨fun i p hi hp' => ?_, fun sp => ?_⟩
    · by_cases hik : i = k
      · subst hik
        rw [ho] at hp'; cases hp'
        intro D sp w hD hwt hdp hG
        rw [hp, ← hfr sp]
        exact h1 D sp w hD hwt hdp hG
      · exact ih.1 i p (by omega) hp'
    · simp only [frameOf, List.length_cons]
      rw [ih.2 sp]; congr 2; omega
  | o :: l, none :: L, k, fr, hl, hL, hfr, hd => by
    obtain ⟨h1, h2⟩ := hd
    have ho : all[k]? = some o := by have := hl 0; simpa using this.symm
    have hp : planAt pl k = none := by have := hL 0; simp at this; simp [planAt, ← this]
    have hfr' : ∀ sp, (fr sp).put o.dst (sp k) = puts all.toArray (mix (planAt pl) sp) (List.range (k + 1)) a0 := fun sp => by
      rw [List.range_succ, puts_snoc, ← hfr sp]
      simp [ho, mix, hp]
    have ih := duties_spec l L (k + 1) (fun sp => (fr sp).put o.dst (sp k)) (fun i => by have := hl (i + 1); simpa [Nat.add_assoc, Nat.add_comm 1 i] using this) (fun i => by have := hL (i + 1); simpa [Nat.add_assoc, Nat.add_comm 1 i] using this) hfr' h2
    refine ⟨fun i p hi hp' => ?_, fun sp => ?_⟩
    · by_cases hik : i = k
      · subst hik
        rw [ho] at hp'; cases hp'
        intro D sp w hD hwt hdp hG
        rw [hp, ← hfr sp]
        exact h1 D sp w hD hwt hdp hG
      · exact ih.1 i p (by omega) hp'
    · simp only [frameOf, List.length_cons]
      rw [ih.2 sp]; congr 2; omega
  | [], _ :: _, _, _, _, _, _, hd => by simp [Duties] at hd
  | _ :: _, [], _, _, _, _, _, hd => by simp [Duties] at hd

theorem duties_len {P : Program} {ops : Array Oper} {ms : List Bool} {R : World → World → Prop} {G : (Nat → Bool) → World → Prop} {F : Nat → Value → World → Prop} :
    ∀ (l : List Oper) (L : List (Option Value)) (k : Nat) (fr : (Nat → Value) → Act), Duties P ops ms R G F k fr l L → L.length = l.length
  | [], [], _, _, _ => rfl
  | _ :: l, some _ :: L, k, _, h => by simp [duties_len l L (k + 1) _ h.2]
  | _ :: l, none :: L, k, _, h => by simp [duties_len l L (k + 1) _ h.2]
  | [], _ :: _, _, _, h => by simp [Duties] at h
  | _ :: _, [], _, _, h => by simp [Duties] at h

theorem mask_at {pl : List (Option Value)} {ms : List Bool} (hms : pl.map Option.isNone = ms) (j : Nat) : ms.getD j false = (decide (j < pl.length) && (planAt pl j).isNone) := by
  subst hms
  unfold planAt
  rw [List.getD_eq_getElem?_getD, List.getElem?_map]
  by_cases hj : j < pl.length
  · simp [hj]
  · simp [hj]

theorem mem_depsOf {pl : List (Option Value)} {ms : List Bool} (hms : pl.map Option.isNone = ms) {o : Oper} {j : Nat} (h : j ∈ depsOf ms o) : ∃ e ∈ o.after, Region.binds .any e = true ∧ planAt pl e.on = none ∧ e.on = j := by
  subst hms
  simp only [depsOf, List.mem_map, List.mem_filter, Bool.and_eq_true, Array.mem_toList_iff] at h
  obtain ⟨e, ⟨he, hb, hv⟩, hj⟩ := h
  refine ⟨e, he, hb, ?_, hj⟩
  unfold planAt
  rw [List.getD_eq_getElem?_getD, List.getElem?_map] at hv
  cases hp : pl[e.on]? with
  | none => rfl
  | some x => cases x with
    | none => rfl
    | some v => rw [hp] at hv; simp at hv

/-- An operation that calls a Go function. -/
theorem asked_call {P : Program} {o : Oper} {ops : Array Oper} {a : Act} {w w1 : World} {K : Value → World → Prop} {f : FuncId} {args : Array Value}
    (hw : Region.wanted o (yielded ops a.tmps) = true) (hr : (execOp a.eval o).run P w = .ok (.enter f args) w1) (hc : Calls P f args w1 fun e w' => ∃ v, e = .returned v ∧ K v w') : asked P o ops a w K := by
  unfold asked
  rw [if_pos hw]
  unfold Oper.gives
  rw [hr]
  exact hc

/-- An operation that yields a value. -/
theorem asked_value {P : Program} {o : Oper} {ops : Array Oper} {a : Act} {w w1 : World} {K : Value → World → Prop} {v : Value}
    (hw : Region.wanted o (yielded ops a.tmps) = true) (hr : (execOp a.eval o).run P w = .ok (.value v) w1) (hk : K v w1) : asked P o ops a w K := by
  unfold asked
  rw [if_pos hw]
  unfold Oper.gives
  rw [hr]
  exact hk

/-- An operation that yields nothing. -/
theorem asked_skip {P : Program} {o : Oper} {ops : Array Oper} {a : Act} {w w1 : World} {K : Value → World → Prop}
    (hw : Region.wanted o (yielded ops a.tmps) = true) (hr : (execOp a.eval o).run P w = .ok .skip w1) (hk : K undef w1) : asked P o ops a w K := by
  unfold asked
  rw [if_pos hw]
  unfold Oper.gives
  rw [hr]
  exact hk

/-- All that is checked of the operations alone. -/
def planOk (ops : Array Oper) : Bool := backward ops && dstsApart ops && usesOk ops && Region.noSelect ops

/-- THE RULE, for operations that are written out. -/
theorem wp_region_duties {id : Nat} {a0 : Act} {w0 : World} {all : List Oper} (hm : P.follows .mixedOrders = true) (hok : planOk all.toArray = true)
    (pl : List (Option Value)) (ms : List Bool) (hms : pl.map Option.isNone = ms) (R : World → World → Prop) (G : (Nat → Bool) → World → Prop) (F : Nat → Value → World → Prop)
    (hF : ∀ i v w w', F i v w → R w w' → F i v w')
    (h0 : G (fun _ => false) { w0 with drawn := w0.drawn + 1 })
    (hd : Duties P all.toArray ms R G F 0 (fun _ => a0) all pl)
    (done : ∀ (sp : Nat → Value) (w : World), (∀ j, ms.getD j false = true → F j (sp j) w) → G (fun j => ms.getD j false) w →
      Q .normal (frameOf 0 (fun _ => a0) all pl sp) w) : (Code.region id all.toArray true).wp P Q a0 w0 := by
  simp only [planOk, Bool.and_eq_true] at hok
  obtain ⟨⟨⟨hb, hda⟩, hu⟩, hs⟩ := hok
  obtain ⟨h1, h2⟩ := duties_spec (a0 := a0) (pl := pl) all pl 0 (fun _ => a0) (fun i => by simp) (fun i => by simp) (fun sp => by simp [puts]) hd
  refine wp_region_plan hm hb hda hu hs (planAt pl) R G F (fun i v w w' _ => hF i v w w') h0 ?_ ?_ ?_
  · intro i o ho v hv D sp w hD hwt hdp hf hG
    have := h1 i o (Nat.zero_le _) (by simpa using ho) D sp w hD (fun j hj => by
      obtain ⟨p, hp, hex⟩ := mem_waitersOf hj
      exact hwt j p hp hex) (fun j hj => by
      obtain ⟨e, he, hbd, hV, rfl⟩ := mem_depsOf hms hj
      exact ⟨hdp e he hbd hV, hf _ (hdp e he hbd hV)⟩) hG
    rw [hv] at this
    exact this
  · intro i o ho hv D sp w hD hwt hdp hf hG
    have := h1 i o (Nat.zero_le _) (by simpa using ho) D sp w hD (fun j hj => by
      obtain ⟨p, hp, hex⟩ := mem_waitersOf hj
      exact hwt j p hp hex) (fun j hj => by
      obtain ⟨e, he, hbd, hV, rfl⟩ := mem_depsOf hms hj
      exact ⟨hdp e he hbd hV, hf _ (hdp e he hbd hV)⟩) hG
    rw [hv] at this
    exact this
  · intro sp w hf hG
    have e := h2 sp
    rw [Nat.zero_add] at e
    simp only [List.size_toArray] at hf hG ⊢
    rw [← e]
    have hlen := duties_len _ _ _ _ hd
    refine done sp w (fun j hj => ?_) ?_
    · rw [mask_at hms, hlen] at hj
      simp only [Bool.and_eq_true, decide_eq_true_eq, Option.isNone_iff_eq_none] at hj
      exact hf j hj.1 hj.2
    · have e2 : (fun j => ms.getD j false) = (fun j => decide (j < all.length) && (planAt pl j).isNone) := by
        funext j; rw [mask_at hms, hlen]
      rw [e2]; exact hG


end
end Go.Proofs.Ytpodoleopebioaa.Flow
