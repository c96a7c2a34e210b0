/- The rule for regions that draw, once more: what holds of the world may speak of the values, too. -/
import Derived.Test.YtpodoleopebioaaFlow
namespace Go.Proofs.Ytpodoleopebioaa.Flow
open Go
set_option maxRecDepth 100000

section
variable {P : Program} {ops : Array Oper} {Q : Exit → Act → World → Prop}

/-- One value more. -/
def upd (sp : Nat → Value) (i : Nat) (v : Value) : Nat → Value := fun j => if j = i then v else sp j

/-- THE RULE. 'V': the plain operations' values, written out: they leave the world alone. 'G', 'F', 'R': as in the bare rule, for the others. -/
theorem wp_region_planS {id : Nat} {a0 : Act} {w0 : World} (hm : P.follows .mixedOrders = true) (hb : backward ops = true) (hd : dstsApart ops = true) (hu : usesOk ops = true) (hs : Region.noSelect ops = true)
    (V : Nat → Option Value) (R : World → World → Prop) (G : (Nat → Bool) → (Nat → Value) → World → Prop) (F : Nat → Value → World → Prop)
    (hF : ∀ i v w w', V i = none → F i v w → R w w' → F i v w')
    (h0 : G (fun _ => false) (fun _ => undef) { w0 with drawn := w0.drawn + 1 })
    (plain : ∀ i o, ops[i]? = some o → ∀ v, V i = some v → ∀ (D : Nat → Bool) (sp : Nat → Value) (w : World), D i = false →
      (∀ j p, ops[j]? = some p → (∃ e ∈ p.after, Region.binds .any e = true ∧ e.on = i) → D j = false) →
      (∀ e ∈ o.after, Region.binds .any e = true → V e.on = none → D e.on = true) → (∀ j, D j = true → F j (sp j) w) → G D sp w →
      asked P o ops (puts ops (mix V sp) (List.range i) a0) w fun u w' => u = v ∧ w' = w)
    (special : ∀ i o, ops[i]? = some o → V i = none → ∀ (D : Nat → Bool) (sp : Nat → Value) (w : World), D i = false →
      (∀ j p, ops[j]? = some p → (∃ e ∈ p.after, Region.binds .any e = true ∧ e.on = i) → D j = false) →
      (∀ e ∈ o.after, Region.binds .any e = true → V e.on = none → D e.on = true) → (∀ j, D j = true → F j (sp j) w) → G D sp w →
      asked P o ops (puts ops (mix V sp) (List.range i) a0) w fun u w' => R w w' ∧ F i u w' ∧ G (fun j => D j || decide (j = i)) (upd sp i u) w')
    (done : ∀ (sp : Nat → Value) (w : World), (∀ j, j < ops.size → V j = none → F j (sp j) w) → G (fun j => decide (j < ops.size) && (V j).isNone) sp w →
      Q .normal (puts ops (mix V sp) (List.range ops.size) a0) w) : (Code.region id ops true).wp P Q a0 w0 := by
  refine wp_region_any hm ?_
  let D' : Array Bool → Nat → Bool := fun listed j => listed.getD j false && (V j).isNone
  let Inv : Array Bool → Act → World → Prop := fun listed a w => listed.size = ops.size ∧ (∀ j o, listed.getD j false = true → ops[j]? = some o → ∀ e ∈ o.after, Region.binds .any e = true → listed.getD e.on false = true) ∧
    ∃ sp, At ops a0 (fun j => listed.getD j false) (mix V sp) a ∧ (∀ j, D' listed j = true → F j (sp j) w) ∧ G (D' listed) sp w
  have hset : ∀ (listed : Array Bool) (i : Nat), i < listed.size → (fun j => (listed.setIfInBounds i true).getD j false) = (fun j => listed.getD j false || decide (j = i)) := by
    intro listed i hi
    funext j
    by_cases hji : j = i
    · subst hji; simp [hi]
    · rw [getD_set_ne false (Ne.symm hji)]; simp [hji]
  refine wpAny_inv hb Inv ?_ ?_ _ _ _ _ (by simp) ?_ ?_
  · intro listed a w i o ho hl hall ⟨hsz, hcl, sp, hat, hf, hg⟩
    have hilt : i < ops.size := (Array.getElem?_eq_some_iff.1 ho).1
    have hil : i < listed.size := by omega
    have hDi : listed.getD i false = false := by simp [hil] at hl ⊢; exact hl
    have hsel := Region.noSelect_spec hs i o
    have hrd := reads_same hu hd hat hcl ho hDi hall
    have hex := execOp_same (ops := ops) o (fun cs d => hsel cs d ho) hrd
    have hwt := wanted_same (ops := ops) o hrd
    have hcl' : ∀ j p, (listed.setIfInBounds i true).getD j false = true → ops[j]? = some p → ∀ e ∈ p.after, Region.binds .any e = true → (listed.setIfInBounds i true).getD e.on false = true := by
      intro j p hj hp e he hbd
      refine getD_set_true ?_
      by_cases hji : j = i
      · subst hji; rw [ho] at hp; cases hp; exact hall e he hbd
      · rw [getD_set_ne false (Ne.symm hji)] at hj; exact hcl j p hj hp e he hbd
    have hdeps : ∀ e ∈ o.after, Region.binds .any e = true → V e.on = none → D' listed e.on = true := fun e he hbd hv => by
      simp only [D', hall e he hbd, hv]; rfl
    have hD'i : D' listed i = false := by simp only [D', hDi]; rfl
    have hwait : ∀ j p, ops[j]? = some p → (∃ e ∈ p.after, Region.binds .any e = true ∧ e.on = i) → D' listed j = false := by
      intro j p hp ⟨e, he, hbd, hei⟩
      cases hj : listed.getD j false with
      | false => simp only [D', hj]; rfl
      | true => have := hcl j p hj hp e he hbd; rw [hei, hDi] at this; cases this
    have atput : ∀ v, At ops a0 (fun j => (listed.setIfInBounds i true).getD j false) (fun j => if j = i then v else mix V sp j) (a.put o.dst v) := by
      intro v
      rw [hset listed i hil]
      have := hat.step hd hDi v
      rw [ho] at this
      exact this
    -- the next state
    have fin : ∀ v w', (V i = some v → w' = w) → (V i = none → R w w' ∧ F i v w' ∧ G (fun j => D' listed j || decide (j = i)) (upd sp i v) w') → (∀ u, V i = some u → u = v) → Inv (listed.setIfInBounds i true) (a.put o.dst v) w' := by
      intro v w' hp hsn hvu
      refine ⟨by simpa using hsz, hcl', if (V i).isSome then sp else upd sp i v, ?_, ?_, ?_⟩
      · have e : mix V (if (V i).isSome then sp else upd sp i v) = (fun j => if j = i then v else mix V sp j) := by
          funext j
          by_cases hji : j = i
          · subst hji
            cases hV : V j with
            | none => simp [mix, hV, upd]
            | some u => simp [mix, hV, hvu u hV]
          · cases hV : V i with
            | none => simp [mix, hji, upd]
            | some u => simp [mix, hji]
        rw [e]; exact atput v
      · intro j hj
        by_cases hji : j = i
        · subst hji
          have hV : V j = none := by simp only [D', Bool.and_eq_true, Option.isNone_iff_eq_none] at hj; exact hj.2
          simpa [hV, upd] using (hsn hV).2.1
        · simp only [D', getD_set_ne false (Ne.symm hji)] at hj
          have hspj : (if (V i).isSome then sp else upd sp i v) j = sp j := by split <;> simp [upd, hji]
          rw [hspj]
          have hVj : V j = none := by simp only [Bool.and_eq_true, Option.isNone_iff_eq_none] at hj; exact hj.2
          have h1 := hf j hj
          cases hV : V i with
          | none => exact hF _ _ _ _ hVj h1 (hsn hV).1
          | some u => rw [hp (by rw [hV, hvu u hV])]; exact h1
      · cases hV : V i with
        | none =>
          have e : D' (listed.setIfInBounds i true) = (fun j => D' listed j || decide (j = i)) := by
            funext j
            by_cases hji : j = i
            · subst hji; simp [D', hV, hil]
            · simp only [D', getD_set_ne false (Ne.symm hji)]; simp [hji]
          rw [e]; simpa [hV] using (hsn hV).2.2
        | some u =>
          have e : D' (listed.setIfInBounds i true) = D' listed := by
            funext j
            by_cases hji : j = i
            · subst hji; simp [D', hV]
            · simp only [D', getD_set_ne false (Ne.symm hji)]
          rw [e, hp (by rw [hV, hvu u hV])]; simpa [hV] using hg
    have asked' : ∀ K : Value → World → Prop, asked P o ops (puts ops (mix V sp) (List.range i) a0) w K → (∀ v w', K v w' → Inv (listed.setIfInBounds i true) (a.put o.dst v) w') → wpOp P ops Q i (Inv (listed.setIfInBounds i true)) a w := by
      intro K hk hn
      unfold asked at hk
      rw [← hwt] at hk
      unfold wpOp
      simp only [ho]
      split
      · rename_i hw
        rw [if_pos hw] at hk
        unfold Oper.gives at hk
        rw [← hex] at hk
        exact .inl (Oper.wp_of_gives (R := K) hk hn)
      · rename_i hw
        rw [if_neg hw] at hk
        exact hn _ _ hk
    cases hV : V i with
    | none =>
      exact asked' _ (special i o ho hV (D' listed) sp w hD'i hwait hdeps hf hg) fun v w' h => fin v w' (fun e => by rw [hV] at e; cases e) (fun _ => h) (fun u e => by rw [hV] at e; cases e)
    | some v =>
      exact asked' _ (plain i o ho v hV (D' listed) sp w hD'i hwait hdeps hf hg) fun u w' h => fin u w' (fun _ => h.2) (fun e => by rw [hV] at e; cases e) (fun u' e => by rw [hV] at e; cases e; exact h.1.symm)
  · intro listed a w hall ⟨hsz, _, sp, hat, hf, hg⟩
    have e : (fun j => listed.getD j false) = (fun j => decide (j < ops.size)) := by
      funext j
      by_cases hj : j < ops.size
      · simp only [hall j hj]; simp [hj]
      · have : ¬ j < listed.size := by omega
        simp [this, hj]
    have eD : D' listed = (fun j => decide (j < ops.size) && (V j).isNone) := by
      funext j
      have := congrFun e j
      simp only [D', this]
    rw [e] at hat
    rw [eD] at hg
    have h1 : At ops a0 (fun _ => false) (mix V sp) a0 := ⟨rfl, rfl, fun _ _ => rfl, fun _ _ h => by simp at h⟩
    have h2 := puts_spec hd (mix V sp) (List.range ops.size) _ a0 a0 h1 List.nodup_range (fun _ _ => rfl)
    have e2 : (fun j => false || decide (j ∈ List.range ops.size)) = (fun j => decide (j < ops.size)) := by funext j; simp [List.mem_range]
    rw [e2] at h2
    rw [hat.unique h2]
    exact done sp w (fun j hj hV => hf j (by simp only [eD, hV]; simp [hj])) hg
  · unfold undone
    refine Nat.le_trans (List.length_filter_le _ _) ?_
    simp
  · have e : ∀ j, (Array.replicate ops.size false).getD j false = false := by
      intro j; simp [Array.getElem?_replicate]; split <;> simp
    refine ⟨by simp, ?_, fun _ => undef, ?_, ?_, ?_⟩
    · intro j o hj; rw [e j] at hj; cases hj
    · exact ⟨rfl, rfl, fun _ _ => rfl, fun i t h => by simp only [e i] at h; cases h⟩
    · intro j hj; simp only [D', e j] at hj; cases hj
    · have e2 : D' (Array.replicate ops.size false) = (fun _ => false) := by funext j; simp only [D', e j]; rfl
      rw [e2]; exact h0



def DutiesS (P : Program) (ops : Array Oper) (V : List Bool) (R : World → World → Prop) (G : (Nat → Bool) → (Nat → Value) → World → Prop) (F : Nat → Value → World → Prop) :
    Nat → ((Nat → Value) → Act) → List Oper → List (Option Value) → Prop
  | k, fr, o :: l, some v :: L => (∀ (D : Nat → Bool) (sp : Nat → Value) (w : World), D k = false → (∀ j ∈ waitersOf ops k, D j = false) → (∀ j ∈ depsOf V o, D j = true ∧ F j (sp j) w) → G D sp w → asked P o ops (fr sp) w fun u w' => u = v ∧ w' = w) ∧
      DutiesS P ops V R G F (k + 1) (fun sp => (fr sp).put o.dst v) l L
  | k, fr, o :: l, none :: L => (∀ (D : Nat → Bool) (sp : Nat → Value) (w : World), D k = false → (∀ j ∈ waitersOf ops k, D j = false) → (∀ j ∈ depsOf V o, D j = true ∧ F j (sp j) w) → G D sp w →
        asked P o ops (fr sp) w fun u w' => R w w' ∧ F k u w' ∧ G (fun j => D j || decide (j = k)) (upd sp k u) w') ∧
      DutiesS P ops V R G F (k + 1) (fun sp => (fr sp).put o.dst (sp k)) l L
  | _, _, [], [] => True
  | _, _, _, _ => False

theorem duties_specS {P : Program} {all : List Oper} {ms : List Bool} {pl : List (Option Value)} {R : World → World → Prop} {G : (Nat → Bool) → (Nat → Value) → World → Prop} {F : Nat → Value → World → Prop} {a0 : Act} :
    ∀ (l : List Oper) (L : List (Option Value)) (k : Nat) (fr : (Nat → Value) → Act), (∀ i, l[i]? = all[k + i]?) → (∀ i, L[i]? = pl[k + i]?) →
      (∀ sp, fr sp = puts all.toArray (mix (planAt pl) sp) (List.range k) a0) → DutiesS P all.toArray ms R G F k fr l L →
      (∀ i o, k ≤ i → all[i]? = some o → ∀ (D : Nat → Bool) (sp : Nat → Value) (w : World), D i = false → (∀ j ∈ waitersOf all.toArray i, D j = false) → (∀ j ∈ depsOf ms o, D j = true ∧ F j (sp j) w) → G D sp w →
        asked P o all.toArray (puts all.toArray (mix (planAt pl) sp) (List.range i) a0) w fun u w' =>
          match planAt pl i with
          | some v => u = v ∧ w' = w
          | none => R w w' ∧ F i u w' ∧ G (fun j => D j || decide (j = i)) (upd sp i u) w') ∧
      (∀ sp, frameOf k fr l L sp = puts all.toArray (mix (planAt pl) sp) (List.range (k + l.length)) a0)
  | [], [], k, fr, hl, _, hfr, _ => by
    refine ⟨fun i o hi ho => ?_, fun sp => by simp only [frameOf, List.length_nil, Nat.add_zero]; exact hfr sp⟩
    have := hl (i - k)
    rw [show k + (i - k) = i by omega, ho] at this
    simp at this
  | o :: l, some v :: L, k, fr, hl, hL, hfr, hd => by
    obtain ⟨h1, h2⟩ := hd
    have ho : all[k]? = some o := by have := hl 0; simpa using this.symm
    have hp : planAt pl k = some v := by have := hL 0; simp at this; simp [planAt, ← this]
    have hfr' : ∀ sp, (fr sp).put o.dst v = puts all.toArray (mix (planAt pl) sp) (List.range (k + 1)) a0 := fun sp => by
      rw [List.range_succ, puts_snoc, ← hfr sp]
      simp [ho, mix, hp]
    have ih := duties_specS l L (k + 1) (fun sp => (fr sp).put o.dst v) (fun i => by have := hl (i + 1); simpa [Nat.add_assoc, Nat.add_comm 1 i] using this) (fun i => by have := hL (i + 1); simpa [Nat.add_assoc, Nat.add_comm 1 i] using this) hfr' h2
    refine ⟨fun i p hi hp' => ?_, fun sp => ?_⟩
    · by_cases hik : i = k
      · subst hik
        rw [ho] at hp'; cases hp'
        intro D sp w hD hwt hdp hG
        rw [hp, ← hfr sp]
        exact h1 D sp w hD hwt hdp hG
      · exact ih.1 i p (by omega) hp'
    · simp only [frameOf, List.length_cons]
      rw [ih.2 sp]; congr 2; omega
  | o :: l, none :: L, k, fr, hl, hL, hfr, hd => by
    obtain ⟨h1, h2⟩ := hd
    have ho : all[k]? = some o := by have := hl 0; simpa using this.symm
    have hp : planAt pl k = none := by have := hL 0; simp at this; simp [planAt, ← this]
    have hfr' : ∀ sp, (fr sp).put o.dst (sp k) = puts all.toArray (mix (planAt pl) sp) (List.range (k + 1)) a0 := fun sp => by
      rw [List.range_succ, puts_snoc, ← hfr sp]
      simp [ho, mix, hp]
    have ih := duties_specS l L (k + 1) (fun sp => (fr sp).put o.dst (sp k)) (fun i => by have := hl (i + 1); simpa [Nat.add_assoc, Nat.add_comm 1 i] using this) (fun i => by have := hL (i + 1); simpa [Nat.add_assoc, Nat.add_comm 1 i] using this) hfr' h2
    refine ⟨fun i p hi hp' => ?_, fun sp => ?_⟩
    · by_cases hik : i = k
      · subst hik
        rw [ho] at hp'; cases hp'
        intro D sp w hD hwt hdp hG
        rw [hp, ← hfr sp]
        exact h1 D sp w hD hwt hdp hG
      · exact ih.1 i p (by omega) hp'
    · simp only [frameOf, List.length_cons]
      rw [ih.2 sp]; congr 2; omega
  | [], _ :: _, _, _, _, _, _, hd => by simp [DutiesS] at hd
  | _ :: _, [], _, _, _, _, _, hd => by simp [DutiesS] at hd

theorem duties_lenS {P : Program} {ops : Array Oper} {ms : List Bool} {R : World → World → Prop} {G : (Nat → Bool) → (Nat → Value) → World → Prop} {F : Nat → Value → World → Prop} :
    ∀ (l : List Oper) (L : List (Option Value)) (k : Nat) (fr : (Nat → Value) → Act), DutiesS P ops ms R G F k fr l L → L.length = l.length
  | [], [], _, _, _ => rfl
  | _ :: l, some _ :: L, k, _, h => by simp [duties_lenS l L (k + 1) _ h.2]
  | _ :: l, none :: L, k, _, h => by simp [duties_lenS l L (k + 1) _ h.2]
  | [], _ :: _, _, _, h => by simp [DutiesS] at h
  | _ :: _, [], _, _, h => by simp [DutiesS] at h

/-- THE RULE, for operations that are written out. -/
theorem wp_region_dutiesS {id : Nat} {a0 : Act} {w0 : World} {all : List Oper} (hm : P.follows .mixedOrders = true) (hok : planOk all.toArray = true)
    (pl : List (Option Value)) (ms : List Bool) (hms : pl.map Option.isNone = ms) (R : World → World → Prop) (G : (Nat → Bool) → (Nat → Value) → World → Prop) (F : Nat → Value → World → Prop)
    (hF : ∀ i v w w', F i v w → R w w' → F i v w')
    (h0 : G (fun _ => false) (fun _ => undef) { w0 with drawn := w0.drawn + 1 })
    (hd : DutiesS P all.toArray ms R G F 0 (fun _ => a0) all pl)
    (done : ∀ (sp : Nat → Value) (w : World), (∀ j, ms.getD j false = true → F j (sp j) w) → G (fun j => ms.getD j false) sp w →
      Q .normal (frameOf 0 (fun _ => a0) all pl sp) w) : (Code.region id all.toArray true).wp P Q a0 w0 := by
  simp only [planOk, Bool.and_eq_true] at hok
  obtain ⟨⟨⟨hb, hda⟩, hu⟩, hs⟩ := hok
  obtain ⟨h1, h2⟩ := duties_specS (a0 := a0) (pl := pl) all pl 0 (fun _ => a0) (fun i => by simp) (fun i => by simp) (fun sp => by simp [puts]) hd
  refine wp_region_planS hm hb hda hu hs (planAt pl) R G F (fun i v w w' _ => hF i v w w') h0 ?_ ?_ ?_
  · intro i o ho v hv D sp w hD hwt hdp hf hG
    have := h1 i o (Nat.zero_le _) (by simpa using ho) D sp w hD (fun j hj => by
      obtain ⟨p, hp, hex⟩ := mem_waitersOf hj
      exact hwt j p hp hex) (fun j hj => by
      obtain ⟨e, he, hbd, hV, rfl⟩ := mem_depsOf hms hj
      exact ⟨hdp e he hbd hV, hf _ (hdp e he hbd hV)⟩) hG
    rw [hv] at this
    exact this
  · intro i o ho hv D sp w hD hwt hdp hf hG
    have := h1 i o (Nat.zero_le _) (by simpa using ho) D sp w hD (fun j hj => by
      obtain ⟨p, hp, hex⟩ := mem_waitersOf hj
      exact hwt j p hp hex) (fun j hj => by
      obtain ⟨e, he, hbd, hV, rfl⟩ := mem_depsOf hms hj
      exact ⟨hdp e he hbd hV, hf _ (hdp e he hbd hV)⟩) hG
    rw [hv] at this
    exact this
  · intro sp w hf hG
    have e := h2 sp
    rw [Nat.zero_add] at e
    simp only [List.size_toArray] at hf hG ⊢
    rw [← e]
    have hlen := duties_lenS _ _ _ _ hd
    refine done sp w (fun j hj => ?_) ?_
    · rw [mask_at hms, hlen] at hj
      simp only [Bool.and_eq_true, decide_eq_true_eq, Option.isNone_iff_eq_none] at hj
      exact hf j hj.1 hj.2
    · have e2 : (fun j => ms.getD j false) = (fun j => decide (j < all.length) && (planAt pl j).isNone) := by
        funext j; rw [mask_at hms, hlen]
      rw [e2]; exact hG


end
end Go.Proofs.Ytpodoleopebioaa.Flow
