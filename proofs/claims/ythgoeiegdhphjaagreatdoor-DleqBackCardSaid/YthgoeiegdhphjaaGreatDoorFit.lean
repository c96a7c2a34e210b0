/- Contracts as the laws use them. -/
import Derived.Lib.Tables
import Derived.Lib.BitFns
import Derived.Test.YthgoeiegdhphjaaGreatDoorShaA
import Derived.Laws.BytesArg
import Derived.Laws.BytesString
import Derived.WideShapes
import Derived.Deep.QuietTactic
import Derived.BigQuiet
import Derived.RangeFuncNested
import Derived.Test.YthgoeiegdhphjaaGreatDoorNatN
import Derived.Test.YthgoeiegdhphjaaGreatDoorNatG
set_option maxRecDepth 1000000
set_option maxHeartbeats 16000000
set_option linter.unusedSimpArgs false
set_option linter.unusedVariables false
namespace Go.Proofs.YthgoeiegdhphjaaGreatDoor.Flow
open Go
section
variable {P : Program} {ops : Array Oper} {Q : Exit -> Act -> World -> Prop}
def upd (sp : Nat -> Value) (i : Nat) (v : Value) : Nat -> Value := fun j => if j = i then v else sp j
theorem wp_region_planS {id : Nat} {a0 : Act} {w0 : World} (hm : P.follows .mixedOrders = true) (hb : backward ops = true) (hd : dstsApart ops = true) (hu : usesOk ops = true) (hs : Region.noSelect ops = true)
  (V : Nat -> Option Value) (R : World -> World -> Prop) (G : (Nat -> Bool) -> (Nat -> Value) -> World -> Prop) (F : Nat -> Value -> World -> Prop)
  (hF : ∀ i v w w', V i = none -> F i v w -> R w w' -> F i v w')
  (h0 : G (fun _ => false) (fun _ => undef) { w0 with drawn := w0.drawn + 1 })
  (plain : ∀ i o, ops[i]? = some o -> ∀ v, V i = some v -> ∀ (D : Nat -> Bool) (sp : Nat -> Value) (w : World), D i = false ->
   (∀ j p, ops[j]? = some p -> (∃ e ∈ p.after, Region.binds .any e = true /\ e.on = i) -> D j = false) ->
   (∀ e ∈ o.after, Region.binds .any e = true -> V e.on = none -> D e.on = true) -> (∀ j, D j = true -> F j (sp j) w) -> G D sp w ->
   asked P o ops (puts ops (mix V sp) (List.range i) a0) w fun u w' => u = v /\ w' = w)
  (special : ∀ i o, ops[i]? = some o -> V i = none -> ∀ (D : Nat -> Bool) (sp : Nat -> Value) (w : World), D i = false ->
   (∀ j p, ops[j]? = some p -> (∃ e ∈ p.after, Region.binds .any e = true /\ e.on = i) -> D j = false) ->
   (∀ e ∈ o.after, Region.binds .any e = true -> V e.on = none -> D e.on = true) -> (∀ j, D j = true -> F j (sp j) w) -> G D sp w ->
   asked P o ops (puts ops (mix V sp) (List.range i) a0) w fun u w' => R w w' /\ F i u w' /\ G (fun j => D j || decide (j = i)) (upd sp i u) w')
  (done : ∀ (sp : Nat -> Value) (w : World), (∀ j, j < ops.size -> V j = none -> F j (sp j) w) -> G (fun j => decide (j < ops.size) && (V j).isNone) sp w ->
   Q .normal (puts ops (mix V sp) (List.range ops.size) a0) w) : (Code.region id ops true).wp P Q a0 w0 := by
 refine wp_region_any hm ?_
 let D' : Array Bool -> Nat -> Bool := fun listed j => listed.getD j false && (V j).isNone
 let Inv : Array Bool -> Act -> World -> Prop := fun listed a w => listed.size = ops.size /\ (∀ j o, listed.getD j false = true -> ops[j]? = some o -> ∀ e ∈ o.after, Region.binds .any e = true -> listed.getD e.on false = true) /\
  ∃ sp, At ops a0 (fun j => listed.getD j false) (mix V sp) a /\ (∀ j, D' listed j = true -> F j (sp j) w) /\ G (D' listed) sp w
 have hset : ∀ (listed : Array Bool) (i : Nat), i < listed.size -> (fun j => (listed.setIfInBounds i true).getD j false) = (fun j => listed.getD j false || decide (j = i)) := by
  intro listed i hi
  funext j
  by_cases hji : j = i
  ·subst hji; simp [hi]
  ·rw [getD_set_ne false (Ne.symm hji)]; simp [hji]
 refine wpAny_inv hb Inv ?_ ?_ _ _ _ _ (by simp) ?_ ?_
 ·intro listed a w i o ho hl hall ⟨hsz, hcl, sp, hat, hf, hg⟩
  have hilt : i < ops.size := (Array.getElem?_eq_some_iff.1 ho).1
  have hil : i < listed.size := by omega
  have hDi : listed.getD i false = false := by simp [hil] at hl ⊢; exact hl
  have hsel := Region.noSelect_spec hs i o
  have hrd := reads_same hu hd hat hcl ho hDi hall
  have hex := execOp_same (ops := ops) o (fun cs d => hsel cs d ho) hrd
  have hwt := wanted_same (ops := ops) o hrd
  have hcl' : ∀ j p, (listed.setIfInBounds i true).getD j false = true -> ops[j]? = some p -> ∀ e ∈ p.after, Region.binds .any e = true -> (listed.setIfInBounds i true).getD e.on false = true := by
   intro j p hj hp e he hbd
   refine getD_set_true ?_
   by_cases hji : j = i
   ·subst hji; rw [ho] at hp; cases hp; exact hall e he hbd
   ·rw [getD_set_ne false (Ne.symm hji)] at hj; exact hcl j p hj hp e he hbd
  have hdeps : ∀ e ∈ o.after, Region.binds .any e = true -> V e.on = none -> D' listed e.on = true := fun e he hbd hv => by
   simp only [D', hall e he hbd, hv]; rfl
  have hD'i : D' listed i = false := by simp only [D', hDi]; rfl
  have hwait : ∀ j p, ops[j]? = some p -> (∃ e ∈ p.after, Region.binds .any e = true /\ e.on = i) -> D' listed j = false := by
   intro j p hp ⟨e, he, hbd, hei⟩
   cases hj : listed.getD j false with
   | false => simp only [D', hj]; rfl
   | true => have := hcl j p hj hp e he hbd; rw [hei, hDi] at this; cases this
  have atput : ∀ v, At ops a0 (fun j => (listed.setIfInBounds i true).getD j false) (fun j => if j = i then v else mix V sp j) (a.put o.dst v) := by
   intro v
   rw [hset listed i hil]
   have := hat.step hd hDi v
   rw [ho] at this
   exact this
  -- the next state
  have fin : ∀ v w', (V i = some v -> w' = w) -> (V i = none -> R w w' /\ F i v w' /\ G (fun j => D' listed j || decide (j = i)) (upd sp i v) w') -> (∀ u, V i = some u -> u = v) -> Inv (listed.setIfInBounds i true) (a.put o.dst v) w' := by
   intro v w' hp hsn hvu
   refine ⟨by simpa using hsz, hcl', if (V i).isSome then sp else upd sp i v, ?_, ?_, ?_⟩
   ·have e : mix V (if (V i).isSome then sp else upd sp i v) = (fun j => if j = i then v else mix V sp j) := by
     funext j
     by_cases hji : j = i
     ·subst hji
      cases hV : V j with
      | none => simp [mix, hV, upd]
      | some u => simp [mix, hV, hvu u hV]
     ·cases hV : V i with
      | none => simp [mix, hji, upd]
      | some u => simp [mix, hji]
    rw [e]; exact atput v
   ·intro j hj
    by_cases hji : j = i
    ·subst hji
     have hV : V j = none := by simp only [D', Bool.and_eq_true, Option.isNone_iff_eq_none] at hj; exact hj.2
     simpa [hV, upd] using (hsn hV).2.1
    ·simp only [D', getD_set_ne false (Ne.symm hji)] at hj
     have hspj : (if (V i).isSome then sp else upd sp i v) j = sp j := by split <;> simp [upd, hji]
     rw [hspj]
     have hVj : V j = none := by simp only [Bool.and_eq_true, Option.isNone_iff_eq_none] at hj; exact hj.2
     have h1 := hf j hj
     cases hV : V i with
     | none => exact hF _ _ _ _ hVj h1 (hsn hV).1
     | some u => rw [hp (by rw [hV, hvu u hV])]; exact h1
   ·cases hV : V i with
    | none =>
     have e : D' (listed.setIfInBounds i true) = (fun j => D' listed j || decide (j = i)) := by
      funext j
      by_cases hji : j = i
      ·subst hji; simp [D', hV, hil]
      ·simp only [D', getD_set_ne false (Ne.symm hji)]; simp [hji]
     rw [e]; simpa [hV] using (hsn hV).2.2
    | some u =>
     have e : D' (listed.setIfInBounds i true) = D' listed := by
      funext j
      by_cases hji : j = i
      ·subst hji; simp [D', hV]
      ·simp only [D', getD_set_ne false (Ne.symm hji)]
     rw [e, hp (by rw [hV, hvu u hV])]; simpa [hV] using hg
  have asked' : ∀ K : Value -> World -> Prop, asked P o ops (puts ops (mix V sp) (List.range i) a0) w K -> (∀ v w', K v w' -> Inv (listed.setIfInBounds i true) (a.put o.dst v) w') -> wpOp P ops Q i (Inv (listed.setIfInBounds i true)) a w := by
   intro K hk hn
   unfold asked at hk
   rw [<- hwt] at hk
   unfold wpOp
   simp only [ho]
   split
   ·rename_i hw
    rw [if_pos hw] at hk
    unfold Oper.gives at hk
    rw [<- hex] at hk
    exact .inl (Oper.wp_of_gives (R := K) hk hn)
   ·rename_i hw
    rw [if_neg hw] at hk
    exact hn _ _ hk
  cases hV : V i with
  | none =>
   exact asked' _ (special i o ho hV (D' listed) sp w hD'i hwait hdeps hf hg) fun v w' h => fin v w' (fun e => by rw [hV] at e; cases e) (fun _ => h) (fun u e => by rw [hV] at e; cases e)
  | some v =>
   exact asked' _ (plain i o ho v hV (D' listed) sp w hD'i hwait hdeps hf hg) fun u w' h => fin u w' (fun _ => h.2) (fun e => by rw [hV] at e; cases e) (fun u' e => by rw [hV] at e; cases e; exact h.1.symm)
 ·intro listed a w hall ⟨hsz, _, sp, hat, hf, hg⟩
  have e : (fun j => listed.getD j false) = (fun j => decide (j < ops.size)) := by
   funext j
   by_cases hj : j < ops.size
   ·simp only [hall j hj]; simp [hj]
   ·have : ¬ j < listed.size := by omega
    simp [this, hj]
  have eD : D' listed = (fun j => decide (j < ops.size) && (V j).isNone) := by
   funext j
   have := congrFun e j
   simp only [D', this]
  rw [e] at hat
  rw [eD] at hg
  have h1 : At ops a0 (fun _ => false) (mix V sp) a0 := ⟨rfl, rfl, fun _ _ => rfl, fun _ _ h => by simp at h⟩
  have h2 := puts_spec hd (mix V sp) (List.range ops.size) _ a0 a0 h1 List.nodup_range (fun _ _ => rfl)
  have e2 : (fun j => false || decide (j ∈ List.range ops.size)) = (fun j => decide (j < ops.size)) := by funext j; simp [List.mem_range]
  rw [e2] at h2
  rw [hat.unique h2]
  exact done sp w (fun j hj hV => hf j (by simp only [eD, hV]; simp [hj])) hg
 ·unfold undone
  refine Nat.le_trans (List.length_filter_le _ _) ?_
  simp
 ·have e : ∀ j, (Array.replicate ops.size false).getD j false = false := by
   intro j; simp [Array.getElem?_replicate]; split <;> simp
  refine ⟨by simp, ?_, fun _ => undef, ?_, ?_, ?_⟩
  ·intro j o hj; rw [e j] at hj; cases hj
  ·exact ⟨rfl, rfl, fun _ _ => rfl, fun i t h => by simp only [e i] at h; cases h⟩
  ·intro j hj; simp only [D', e j] at hj; cases hj
  ·have e2 : D' (Array.replicate ops.size false) = (fun _ => false) := by funext j; simp only [D', e j]; rfl
   rw [e2]; exact h0
def DutiesS (P : Program) (ops : Array Oper) (V : List Bool) (R : World -> World -> Prop) (G : (Nat -> Bool) -> (Nat -> Value) -> World -> Prop) (F : Nat -> Value -> World -> Prop) :
  Nat -> ((Nat -> Value) -> Act) -> List Oper -> List (Option Value) -> Prop
 | k, fr, o :: l, some v :: L => (∀ (D : Nat -> Bool) (sp : Nat -> Value) (w : World), D k = false -> (∀ j ∈ waitersOf ops k, D j = false) -> (∀ j ∈ depsOf V o, D j = true /\ F j (sp j) w) -> G D sp w -> asked P o ops (fr sp) w fun u w' => u = v /\ w' = w) /\
   DutiesS P ops V R G F (k + 1) (fun sp => (fr sp).put o.dst v) l L
 | k, fr, o :: l, none :: L => (∀ (D : Nat -> Bool) (sp : Nat -> Value) (w : World), D k = false -> (∀ j ∈ waitersOf ops k, D j = false) -> (∀ j ∈ depsOf V o, D j = true /\ F j (sp j) w) -> G D sp w ->
    asked P o ops (fr sp) w fun u w' => R w w' /\ F k u w' /\ G (fun j => D j || decide (j = k)) (upd sp k u) w') /\
   DutiesS P ops V R G F (k + 1) (fun sp => (fr sp).put o.dst (sp k)) l L
 | _, _, [], [] => True
 | _, _, _, _ => False
theorem duties_specS {P : Program} {all : List Oper} {ms : List Bool} {pl : List (Option Value)} {R : World -> World -> Prop} {G : (Nat -> Bool) -> (Nat -> Value) -> World -> Prop} {F : Nat -> Value -> World -> Prop} {a0 : Act} :
  ∀ (l : List Oper) (L : List (Option Value)) (k : Nat) (fr : (Nat -> Value) -> Act), (∀ i, l[i]? = all[k + i]?) -> (∀ i, L[i]? = pl[k + i]?) ->
   (∀ sp, fr sp = puts all.toArray (mix (planAt pl) sp) (List.range k) a0) -> DutiesS P all.toArray ms R G F k fr l L ->
   (∀ i o, k <= i -> all[i]? = some o -> ∀ (D : Nat -> Bool) (sp : Nat -> Value) (w : World), D i = false -> (∀ j ∈ waitersOf all.toArray i, D j = false) -> (∀ j ∈ depsOf ms o, D j = true /\ F j (sp j) w) -> G D sp w ->
    asked P o all.toArray (puts all.toArray (mix (planAt pl) sp) (List.range i) a0) w fun u w' =>
     match planAt pl i with
     | some v => u = v /\ w' = w
     | none => R w w' /\ F i u w' /\ G (fun j => D j || decide (j = i)) (upd sp i u) w') /\
   (∀ sp, frameOf k fr l L sp = puts all.toArray (mix (planAt pl) sp) (List.range (k + l.length)) a0)
 | [], [], k, fr, hl, _, hfr, _ => by
  refine ⟨fun i o hi ho => ?_, fun sp => by simp only [frameOf, List.length_nil, Nat.add_zero]; exact hfr sp⟩
  have := hl (i - k)
  rw [show k + (i - k) = i by omega, ho] at this
  simp at this
 | o :: l, some v :: L, k, fr, hl, hL, hfr, hd => by
  obtain ⟨h1, h2⟩ := hd
  have ho : all[k]? = some o := by have := hl 0; simpa using this.symm
  have hp : planAt pl k = some v := by have := hL 0; simp at this; simp [planAt, <- this]
  have hfr' : ∀ sp, (fr sp).put o.dst v = puts all.toArray (mix (planAt pl) sp) (List.range (k + 1)) a0 := fun sp => by
   rw [List.range_succ, puts_snoc, <- hfr sp]
   simp [ho, mix, hp]
  have ih := duties_specS l L (k + 1) (fun sp => (fr sp).put o.dst v) (fun i => by have := hl (i + 1); simpa [Nat.add_assoc, Nat.add_comm 1 i] using this) (fun i => by have := hL (i + 1); simpa [Nat.add_assoc, Nat.add_comm 1 i] using this) hfr' h2
  refine ⟨fun i p hi hp' => ?_, fun sp => ?_⟩
  ·by_cases hik : i = k
   ·subst hik
    rw [ho] at hp'; cases hp'
    intro D sp w hD hwt hdp hG
    rw [hp, <- hfr sp]
    exact h1 D sp w hD hwt hdp hG
   ·exact ih.1 i p (by omega) hp'
  ·simp only [frameOf, List.length_cons]
   rw [ih.2 sp]; congr 2; omega
 | o :: l, none :: L, k, fr, hl, hL, hfr, hd => by
  obtain ⟨h1, h2⟩ := hd
  have ho : all[k]? = some o := by have := hl 0; simpa using this.symm
  have hp : planAt pl k = none := by have := hL 0; simp at this; simp [planAt, <- this]
  have hfr' : ∀ sp, (fr sp).put o.dst (sp k) = puts all.toArray (mix (planAt pl) sp) (List.range (k + 1)) a0 := fun sp => by
   rw [List.range_succ, puts_snoc, <- hfr sp]
   simp [ho, mix, hp]
  have ih := duties_specS l L (k + 1) (fun sp => (fr sp).put o.dst (sp k)) (fun i => by have := hl (i + 1); simpa [Nat.add_assoc, Nat.add_comm 1 i] using this) (fun i => by have := hL (i + 1); simpa [Nat.add_assoc, Nat.add_comm 1 i] using this) hfr' h2
  refine ⟨fun i p hi hp' => ?_, fun sp => ?_⟩
  ·by_cases hik : i = k
   ·subst hik
    rw [ho] at hp'; cases hp'
    intro D sp w hD hwt hdp hG
    rw [hp, <- hfr sp]
    exact h1 D sp w hD hwt hdp hG
   ·exact ih.1 i p (by omega) hp'
  ·simp only [frameOf, List.length_cons]
   rw [ih.2 sp]; congr 2; omega
 | [], _ :: _, _, _, _, _, _, hd => by simp [DutiesS] at hd
 | _ :: _, [], _, _, _, _, _, hd => by simp [DutiesS] at hd
theorem duties_lenS {P : Program} {ops : Array Oper} {ms : List Bool} {R : World -> World -> Prop} {G : (Nat -> Bool) -> (Nat -> Value) -> World -> Prop} {F : Nat -> Value -> World -> Prop} :
  ∀ (l : List Oper) (L : List (Option Value)) (k : Nat) (fr : (Nat -> Value) -> Act), DutiesS P ops ms R G F k fr l L -> L.length = l.length
 | [], [], _, _, _ => rfl
 | _ :: l, some _ :: L, k, _, h => by simp [duties_lenS l L (k + 1) _ h.2]
 | _ :: l, none :: L, k, _, h => by simp [duties_lenS l L (k + 1) _ h.2]
 | [], _ :: _, _, _, h => by simp [DutiesS] at h
 | _ :: _, [], _, _, h => by simp [DutiesS] at h
theorem wp_region_dutiesS {id : Nat} {a0 : Act} {w0 : World} {all : List Oper} (hm : P.follows .mixedOrders = true) (hok : planOk all.toArray = true)
  (pl : List (Option Value)) (ms : List Bool) (hms : pl.map Option.isNone = ms) (R : World -> World -> Prop) (G : (Nat -> Bool) -> (Nat -> Value) -> World -> Prop) (F : Nat -> Value -> World -> Prop)
  (hF : ∀ i v w w', F i v w -> R w w' -> F i v w')
  (h0 : G (fun _ => false) (fun _ => undef) { w0 with drawn := w0.drawn + 1 })
  (hd : DutiesS P all.toArray ms R G F 0 (fun _ => a0) all pl)
  (done : ∀ (sp : Nat -> Value) (w : World), (∀ j, ms.getD j false = true -> F j (sp j) w) -> G (fun j => ms.getD j false) sp w ->
   Q .normal (frameOf 0 (fun _ => a0) all pl sp) w) : (Code.region id all.toArray true).wp P Q a0 w0 := by
 simp only [planOk, Bool.and_eq_true] at hok
 obtain ⟨⟨⟨hb, hda⟩, hu⟩, hs⟩ := hok
 obtain ⟨h1, h2⟩ := duties_specS (a0 := a0) (pl := pl) all pl 0 (fun _ => a0) (fun i => by simp) (fun i => by simp) (fun sp => by simp [puts]) hd
 refine wp_region_planS hm hb hda hu hs (planAt pl) R G F (fun i v w w' _ => hF i v w w') h0 ?_ ?_ ?_
 ·intro i o ho v hv D sp w hD hwt hdp hf hG
  have := h1 i o (Nat.zero_le _) (by simpa using ho) D sp w hD (fun j hj => by
   obtain ⟨p, hp, hex⟩ := mem_waitersOf hj
   exact hwt j p hp hex) (fun j hj => by
   obtain ⟨e, he, hbd, hV, rfl⟩ := mem_depsOf hms hj
   exact ⟨hdp e he hbd hV, hf _ (hdp e he hbd hV)⟩) hG
  rw [hv] at this
  exact this
 ·intro i o ho hv D sp w hD hwt hdp hf hG
  have := h1 i o (Nat.zero_le _) (by simpa using ho) D sp w hD (fun j hj => by
   obtain ⟨p, hp, hex⟩ := mem_waitersOf hj
   exact hwt j p hp hex) (fun j hj => by
   obtain ⟨e, he, hbd, hV, rfl⟩ := mem_depsOf hms hj
   exact ⟨hdp e he hbd hV, hf _ (hdp e he hbd hV)⟩) hG
  rw [hv] at this
  exact this
 ·intro sp w hf hG
  have e := h2 sp
  rw [Nat.zero_add] at e
  simp only [List.size_toArray] at hf hG ⊢
  rw [<- e]
  have hlen := duties_lenS _ _ _ _ hd
  refine done sp w (fun j hj => ?_) ?_
  ·rw [mask_at hms, hlen] at hj
   simp only [Bool.and_eq_true, decide_eq_true_eq, Option.isNone_iff_eq_none] at hj
   exact hf j hj.1 hj.2
  ·have e2 : (fun j => ms.getD j false) = (fun j => decide (j < all.length) && (planAt pl j).isNone) := by
    funext j; rw [mask_at hms, hlen]
   rw [e2]; exact hG
end
end Go.Proofs.YthgoeiegdhphjaaGreatDoor.Flow
namespace Go.Proofs.YthgoeiegdhphjaaGreatDoor
open Go Go.RowKit Go.Proofs.YthgoeiegdhphjaaGreatDoor.Flow
theorem len8tab_lit : (⟨((([0, 1, 2, 2, 3, 3, 3, 3, 4, 4, 4, 4, 4, 4, 4, 4, 5, 5, 5, 5, 5, 5, 5, 5, 5, 5, 5, 5, 5, 5, 5, 5, 6, 6, 6, 6, 6, 6, 6, 6, 6, 6, 6, 6, 6, 6, 6, 6, 6, 6, 6, 6, 6, 6, 6, 6, 6, 6, 6, 6, 6, 6, 6, 6] : List UInt8).append [7, 7, 7, 7, 7, 7, 7, 7, 7, 7, 7, 7, 7, 7, 7, 7, 7, 7, 7, 7, 7, 7, 7, 7, 7, 7, 7, 7, 7, 7, 7, 7, 7, 7, 7, 7, 7, 7, 7, 7, 7, 7, 7, 7, 7, 7, 7, 7, 7, 7, 7, 7, 7, 7, 7, 7, 7, 7, 7, 7, 7, 7, 7, 7]).append (([8, 8, 8, 8, 8, 8, 8, 8, 8, 8, 8, 8, 8, 8, 8, 8, 8, 8, 8, 8, 8, 8, 8, 8, 8, 8, 8, 8, 8, 8, 8, 8, 8, 8, 8, 8, 8, 8, 8, 8, 8, 8, 8, 8, 8, 8, 8, 8, 8, 8, 8, 8, 8, 8, 8, 8, 8, 8, 8, 8, 8, 8, 8, 8] : List UInt8).append [8, 8, 8, 8, 8, 8, 8, 8, 8, 8, 8, 8, 8, 8, 8, 8, 8, 8, 8, 8, 8, 8, 8, 8, 8, 8, 8, 8, 8, 8, 8, 8, 8, 8, 8, 8, 8, 8, 8, 8, 8, 8, 8, 8, 8, 8, 8, 8, 8, 8, 8, 8, 8, 8, 8, 8, 8, 8, 8, 8, 8, 8, 8, 8])).toArray⟩ : ByteArray) = Lib.len8tab := by kernel_rfl
theorem len8_blen : ∀ n : Fin 256, Lib.len8 (n.val : Int) = (blen n.val : Int) := by decide +kernel
theorem tab_get (y : Int) (h0 : 0 <= y) (h1 : y <= 255) (h : y.toNat < Lib.len8tab.size) : ((Lib.len8tab[y.toNat]'h).toNat : Int) = (blen y.toNat : Nat) := by
 have e := len8_blen ⟨y.toNat, by omega⟩
 simp only [Int.toNat_of_nonneg h0] at e
 rw [<- e]
 unfold Lib.len8
 rw [getElem?_pos Lib.len8tab y.toNat h]
 rfl
theorem wrap_blen (k : Nat) (m n : Nat) (hk : k <= 24) (hm : blen m <= 64) (e : blen n = k + blen m) : wrap64 ((k : Int) + wrap64 (blen m : Nat)) = (blen n : Nat) := by
 rw [e, IntWalk.wrap64_in (blen m : Nat) ⟨by omega, by omega⟩, IntWalk.wrap64_in _ ⟨by omega, by omega⟩]; omega
theorem wrap_blen0 (m : Nat) (hm : blen m <= 64) : wrap64 (wrap64 (blen m : Nat)) = (blen m : Nat) := by
 rw [IntWalk.wrap64_in (blen m : Nat) ⟨by omega, by omega⟩, IntWalk.wrap64_in _ ⟨by omega, by omega⟩]
theorem len32_int (x : Int) (w : World) (h0 : 0 <= x) (hx : x <= 4294967295) :
  Calls Tryz.prog 209 #[.int .u32 x] w fun e w' => e = .returned (.int .i64 (blen x.toNat : Nat)) /\ w = w' := by
 have hs : Lib.len8tab.size = 256 := Lib.len8tab_size
 go_enter Tryz.func209, Tryz.ntmps209
 rw [len8tab_lit]
 go_wp2
 all_goals first
  | (go_ret; refine ⟨congrArg Ending.returned (congrArg (Value.int IntKind.i64) ?_), rfl⟩)
  | (exfalso; omega)
 all_goals first
  | (rw [tab_get (x / 65536 / 256) (by omega) (by omega)]; exact wrap_blen 24 _ _ (by omega) (blen_byte (by omega)) (by rw [show (x / 65536 / 256).toNat = x.toNat / 2 ^ 24 by omega]; exact blen_shift _ _ (by omega)))
  | (rw [tab_get (x / 65536) (by omega) (by omega)]; exact wrap_blen 16 _ _ (by omega) (blen_byte (by omega)) (by rw [show (x / 65536).toNat = x.toNat / 2 ^ 16 by omega]; exact blen_shift _ _ (by omega)))
  | (rw [tab_get (x / 256) (by omega) (by omega)]; exact wrap_blen 8 _ _ (by omega) (blen_byte (by omega)) (by rw [show (x / 256).toNat = x.toNat / 2 ^ 8 by omega]; exact blen_shift _ _ (by omega)))
  | (rw [tab_get x (by omega) (by omega)]; exact wrap_blen0 _ (blen_byte (by omega)))
theorem len32_calls (x : Nat) (w : World) (hx : x < 4294967296) :
  Calls Tryz.prog 209 #[.int .u32 x] w fun e w' => e = .returned (.int .i64 (blen x : Nat)) /\ w = w' := by
 have := len32_int x w (by omega) (by omega)
 simpa using this
theorem blen_words {ws : List Nat} {x : Nat} (hw : Words (ws ++ [x])) (hx : x ≠ 0) : blen (val (ws ++ [x])) = 32 * ws.length + blen x := by
 rw [val_snoc]
 have hb : B32 ws.length = 2 ^ (32 * ws.length) := by unfold B32; rw [show (4294967296 : Nat) = 2 ^ 32 from rfl, <- Nat.pow_mul]
 have h1 : val ws < B32 ws.length := Words.lt fun y hy => hw y (by simp [hy])
 have hd : (val ws + B32 ws.length * x) / 2 ^ (32 * ws.length) = x := by
  rw [<- hb, Nat.add_mul_div_left _ _ (B32_pos _), Nat.div_eq_of_lt h1, Nat.zero_add]
 have := blen_shift (val ws + B32 ws.length * x) (32 * ws.length) (by rw [hd]; omega)
 rw [hd] at this
 exact this
theorem bits_calls (w : World) (p : Option Addr) (n c N : Nat) (h : NatAt w p n c N) (hn : n < 1000000) :
  Calls Tryz.prog 177 #[.agg #[.slice p n c]] w fun e w' => e = .returned (.int .i64 (blen N : Nat)) /\ Below w.heap.size w w' := by
 have hbx := Box1.mk1 w (.slice p n c) 36
 by_cases h0 : n = 0
 ·have hN : N = 0 := h.zero.1 h0
  subst hN
  have hd : decide (n = 0) = true := by simpa using h0
  clear h0
  go_enter Tryz.func177, Tryz.ntmps177
  go_wp2_with fail
  refine (zero_calls _ p n c).mono ?_
  rintro e w1 ⟨rfl, hb1⟩
  go_wp2
  go_ret
  exact ⟨rfl, (hbx.later hb1).bel⟩
 ·obtain ⟨m, rfl⟩ : ∃ m, n = m + 1 := ⟨n - 1, by omega⟩
  obtain ⟨ws, h1, h2, h3, h4⟩ := h.ex
  have hl := h1.len
  obtain ⟨xs, x, rfl⟩ : ∃ xs x, ws = xs ++ [x] := by
   rcases List.eq_nil_or_concat ws with rfl | ⟨xs, x, h⟩
   ·simp at hl
   ·exact ⟨xs, x, by simpa using h⟩
  have hxm : xs.length = m := by simp at hl; omega
  have hx0 : x ≠ 0 := by simpa using h3
  have hx1 : x < 4294967296 := h2 x (by simp)
  have hbl := blen_words h2 hx0
  rw [h4, hxm] at hbl
  have HBL := Lib.hid hbl
  have hxb : blen x <= 32 := by rw [blen_le]; exact hx1
  obtain ⟨b, off, rfl, hb, hc⟩ := h1.pos (by omega)
  have hci : ∀ w', Below w.heap.size w w' -> w'.cell? ⟨b, off + m, none⟩ = some (.int .u32 (x : Nat)) := fun w' hb' => by
   rw [(bcell hb').1 _ _ hb]
   exact hc m x (by rw [<- hxm]; simp)
  have hd : decide (m + 1 = 0) = false := by simp
  clear hc hl h4 hbl hxm
  go_enter Tryz.func177, Tryz.ntmps177
  go_wp2_with fail
  refine (zero_calls _ _ (m + 1) c).mono ?_
  rintro e w1 ⟨rfl, hb1⟩
  have hbx1 := hbx.later hb1
  have c0 := hbx1.c0
  have hcx := hci w1 hbx1.bel
  clear hci
  go_wp2_with fail
  refine (len32_calls x _ hx1).mono ?_
  rintro e w2 ⟨rfl, rfl⟩
  go_wp2
  go_ret
  refine ⟨?_, hbx1.bel⟩
  rw [HBL.out]
  exact congrArg (fun z => Ending.returned (.int .i64 z)) (by omega)
def leOf (N n : Nat) : List Nat := (List.range n).map fun i => N / B8 i % 256
def beOf (N n : Nat) : List Nat := (leOf N n).reverse
def bsize (N : Nat) : Nat := (blen N + 7) / 8
theorem leOf_length (N n : Nat) : (leOf N n).length = n := by simp [leOf]
theorem leOf_succ (N n : Nat) : leOf N (n + 1) = leOf N n ++ [N / B8 n % 256] := by simp [leOf, List.range_succ]
theorem leOf_bytes (N n : Nat) : Bytes8 (leOf N n) := by
 intro x hx
 simp only [leOf, List.mem_map] at hx
 obtain ⟨j, _, rfl⟩ := hx
 exact Nat.mod_lt _ (by omega)
theorem bsize_lt (N : Nat) : N < B8 (bsize N) := by
 rw [B8_pow]
 refine (blen_le N _).1 ?_
 unfold bsize; omega
theorem bsize_le {N n : Nat} : bsize N <= n ↔ N < B8 n := by
 rw [B8_pow, <- blen_le]; unfold bsize; omega
theorem leOf_pad {N k n : Nat} (h : N < B8 k) (hk : k <= n) : leOf N k ++ List.replicate (n - k) 0 = leOf N n := by
 obtain ⟨d, rfl⟩ : ∃ d, n = k + d := ⟨n - k, by omega⟩
 rw [Nat.add_sub_cancel_left]
 clear hk
 induction d with
 | zero => simp
 | succ d ih =>
  rw [List.replicate_succ', <- List.append_assoc, ih, <- Nat.add_assoc, leOf_succ]
  congr 2
  have : B8 k <= B8 (k + d) := B8_mono (by omega)
  rw [Nat.div_eq_of_lt (by omega)]
theorem le_leOf (N : Nat) : ∀ n, le (leOf N n) = N % B8 n
 | 0 => by simp [leOf, le, B8_zero, Nat.mod_one]
 | n + 1 => by rw [leOf_succ, le_snoc, leOf_length, le_leOf N n, B8_succ, Nat.mul_comm 256, Nat.mod_mul]
theorem set_reverse (l : List Nat) (k x : Nat) (hk : k < l.length) : l.reverse.set (l.length - 1 - k) x = (l.set k x).reverse := by
 apply List.ext_getElem (by simp)
 intro i h1 h2
 simp only [List.length_set, List.length_reverse] at h1
 rw [List.getElem_set, List.getElem_reverse, List.getElem_reverse, List.getElem_set]
 simp only [List.length_set]
 by_cases h : l.length - 1 - k = i
 ·rw [if_pos h, if_pos (by omega)]
 ·rw [if_neg h, if_neg (by omega)]
theorem byte_of_word {N q r : Nat} (hr : r < 4) : N / B32 q % 4294967296 / B8 r % 256 = N / B8 (4 * q + r) % 256 := by
 have e : (4294967296 : Nat) = B8 r * (256 * B8 (3 - r)) := by
  rw [<- B8_succ, <- B8_add, show r + (3 - r + 1) = 4 by omega]; rfl
 rw [e, Nat.mod_mul_right_div_self, Nat.mod_mul_right_mod, Nat.div_div_eq_div_mul, B8_add, B8_four]
theorem size_calls (w : World) (p : Option Addr) (n c N : Nat) (h : NatAt w p n c N) (hn : n < 1000000) (hN : blen N <= 1000000000) :
  Calls Tryz.prog 131 #[.agg #[.slice p n c]] w fun e w' => e = .returned (.int .i64 (bsize N : Nat)) /\ Below w.heap.size w w' := by
 have hbx := Box1.mk1 w (.slice p n c) 36
 obtain ⟨k, hk⟩ : ∃ k, blen N = k := ⟨_, rfl⟩
 have HK : Hid (bsize N = (k + 7) / 8) := by rw [<- hk]; rfl
 go_enter Tryz.func131, Tryz.ntmps131
 go_wp2_with fail
 refine (bits_calls _ p n c N (h.below hbx.bel) hn).mono ?_
 rintro e w1 ⟨rfl, hb1⟩
 rw [hk] at hN
 simp only [hk]
 clear hk
 go_wp2
 go_ret
 refine ⟨?_, (hbx.later hb1).bel⟩
 rw [HK.out]
 exact congrArg (fun z => Ending.returned (.int .i64 z)) (by omega)
theorem bytes_blk (w : World) (p : Option Addr) (n c N s : Nat) (h : NatAt w p n c N) (hn : n < 1000000) (hN : blen N <= 1000000000) (hs : (s : Int) <= 1000000) (h2 : ¬ (s : Int) < bsize N) :
  Calls Tryz.prog 130 #[.agg #[.slice p n c], .int .i64 s] w fun e w' => ∃ g, e = .returned (.tuple #[.slice (some ⟨g, 0, none⟩) s s, .int .i64 0]) /\ Blk w' g 5 .u8 (beOf N s) /\ Below w.heap.size w w' /\ w.heap.size <= g := by
 have hbx := Box1.mk1 w (.slice p n c) 36
 have h1 : ¬ (s : Int) < 0 := by omega
 obtain ⟨m, hm⟩ : ∃ m, bsize N = m := ⟨_, rfl⟩
 have HM : Hid (∀ k, m <= k ↔ N < B8 k) := fun k => by rw [<- hm]; exact bsize_le
 rw [hm] at h2
 obtain ⟨ws, r1, r2, r3, r4⟩ := h.ex
 have hmk := make_u8 s (by omega)
 have hms : m <= s := by omega
 have HR4 := Lib.hid r4
 go_enter Tryz.func130, Tryz.ntmps130
 go_wp2_with fail
 refine (size_calls _ p n c N (h.below hbx.bel) hn hN).mono ?_
 rintro e w1 ⟨rfl, hb1⟩
 simp only [hm]
 clear hm r4
 have hbx1 := hbx.later hb1
 have hz1 : w.heap.size < w1.heap.size := hbx1.size
 go_wp2
 go_loopw [24] (fun i wr => ∃ k : Nat, k <= m /\ i = .int .i64 k /\ Box1 w wr (.slice p n c) /\ w1.heap.size < wr.heap.size /\ Below w1.heap.size w1 wr /\ Blk wr w1.heap.size 5 .u8 ((leOf N k ++ List.replicate (s - k) 0).reverse)) (fun i _ => m - (intOf i).toNat)
 case atStart =>
  refine ⟨0, by omega, rfl, hbx1.alloc _, by simp, (Below.refl _ _).alloc (Nat.le_refl _) _, ?_⟩
  have := Blk.zeros w1 5 .u8 s
  simpa [leOf] using this
 case round =>
  obtain ⟨k, hk, rfl, hbr, hsz, hbw, hblk⟩ := hrel
  have c0 := hbr.c0
  by_cases hkm : k < m
  ·have hkn : k / 4 < n := by
    rcases Nat.lt_or_ge (k / 4) n with h3 | h3
    ·exact h3
    ·exfalso
     have h4 := r2.lt
     rw [<- r1.len] at h4
     have h5 : N < B8 k := by
      have : B32 n <= B8 k := by rw [<- B8_four]; exact B8_mono (by omega)
      have := HR4.out; omega
     have h6 := (HM.out k).2 h5
     omega
   obtain ⟨b, off, rfl, hb, hc⟩ := r1.pos (by omega)
   obtain ⟨x, hx⟩ : ∃ x, ws.getD (k / 4) 0 = x := ⟨_, rfl⟩
   have hci : wr.cell? ⟨b, off + k / 4, none⟩ = some (.int .u32 (x : Nat)) := by
    rw [(bcell hbr.bel).1 _ _ hb]
    exact hc _ x (by rw [<- hx, List.getD_eq_getElem?_getD]; simp [show k / 4 < ws.length by have := r1.len; omega])
   have hx1 : x < 4294967296 := by rw [<- hx]; exact r2.get _
   have hlen : (leOf N k ++ List.replicate (s - k) 0).length = s := by rw [List.length_append, leOf_length, List.length_replicate]; omega
   have hcl : wr.cell? ⟨w1.heap.size, s - 1 - k, none⟩ = some (.int .u8 (((leOf N k ++ List.replicate (s - k) 0).reverse.getD (s - 1 - k) 0 : Nat))) := hblk.cell (by
    rw [List.getD_eq_getElem?_getD]
    have : s - 1 - k < (leOf N k ++ List.replicate (s - k) 0).reverse.length := by rw [List.length_reverse, hlen]; omega
    simp only [List.getElem?_eq_getElem this, Option.getD_some])
   have hfr := hblk.free (s - 1 - k)
   have hbyte : x / 2 ^ (k % 4 * 8) % 256 = N / B8 k % 256 := by
    have hd := digit ws r2 (k / 4)
    rw [HR4.out, hx] at hd
    rw [<- hd, Nat.mul_comm (k % 4) 8, <- B8_pow, byte_of_word (Nat.mod_lt _ (by omega))]
    congr 3; omega
   have hset : Hid (Blk (wr.setCell ⟨w1.heap.size, s - 1 - k, none⟩ (.int .u8 ((N / B8 k % 256 : Nat)))) w1.heap.size 5 .u8 ((leOf N (k + 1) ++ List.replicate (s - (k + 1)) 0).reverse)) := by
    have h5 := hblk.set (s - 1 - k) (N / B8 k % 256)
    have h6 := set_reverse (leOf N k ++ List.replicate (s - k) 0) k (N / B8 k % 256) (by rw [hlen]; omega)
    rw [hlen] at h6
    rw [h6] at h5
    have h7 : s - k = (s - (k + 1)) + 1 := by omega
    have h8 : (leOf N k ++ List.replicate (s - k) 0).set k (N / B8 k % 256) = leOf N (k + 1) ++ List.replicate (s - (k + 1)) 0 := by
     rw [h7, leOf_succ]
     have := set_zeros (leOf N k) (s - (k + 1)) (N / B8 k % 256)
     rw [leOf_length] at this
     exact this
    rw [h8] at h5
    exact h5
   have HX := Lib.hid hx
   have HB := Lib.hid hbyte
   have hk3 : k % 4 < 4 := Nat.mod_lt _ (by omega)
   clear hc hx hbyte hlen
   go_wp2
   go_roundw
   case rel =>
    have e : ((x : Int) / 2 ^ (k % 4 * 8) % 256) = ((N / B8 k % 256 : Nat) : Int) := by
     rw [<- HB.out]; simp
    rw [e]
    exact ⟨k + 1, by omega, by go_num, hbr.below (B := w.heap.size + 1) ((Below.refl _ _).setCell (by simp; omega) _) (Nat.le_refl _), by simpa using hsz, hbw.setCell (by simp) _, hset.out⟩
   case measure => simp [intOf]; omega
  ·have hkm' : m <= k := by omega
   rw [leOf_pad ((HM.out k).1 hkm') (by omega)] at hblk
   have HRow : Hid (Blk wr w1.heap.size 5 .u8 (beOf N s)) := hblk
   have hbel := hbr.bel
   go_wp2
   go_ret2
   exact ⟨_, rfl, HRow.out, hbel, Nat.le_of_lt hz1⟩
open Go Go.RowKit
def GivesHash (m : List Nat) (w : World) (e : Ending) (w' : World) : Prop := ∃ g, e = .returned (.pointer (some ⟨g, 0, none⟩)) /\ w.heap.size <= g /\ Below w.heap.size w w' /\ HashAt w' g m
theorem HashAt.new {w : World} {g : Nat} (h : HBox w g hnull (List.replicate 64 0) 0) : HashAt w g [] :=
 ⟨List.replicate 64 0, by simp, fun x hx => by have := (List.mem_replicate.1 hx).2; omega, h, rfl⟩
def hzero : List Value := hcells (List.replicate 8 0) (List.replicate 64 0) 0
def hlen (L : Nat) : List Value := hcells (List.replicate 8 0) (List.replicate 64 0) L
theorem hlen_length (L : Nat) : (hlen L).length = 73 := rfl
theorem hzero_length : hzero.length = 73 := rfl
theorem zero_hash (w : World) : (zeroValue 254).run Tryz.prog w = .ok (.agg hzero.toArray) w := by
 have h : (Tryz.prog.info? 254).map (·.zero) = some (some (.agg hzero.toArray)) := by kernel_rfl
 cases hi : Tryz.prog.info? 254 with
 | none => rw [hi] at h; cases h
 | some i =>
  rw [hi] at h
  have hz : i.zero = some (.agg hzero.toArray) := by simpa using h
  simp [zeroValue, typeInfo, hi, hz]
theorem shanew_calls (w : World) (hT : Tabs w) : Calls Tryz.prog 189 #[] w (GivesHash [] w) := by
 have hz := zero_hash
 have hzl := hzero_length
 obtain ⟨t0, fr0, hf0⟩ := hT.first
 have hi8 : (Tryz.prog.info? 252).map (·.size) = some (hnull.map fun (x : Nat) => Value.int .u32 x).toArray.size := by
  rw [show (hnull.map fun (x : Nat) => Value.int .u32 x).toArray.size = 8 by rfl]; kernel_rfl
 go_enter Tryz.func189, Tryz.ntmps189
 go_wp2_with (refine wpList_load_row rfl 252 _ rfl 1 rfl t0 (hnull.map fun (x : Nat) => Value.int .u32 x).toArray fr0 _ hf0 Tryz.underlying252 rfl hi8 ?_)
 have hf : (List.foldl (fun (cs : Array Value) x => cs.setIfInBounds x.snd x.fst) hzero.toArray (hnull.map fun (x : Nat) => Value.int .u32 x).zipIdx) = (hcells hnull (List.replicate 64 0) 0).toArray := by kernel_rfl
 refine bodyPost_ret (v := .pointer (some ⟨w.heap.size, 0, none⟩)) (by simp [results, Tryz.results189, go_sem]) rfl ⟨_, rfl, Nat.le_refl _, (Below.refl _ _).alloc (Nat.le_refl _) _, HashAt.new ?_⟩
 rw [hf]
 exact heap_alloc_new w _
theorem slice_state (w : World) (b off : Nat) :
  (Instr.sliceAt 252 (.pointer (some ⟨b, off, none⟩)) none none none).run Tryz.prog w = .ok (.slice (some ⟨b, off, none⟩) 8 8) w := by
 have hlen : Tryz.prog.arrayLen 252 = 8 := by kernel_rfl
 rw [run_sliceAt_array_all w 252 ⟨b, off, none⟩ Tryz.underlying252, hlen]
 have hs : (sizeOf (Tryz.prog.elem 252)).run Tryz.prog w = .ok 1 w := by
  have : Tryz.prog.elem 252 = 117 := by kernel_rfl
  rw [this]
  simp [go_sem]
 rw [hs]
 simp [slicedAt, Addr.add]
theorem slice_block (w : World) (b off : Nat) :
  (Instr.sliceAt 248 (.pointer (some ⟨b, off, none⟩)) none none none).run Tryz.prog w = .ok (.slice (some ⟨b, off, none⟩) 64 64) w := by
 have hlen : Tryz.prog.arrayLen 248 = 64 := by kernel_rfl
 rw [run_sliceAt_array_all w 248 ⟨b, off, none⟩ Tryz.underlying248, hlen]
 have hs : (sizeOf (Tryz.prog.elem 248)).run Tryz.prog w = .ok 1 w := by
  have : Tryz.prog.elem 248 = 5 := by kernel_rfl
  rw [this]
  simp [go_sem]
 rw [hs]
 simp [slicedAt, Addr.add]
theorem copy_calls (w : World) (g : Nat) (m : List Nat) (hH : HashAt w g m) : Calls Tryz.prog 215 #[.pointer (some ⟨g, 0, none⟩)] w (GivesHash m w) := by
 obtain ⟨pend, q1, q2, q3, q4⟩ := hH.ex
 have hst8 := blocks_length m (m.length / 64)
 obtain ⟨st, hst⟩ : ∃ st, blocks m (m.length / 64) = st := ⟨_, rfl⟩
 obtain ⟨L, hL⟩ : ∃ L, m.length % 18446744073709551616 = L := ⟨_, rfl⟩
 have c72 := q3.cell (hcells_len hst8 q1)
 have HST := Lib.hid hst
 have HL := Lib.hid hL
 rw [hL] at c72 q3
 rw [hst] at q3 hst8
 have hlt := q3.lt
 have hz := zero_hash
 have hzl := hzero_length
 have HQ3 := Lib.hid q3
 have hcS : ∀ (j : Nat) (v : Value), (st.map fun (x : Nat) => Value.int .u32 x)[j]? = some v -> w.cell? ((⟨g, 0, none⟩ : Addr).add j) = some v := fun j v hv => by
  rw [List.getElem?_map] at hv
  obtain ⟨x, hx, rfl⟩ := Option.map_eq_some_iff.1 hv
  have hj : j < 8 := by have := (List.getElem?_eq_some_iff.1 hx).1; omega
  rw [add_plain, Nat.zero_add]
  refine q3.cell ?_
  rw [hcells_state hst8 hj, List.getD_eq_getElem?_getD, hx]; rfl
 have hcP : ∀ (j : Nat) (v : Value), (pend.map fun (x : Nat) => Value.int .u8 x)[j]? = some v -> w.cell? ((⟨g, 8, none⟩ : Addr).add j) = some v := fun j v hv => by
  rw [List.getElem?_map] at hv
  obtain ⟨x, hx, rfl⟩ := Option.map_eq_some_iff.1 hv
  have hj : j < 64 := by have := (List.getElem?_eq_some_iff.1 hx).1; omega
  rw [add_plain]
  refine q3.cell ?_
  rw [hcells_pend hst8 q1 hj, List.getD_eq_getElem?_getD, hx]; rfl
 have HS8 := Lib.hid hst8
 have HQ1 := Lib.hid q1
 have HCS := Lib.hid hcS
 have HCP := Lib.hid hcP
 have hOne : ∀ (k : IntKind) (xs : List Nat), ∀ v ∈ (xs.map fun (x : Nat) => Value.int k x), v.oneCell' = true := fun k xs v hv => by
  obtain ⟨x, _, rfl⟩ := List.mem_map.1 hv
  rfl
 have HON := Lib.hid hOne
 have hset : hzero.set 72 (.int .u64 (L : Nat)) = hlen L := hcells_set_len (by simp) (by simp)
 clear hL hst q3 hcS hcP hOne
 obtain ⟨csS, hcsS⟩ : ∃ cs, (st.map fun (x : Nat) => Value.int .u32 x) = cs := ⟨_, rfl⟩
 obtain ⟨csP, hcsP⟩ : ∃ cs, (pend.map fun (x : Nat) => Value.int .u8 x) = cs := ⟨_, rfl⟩
 have hlS : csS.length = 8 := by rw [<- hcsS, List.length_map]; exact hst8
 have hlP : csP.length = 64 := by rw [<- hcsP, List.length_map]; exact q1
 have HSP1 : Hid (splice (hlen L) 0 csS = hcells st (List.replicate 64 0) L) := by rw [<- hcsS]; exact splice_state (by simp) hst8
 have HSP2 : Hid (splice (hcells st (List.replicate 64 0) L) 8 csP = hcells st pend L) := by
  rw [<- hcsP]
  have h := splice_pend (st := st) (pend := List.replicate 64 0) (len := L) (xs := pend) (r := 0) hst8 (by simp [q1])
  refine h.trans ?_
  congr 1
  unfold splice
  rw [List.take_zero, List.nil_append, List.drop_of_length_le (by simp [q1]), List.append_nil]
 rw [hcsS] at HCS
 rw [hcsP] at HCP
 have HO1 : Hid (∀ v ∈ csS, v.oneCell' = true) := by rw [<- hcsS]; exact HON.out _ _
 have HO2 : Hid (∀ v ∈ csP, v.oneCell' = true) := by rw [<- hcsP]; exact HON.out _ _
 clear hcsS hcsP hst8 q1
 go_enter Tryz.func215, Tryz.ntmps215
 go_wp2
 have hn0 := heap_alloc_new w (.cells (hlen L).toArray 254)
 have hb0 : Below w.heap.size w (w.alloc (.cells (hlen L).toArray 254)) := bal
 have hsz0 : w.heap.size < (w.alloc (.cells (hlen L).toArray 254)).heap.size := by simp
 generalize w.alloc (.cells (hlen L).toArray 254) = w1 at *
 have HN0 := Lib.hid hn0
 have hcS1 : ∀ (j : Nat) (v : Value), csS[j]? = some v -> w1.cell? ((⟨g, 0, none⟩ : Addr).add j) = some v := fun j v hv => by
  have h := HCS.out j v hv
  rw [add_plain] at h ⊢
  rw [(bcell hb0).1 _ _ hlt]; exact h
 have HCS1 := Lib.hid hcS1
 have HF1 : Hid (0 + csS.length <= (hlen L).length) := by show 0 + csS.length <= (hlen L).length; rw [hlS, hlen_length]; omega
 have HM1 : Hid (csS.length = Nat.min 8 8) := hlS
 clear hcS1 hn0 hset
 have hsl1 := slice_state
 have hsl2 := slice_block
 go_region_law (refine step_copy_but rfl (.tmp 15) (.tmp 19) 34 34 rfl 117 Tryz.underlying34 (by kernel_rfl) (some ⟨w.heap.size, 0, none⟩) (some ⟨g, 0, none⟩) 8 8 8 8 (by simp [Act.eval, Act.put, go_sem]) (by simp [Act.eval, Act.put, go_sem]) w.heap.size 0 (hlen L) 254 HN0.out csS HM1.out (fun _ => ⟨rfl, _, rfl, HCS1.out⟩) HF1.out HO1.out ?_; intro w4 hg4 hb4)
 rw [HSP1.out] at hg4
 have hb5 : Below w.heap.size w w4 := hb0.trans ((hb4.of_drew).below (Nat.le_refl _) (Nat.le_of_lt hsz0))
 have hcP1 : ∀ (j : Nat) (v : Value), csP[j]? = some v -> w4.cell? ((⟨g, 8, none⟩ : Addr).add j) = some v := fun j v hv => by
  have h := HCP.out j v hv
  rw [add_plain] at h ⊢
  rw [(bcell hb5).1 _ _ hlt]; exact h
 have HCP1 := Lib.hid hcP1
 have HB5 := Lib.hid hb5
 have HF2 : Hid (8 + csP.length <= (hcells st (List.replicate 64 0) L).length) := by show 8 + csP.length <= List.length _; rw [hlP, hcells_length HS8.out (by simp)]; omega
 have HM2 : Hid (csP.length = Nat.min 64 64) := hlP
 obtain ⟨cur, hcur⟩ : ∃ cur, hcells st (List.replicate 64 0) L = cur := ⟨_, rfl⟩
 rw [hcur] at hg4 HF2 HSP2
 have HC4 := hg4
 clear hcP1 hb5 hcur hg4 HN0 hb4 hb0 hsz0
 go_wp2
 have hs4 : w.heap.size < w4.heap.size := (Array.getElem?_eq_some_iff.1 HC4.out).1
 go_region_law (refine step_copy_but rfl (.tmp 24) (.tmp 28) 60 60 rfl 5 Tryz.underlying60 (by kernel_rfl) (some ⟨w.heap.size, 8, none⟩) (some ⟨g, 8, none⟩) 64 64 64 64 (by simp [Act.eval, Act.put, go_sem]) (by simp [Act.eval, Act.put, go_sem]) w.heap.size 8 cur 254 HC4.out csP HM2.out (fun _ => ⟨rfl, _, rfl, HCP1.out⟩) HF2.out HO2.out ?_; intro w6 hg6 hb6)
 rw [HSP2.out] at hg6
 have hb7 : Below w.heap.size w w6 := HB5.out.trans ((hb6.of_drew).below (Nat.le_refl _) (Nat.le_of_lt hs4))
 have HB7 := Lib.hid hb7
 clear hb6 hb7
 go_wp2
 go_ret
 refine ⟨_, rfl, Nat.le_refl _, HB7.out, ⟨pend, HQ1.out, q2, ?_, q4⟩⟩
 rw [HST.out, HL.out]
 exact hg6.out
def GivesSum (m : List Nat) (w : World) (e : Ending) (w' : World) : Prop := ∃ q, e = .returned (.slice (some ⟨q, 0, none⟩) 32 32) /\ w.heap.size <= q /\ Below w.heap.size w w' /\ Blk w' q 5 .u8 (sha m)
theorem hsum_calls (w : World) (g : Nat) (m : List Nat) (hT : Tabs w) (hH : HashAt w g m) : Calls Tryz.prog 192 #[.pointer (some ⟨g, 0, none⟩)] w (GivesSum m w) := by
 have hlt := hH.lt
 obtain ⟨L, hL⟩ : ∃ L, m.length % 18446744073709551616 = L := ⟨_, rfl⟩
 have hL64 : L < 18446744073709551616 := by omega
 have HL := Lib.hid hL
 clear hL
 go_enter Tryz.func192, Tryz.ntmps192
 go_wp2_with fail
 refine (copy_calls w g m hH).mono ?_
 rintro e w1 ⟨q, rfl, hq, hb1, hh1⟩
 have hT1 := hT.below hb1 hT.size
 have c72 : w1.cell? ⟨g, 72, none⟩ = some (.int .u64 (L : Nat)) := by
  obtain ⟨pend, q1, _, q3, _⟩ := (hH.below hb1 hlt).ex
  have h := q3.cell (hcells_len (blocks_length m _) q1)
  rw [HL.out] at h
  exact h
 go_wp2_with fail
 refine (behind_calls w1 L hL64).mono ?_
 rintro e w2 ⟨rfl, hb2, hk2⟩
 have hh2 := hh1.below hb2 hh1.lt
 have hT2 := hT1.below hb2 hT1.size
 have hz12 := hb1.size
 have hz22 := hb2.size
 have hbl : behind L = behind m.length := by rw [<- HL.out, behind_mod]
 rw [hbl] at hk2
 have hnl : noughts L + 9 = (behind m.length).length := by rw [<- hbl, behind_length]
 have hrow : RowIn w2 .u8 (some ⟨w1.heap.size, 0, none⟩) (noughts L + 9) (noughts L + 9) (behind m.length) :=
  ⟨hnl, Nat.le_refl _, by have : noughts L < 64 := Nat.mod_lt _ (by omega); omega, fun _ => hk2.row hnl (Nat.le_refl _) (by have : noughts L < 64 := Nat.mod_lt _ (by omega); omega)⟩
 have hqlt := hh1.lt
 clear hbl hnl
 go_wp2_with fail
 refine (shaadd_calls w2 q m _ _ _ (behind m.length) hT2 hh2 (by have := hT.size; omega) hrow (behind_bytes _) (fun _ a ha => by cases ha; show w1.heap.size ≠ q; omega)).mono ?_
 rintro e w3 ⟨rfl, hb3, hh3⟩
 have hb13 : Below w.heap.size w w3 := (hb1.trans (hb2.mono hz12)).trans (hb3.below hq (by omega))
 obtain ⟨pend, q1, q2, q3, q4⟩ := hh3.ex
 have hz13 := hb13.size
 go_wp2_with fail
 refine (shabytes_calls w3 q _ pend _ (blocks_length _ _) (blocks_words _ _) q3).mono ?_
 rintro e w4 ⟨rfl, hb4, hk4⟩
 rw [List.length_append] at hk4
 go_wp2
 go_ret
 exact ⟨_, rfl, hz13, hb13.trans (hb4.mono hz13), hk4⟩
def brw (x y c : Nat) : Nat := if x < y + c then 1 else 0
theorem brw_le (x y c : Nat) : brw x y c <= 1 := by unfold brw; split <;> omega
theorem top_bit (n : Nat) (h : n < 4294967296) : n.testBit 31 = decide (2147483648 <= n) := by
 rw [Nat.testBit_eq_decide_div_mod_eq]
 simp only [Nat.reducePow]
 rw [decide_eq_decide]
 omega
theorem top_div (n : Nat) (h : n < 4294967296) : n / 2147483648 = (n.testBit 31).toNat := by
 rw [top_bit n h]
 by_cases h1 : 2147483648 <= n
 ·simp [h1]; omega
 ·simp [h1]; omega
theorem and_lt32n {a b : Nat} (h : b < 4294967296) : a &&& b < 4294967296 := Nat.lt_of_le_of_lt Nat.and_le_right h
theorem xor_lt32n {a b : Nat} (ha : a < 4294967296) (hb : b < 4294967296) : a ^^^ b < 4294967296 := Nat.xor_lt_two_pow (n := 32) ha hb
theorem or_lt32n {a b : Nat} (ha : a < 4294967296) (hb : b < 4294967296) : a ||| b < 4294967296 := Nat.or_lt_two_pow (n := 32) ha hb
theorem sub32_top (x y c d : Nat) (hx : x < 4294967296) (hy : y < 4294967296) (hc : c <= 1) (hd : d = (x + 8589934592 - y - c) % 4294967296) :
  (((4294967295 ^^^ x) &&& y) ||| ((4294967295 ^^^ (x ^^^ y)) &&& d)) / 2147483648 = brw x y c := by
 have hdl : d < 4294967296 := by rw [hd]; exact Nat.mod_lt _ (by omega)
 rw [top_div _ (or_lt32n (and_lt32n hy) (and_lt32n hdl))]
 simp only [Nat.testBit_or, Nat.testBit_and, Nat.testBit_xor]
 rw [top_bit x hx, top_bit y hy, top_bit d hdl, top_bit 4294967295 (by omega)]
 unfold brw
 by_cases h1 : 2147483648 <= x <;> by_cases h2 : 2147483648 <= y <;> by_cases h3 : 2147483648 <= d <;> by_cases h4 : x < y + c <;> simp [h1, h2, h3, h4] <;> omega
theorem sub32_bits (x y c : Nat) (hx : x < 4294967296) (hy : y < 4294967296) (hc : c <= 1) :
  bits BinOp.or IntKind.u32 (bits BinOp.and IntKind.u32 (bits BinOp.xor IntKind.u32 IntKind.u32.max ↑x) ↑y)
        (bits BinOp.and IntKind.u32
         (bits BinOp.xor IntKind.u32 IntKind.u32.max (bits BinOp.xor IntKind.u32 ↑x ↑y))
         (((x : Int) - y - c) % 4294967296)) / 2147483648 = (brw x y c : Nat) := by
 have hm : IntKind.u32.max = ((4294967295 : Nat) : Int) := rfl
 obtain ⟨d, hd⟩ : ∃ d, d = (x + 8589934592 - y - c) % 4294967296 := ⟨_, rfl⟩
 have hd' : ((x : Int) - y - c) % 4294967296 = (d : Nat) := by omega
 have hdl : d < 4294967296 := by omega
 rw [hm, hd', u32_xor_nat _ _ (by omega) hx, u32_xor_nat _ _ hx hy, u32_xor_nat _ _ (by omega) (xor_lt32n hx hy), u32_and_nat _ _ (xor_lt32n (by omega) hx) hy,
  u32_and_nat _ _ (xor_lt32n (by omega) (xor_lt32n hx hy)) hdl, u32_or_nat _ _ (and_lt32n hy) (and_lt32n hdl)]
 have := sub32_top x y c d hx hy hc hd
 omega
theorem sub32_calls (x y c : Nat) (w : World) (hx : x < 4294967296) (hy : y < 4294967296) (hc : c <= 1) :
  Calls Tryz.prog 165 #[.int .u32 x, .int .u32 y, .int .u32 c] w fun e w' =>
   e = .returned (.tuple #[.int .u32 (((x : Int) - y - c) % 4294967296), .int .u32 (brw x y c : Nat)]) /\ w = w' := by
 have hs : IntKind.u32.signed = false := rfl
 have hq := Lib.hid (sub32_bits x y c hx hy hc)
 go_enter Tryz.func165, Tryz.ntmps165
 go_wp2
 go_ret2
 have e6 : (((x : Int) - y) % 4294967296 - c) % 4294967296 = ((x : Int) - y - c) % 4294967296 := by omega
 exact ⟨by rw [hq.out]; exact congrArg (fun z => Ending.returned (.tuple #[.int .u32 z, .int .u32 (brw x y c : Nat)])) e6, rfl⟩
structure DifSt (A B : List Nat) (k : Nat) (S : List Nat) (bw : Nat) : Prop where
 len : S.length = k
 words : Words S
 carry : bw <= 1
 eq : val S + val (B.take k) = val (A.take k) + B32 k * bw
theorem DifSt.start (A B : List Nat) : DifSt A B 0 [] 0 := ⟨rfl, Words.nil, by omega, by simp [val]⟩
theorem DifSt.step {A B : List Nat} {k : Nat} {S : List Nat} {bw d : Nat} (h : DifSt A B k S bw) (hA : Words A) (hB : Words B) (hd : (d : Int) = (((A.getD k 0 : Nat) : Int) - (B.getD k 0 : Nat) - bw) % 4294967296) :
  DifSt A B (k + 1) (S ++ [d]) (brw (A.getD k 0) (B.getD k 0) bw) := by
 have h1 := hA.get k
 have h2 := hB.get k
 have h3 := h.carry
 refine ⟨by simp [h.len], h.words.snoc (by omega), brw_le _ _ _, ?_⟩
 rw [val_snoc, h.len, val_take_succ', val_take_succ', B32_succ]
 have e := h.eq
 have hb : d + B.getD k 0 + bw = A.getD k 0 + 4294967296 * brw (A.getD k 0) (B.getD k 0) bw := by
  unfold brw; split <;> omega
 generalize A.getD k 0 = x at *
 generalize B.getD k 0 = y at *
 generalize brw x y bw = q at *
 generalize B32 k = b at *
 have e2 : b * (d + y + bw) = b * (x + 4294967296 * q) := by rw [hb]
 have e3 : b * (4294967296 * q) = 4294967296 * b * q := by rw [<- Nat.mul_assoc, Nat.mul_comm b]
 rw [Nat.mul_add, Nat.mul_add, Nat.mul_add, e3] at e2
 omega
theorem DifSt.last {A B : List Nat} {k : Nat} {S : List Nat} {bw : Nat} (h : DifSt A B k S bw) (hA : A.length = k) (hB : B.length <= k) (hle : val B <= val A) : val S = val A - val B := by
 have e := h.eq
 rw [List.take_of_length_le (l := A) (by omega), List.take_of_length_le hB] at e
 have h1 := h.words.lt
 rw [h.len] at h1
 have h2 := h.carry
 rcases Nat.lt_or_ge bw 1 with h3 | h3
 ·obtain rfl : bw = 0 := by omega
  omega
 ·obtain rfl : bw = 1 := by omega
  omega
def GivesDif (N M : Nat) (w : World) (e : Ending) (w' : World) : Prop := ∃ p n c, e = .returned (.tuple #[.agg #[.slice p n c], .bool (decide (M <= N))]) /\ NatAt w' p n c (N - M) /\ Below w.heap.size w w' /\ New w.heap.size p
theorem sub_calls (w : World) (pa : Option Addr) (na ca N : Nat) (pb : Option Addr) (nb cb M : Nat) (hA : NatAt w pa na ca N) (hB : NatAt w pb nb cb M) (hs : na < 1000000) (hsb : nb < 1000000) :
  Calls Tryz.prog 120 #[.agg #[.slice pa na ca], .agg #[.slice pb nb cb]] w (GivesDif N M w) := by
 have hb0 : Below w.heap.size w (((w.alloc (.cells #[.slice pa na ca] 36)).alloc (.cells #[.slice pb nb cb] 36)).alloc (.cells #[.slice none 0 0] 36)) :=
  (((Below.refl _ w).alloc (Nat.le_refl _) _).alloc (by simp) _).alloc (by simp; omega) _
 by_cases hlt : N < M
 ·have hcm : cmpI N M = -1 := cmpI_lt hlt
  go_enter Tryz.func120, Tryz.ntmps120
  go_wp2_with fail
  refine (cmp_calls _ pa pb na ca N nb cb M (hA.below hb0) (hB.below hb0) hs hsb).mono ?_
  rintro e w1 ⟨rfl, hb1⟩
  obtain ⟨hc, hf⟩ := bcell hb1
  have hz := hb1.size
  simp only [World.size_alloc] at hz
  go_wp2
  refine bodyPost_ret (v := .tuple #[.agg #[.slice none 0 0], .bool false]) (by simp [results, Tryz.results120, go_sem, hc]) rfl ⟨none, 0, 0, by simp [show ¬ M <= N by omega], ?_, ?_, New.none _⟩
  ·exact ⟨[], Row.nil _ _, Words.nil, by simp, by simp [val]; omega⟩
  ·exact (hb0.trans (hb1.mono (by simp; omega))).setCell (by simp; omega) _
 ·have hcm : ¬ cmpI N M < 0 := by
   unfold cmpI; rw [if_neg hlt]; split <;> omega
  obtain ⟨A, a1, a2, a3, rfl⟩ := hA.ex
  obtain ⟨B, b1, b2, b3, rfl⟩ := hB.ex
  have HA := Lib.hid a1.len
  have HB := Lib.hid b1.len
  have hle : nb <= na := by
   rcases Nat.lt_or_ge na nb with h | h
   ·exact absurd (hA.len_lt hB h) hlt
   ·exact h
  have hmk := make_u32 na (by omega)
  go_enter Tryz.func120, Tryz.ntmps120
  go_wp2_with fail
  refine (cmp_calls _ pa pb na ca _ nb cb _ (hA.below hb0) (hB.below hb0) hs hsb).mono ?_
  rintro e w1 ⟨rfl, hb1⟩
  have hbx := (Boxes3.mk3 w (.slice pa na ca) (.slice pb nb cb) (.slice none 0 0) 36 36 36).later hb1
  have c0 := hbx.c0
  have c1 := hbx.c1
  have c2 := hbx.c2
  have f2 := hbx.f2
  have hz0 : w.heap.size < w1.heap.size := by have := hbx.size; omega
  have hz1 : w.heap.size + 1 < w1.heap.size := by have := hbx.size; omega
  have hz2 : w.heap.size + 1 + 1 < w1.heap.size := by have := hbx.size; omega
  have HC := Lib.hid (show decide (cmpI (val A) (val B) < 0) = false by simpa using hcm)
  go_wp2
  go_loopw [7, 22] (fun cy i wr => ∃ k c : Nat, ∃ S, k <= na /\ i = .int .i64 k /\ cy = .int .u32 c /\ Boxes3 w wr (.slice pa na ca) (.slice pb nb cb) (.slice none 0 0) /\ w1.heap.size < wr.heap.size /\ Below w1.heap.size w1 wr /\ DifSt A B k S c /\ Blk wr w1.heap.size 117 .u32 (S ++ List.replicate (na - k) 0)) (fun _ i _ => na - (intOf i).toNat)
  case atStart =>
   refine ⟨0, 0, [], by omega, rfl, rfl, hbx.alloc _, by simp, (Below.refl _ _).alloc (Nat.le_refl _) _, DifSt.start A B, ?_⟩
   exact Blk.zeros _ _ _ _
  case round =>
   obtain ⟨k, bw, S, hk, rfl, rfl, hbr, hsr, hbw, hS, hblk⟩ := hrel
   clear c0 c1 c2 f2
   have d0 := hbr.c0
   have d1 := hbr.c1
   have d2 := hbr.c2
   have g2 := hbr.f2
   by_cases hkn : k < na
   ·obtain ⟨b, off, rfl, hb, hc⟩ := a1.pos (by omega)
    obtain ⟨x, hx⟩ : ∃ x, A.getD k 0 = x := ⟨_, rfl⟩
    obtain ⟨y, hy⟩ : ∃ y, B.getD k 0 = y := ⟨_, rfl⟩
    have hci : wr.cell? ⟨b, off + k, none⟩ = some (.int .u32 (x : Nat)) := by
     rw [(bcell hbr.bel).1 _ _ hb]
     exact hc k x (by rw [<- hx, List.getD_eq_getElem?_getD]; simp [show k < A.length by have := HA.out; omega])
    have HX := Lib.hid hx
    have HY := Lib.hid hy
    have HSk := Lib.hid hS.len
    clear hc hx hy
    have hg0 := hblk.zero_cell HSk.out (by omega)
    have hgf := hblk.free k
    go_wp2_with fail
    refine (word_calls wr pb nb cb B k y (b1.below hbr.bel) (by omega) HY.out).mono ?_
    rintro e w2 ⟨rfl, hb2⟩
    have hy : y < 4294967296 := by rw [<- HY.out]; exact b2.get k
    have hx' : x < 4294967296 := by rw [<- HX.out]; exact a2.get k
    have hcy := hS.carry
    have hg0' := ((bcell hb2).1 _ k hblk.lt).trans hg0
    have hgf' := ((bcell hb2).2 _ k hblk.lt).trans hgf
    obtain ⟨d, hd⟩ : ∃ d : Nat, (d : Int) = ((x : Int) - y - bw) % 4294967296 := ⟨(((x : Int) - y - bw) % 4294967296).toNat, by omega⟩
    have HD := Lib.hid hd
    clear hd
    go_wp2_with fail
    refine (sub32_calls x y bw _ hx' hy hcy).mono ?_
    rintro e w3 ⟨rfl, rfl⟩
    rw [<- HD.out]
    go_wp2
    go_roundw
    case rel =>
     refine ⟨k + 1, _, S ++ [d], by omega, by go_num, rfl, (hbr.later hb2).below (B := w.heap.size + 3) ((Below.refl _ _).setCell (by simp; omega) _) (Nat.le_refl _), by have := hb2.size; simp; omega, (hbw.trans (hb2.mono (by omega))).setCell (by simp) _, ?_, ?_⟩
     ·have := hS.step (d := d) a2 b2 (by rw [HX.out, HY.out]; exact HD.out)
      rw [HX.out, HY.out] at this
      exact this
     ·exact (hblk.below hb2 hblk.lt).next HSk.out (by omega) d
    case measure => clear HD; simp [intOf]; omega
   ·have hkn' : na <= k := by omega
    have hrow := (hblk.row (n := na) (c := na) (by have := hS.len; simp; omega) (Nat.le_refl _) (by omega))
    have hw2 : Words (S ++ List.replicate (na - k) 0) := hS.words.append (Words.zeros _)
    go_wp2_with fail
    refine (trimmed_calls _ _ _ _ _ hrow hw2).mono ?_
    rintro e w2 ⟨p, n, c, rfl, hn, hb2, hp⟩
    have hbx3 := hbr.later hb2
    have k2 := hbx3.c2
    have e2 := hbx3.f2
    have hn' : New w1.heap.size p := by
     intro q hq
     rcases hp with rfl | rfl
     ·cases hq
     ·cases hq; simp
    have hv : val (S ++ List.replicate (na - k) 0) = val A - val B := by
     rw [val_append, val_zeros, Nat.mul_zero, Nat.add_zero]
     exact hS.last (by have := HA.out; omega) (by have := HB.out; omega) (by omega)
    have HV := Lib.hid hv
    clear hv
    go_wp2
    refine bodyPost_ret (v := .tuple #[.agg #[.slice p n c], .bool true]) (by simp [results, Tryz.results120, go_sem, k2]) rfl ⟨p, n, c, by simp [show val B <= val A by omega], ?_, ?_, hn'.mono (by omega)⟩
    ·rw [<- HV.out]
     exact hn.setCell (a := ⟨w.heap.size + 1 + 1, 0, none⟩) (hn'.ne hz2) (.slice p n c)
    ·exact hbx3.bel.setCell (by simp; omega) _
def be (bs : List Nat) : Nat := le bs.reverse
theorem getD_rev {bs : List Nat} {k : Nat} (h : k < bs.length) : bs.reverse.getD k 0 = bs.getD (bs.length - 1 - k) 0 := by
 rw [List.getD_eq_getElem?_getD, List.getD_eq_getElem?_getD, List.getElem?_reverse h]
theorem shl_in {x r : Nat} (hx : x < 256) (hr : r < 4) :
  IntKind.u32.wrap ((x : Int) * 2 ^ (min (((r : Int) * 8).toNat) 32)) = ((x * B8 r : Nat) : Int) /\ x * B8 r < 4294967296 := by
 have e1 : ((r : Int) * 8).toNat = 8 * r := by omega
 have e2 : min (8 * r) 32 = 8 * r := by omega
 have e3 : (2 : Int) ^ (8 * r) = ((B8 r : Nat) : Int) := by rw [B8_pow]; simp
 have h4 : x * B8 r < 4294967296 := by
  have h1 : B8 (r + 1) <= B8 4 := B8_mono (by omega)
  rw [B8_succ] at h1
  have h2 : x * B8 r < 256 * B8 r := (Nat.mul_lt_mul_right (B8_pos r)).2 hx
  have h3 : B8 4 = 4294967296 := rfl
  omega
 rw [e1, e2, e3, <- Int.natCast_mul]
 exact ⟨IntWalk.u32_in _ (by omega), h4⟩
theorem or_in {W x r : Nat} (hW : W < B8 r) (h4 : x * B8 r < 4294967296) (hr : r < 4) : bits BinOp.or IntKind.u32 (W : Int) ((x * B8 r : Nat) : Int) = ((W + x * B8 r : Nat) : Int) := by
 have hW4 : W < 4294967296 := by
  have h1 : B8 r <= B8 4 := B8_mono (by omega)
  have h3 : B8 4 = 4294967296 := rfl
  omega
 rw [u32_or_nat _ _ hW4 h4, Nat.or_comm]
 rw [nat_join (8 * r) (x * B8 r) W (by rw [<- B8_pow]; exact Nat.mul_mod_left _ _) (by rw [<- B8_pow]; exact hW), Nat.add_comm]
theorem fromBytes_calls (w : World) (p : Option Addr) (n c : Nat) (bs : List Nat) (h : RowIn w .u8 p n c bs) (hb8 : Bytes8 bs) (hn : n <= 128) :
  Calls Tryz.prog 146 #[.slice p n c] w fun e w' => ∃ q m d, e = .returned (.tuple #[.agg #[.slice q m d], .int .i64 0]) /\ NatAt w' q m d (be bs) /\ Below w.heap.size w w' /\ New w.heap.size q := by
 have HL := Lib.hid h.len
 obtain ⟨m, hm1, hm2⟩ : ∃ m : Nat, n <= 4 * m /\ 4 * m <= n + 3 := ⟨(n + 3) / 4, by omega, by omega⟩
 have hmk := make_u32i (i := ((n : Int) + 4 - 1) / 4) m (by omega) (by omega)
 go_enter Tryz.func146, Tryz.ntmps146
 go_wp2
 go_loopw [18] (fun i wr => ∃ k : Nat, k <= n /\ i = .int .i64 k /\ Box1 w wr (.slice none 0 0) /\ w.heap.size + 1 < wr.heap.size /\ Blk wr (w.heap.size + 1) 117 .u32 (wordsOf (le (bs.reverse.take k)) m)) (fun i _ => n - (intOf i).toNat)
 case atStart =>
  refine ⟨0, by omega, rfl, (Box1.mk1 _ _ _).alloc _, by simp, ?_⟩
  have := Blk.zeros (w.alloc (.cells #[.slice none 0 0] 36)) 117 .u32 m
  rw [List.take_zero, le, wordsOf_zero]
  simpa using this
 case round =>
  obtain ⟨k, hk, rfl, hbx, hsz, hblk⟩ := hrel
  by_cases hkn : k < n
  ·obtain ⟨b, off, rfl, hb, hc⟩ := (h.row (by omega)).pos (by omega)
   obtain ⟨j, hj⟩ : ∃ j, n - 1 - k = j := ⟨_, rfl⟩
   obtain ⟨x, hx⟩ : ∃ x, bs.getD j 0 = x := ⟨_, rfl⟩
   have hci : ∀ w', Box1 w w' (.slice none 0 0) -> w'.cell? ⟨b, off + j, none⟩ = some (.int .u8 (x : Nat)) := fun w' hb' => by
    rw [(bcell hb'.bel).1 _ _ hb]
    exact hc j x (by rw [<- hx, List.getD_eq_getElem?_getD]; simp [show j < bs.length by have := HL.out; omega])
   have hx8 : x < 256 := by rw [<- hx]; exact hb8.get j
   have HJ := Lib.hid hj
   have HX := Lib.hid hx
   clear hc hj hx
   go_wp2
   obtain ⟨V, hV⟩ : ∃ V, le (bs.reverse.take k) = V := ⟨_, rfl⟩
   obtain ⟨q, hq⟩ : ∃ q, k / 4 = q := ⟨_, rfl⟩
   obtain ⟨r, hr⟩ : ∃ r, k % 4 = r := ⟨_, rfl⟩
   obtain ⟨d, hd⟩ : ∃ d, V / B32 q % 4294967296 = d := ⟨_, rfl⟩
   rw [hV] at hblk
   have hVlt : V < B8 k := by
    have := (hb8.reverse.take k).lt
    rw [hV] at this
    have hl : (bs.reverse.take k).length = k := by simp; have := HL.out; omega
    rwa [hl] at this
   have hor := wordsOf_or (n := m) hVlt hx8
   rw [hq, hr, hd] at hor
   obtain ⟨ho1, ho2, ho3⟩ := hor
   have hr4 : r < 4 := by omega
   obtain ⟨hs1, hs2⟩ := shl_in hx8 hr4
   have hs3 := or_in ho2 hs2 hr4
   have t1 : IntKind.i64.wrap ((k : Int) / 4) = (q : Int) := by rw [IntWalk.i64_in _ (by omega)]; omega
   have t2 : (k : Int).tmod 4 = (r : Int) := by rw [Int.tmod_eq_emod_of_nonneg (by omega)]; omega
   have ty : IntKind.u32.wrap (x : Int) = x := IntWalk.u32_in _ (by omega)
   have hs1' : IntKind.u32.wrap ((x : Int) * 2 ^ (((r : Int) * 8).toNat)) = (x : Int) * (B8 r : Nat) := by
    have e : min (((r : Int) * 8).toNat) 32 = ((r : Int) * 8).toNat := by omega
    rw [e] at hs1; rw [hs1, Int.natCast_mul]
   have hs3' : bits BinOp.or IntKind.u32 (d : Int) ((x : Int) * (B8 r : Nat)) = (d : Int) + (x : Int) * (B8 r : Nat) := by
    rw [<- Int.natCast_mul, hs3, Int.natCast_add]
   have t3 : IntKind.i64.wrap ((r : Int) * 8) = (r : Int) * 8 := IntWalk.i64_in _ (by omega)
   have t4 : IntKind.i64.wrap ((n : Int) - 1) = (n : Int) - 1 := IntWalk.i64_in _ (by omega)
   have t5 : IntKind.i64.wrap ((n : Int) - 1 - k) = (j : Nat) := by
    rw [IntWalk.i64_in _ (by omega)]; have := HJ.out; omega
   have t6 : (j : Int) < n := by have := HJ.out; omega
   have t7 : (q : Int) < m := by omega
   have t9 : q < m := by omega
   refine wp_region_duties (by kernel_rfl) (by kernel_rfl)
    [some (.slice (some ⟨w.heap.size + 1, 0, none⟩) m m), some (.int .i64 k), some (.int .i64 (q : Nat)), some (.pointer (some ⟨w.heap.size + 1, q, none⟩)), some (.int .u32 (d : Nat)), some (.slice (some ⟨b, off, none⟩) n c), some (.slice (some ⟨b, off, none⟩) n c),
     some (.int .i64 n), some (.int .i64 ((n : Int) - 1)), some (.int .i64 k), some (.int .i64 (j : Nat)), some (.pointer (some ⟨b, off + j, none⟩)), some (.int .u8 (x : Nat)), some (.int .u32 (x : Nat)), some (.int .i64 k), some (.int .i64 (r : Nat)), some (.int .i64 ((r : Int) * 8)),
     some (.int .u32 (x * B8 r : Nat)), some (.int .u32 (d + x * B8 r : Nat)), some (.pointer (some ⟨w.heap.size + 1, q, none⟩)), none]
    [false, false, false, false, false, false, false, false, false, false, false, false, false, false, false, false, false, false, false, false, true] rfl
    (fun _ _ => True)
    (fun D w' => Box1 w w' (.slice none 0 0) /\ w.heap.size + 1 < w'.heap.size /\ Blk w' (w.heap.size + 1) 117 .u32 (if D 20 then wordsOf (V + B8 k * x) m else wordsOf V m))
    (fun _ _ _ => True)
    (fun _ _ _ _ h _ => h) ⟨hbx.below (Below.refl _ _).drew (Nat.le_refl _), hsz, hblk⟩ ?_ ?_
   ·simp only [Duties, Nat.reduceAdd]
    refine ⟨?_, ?_, ?_, ?_, ?_, ?_, ?_, ?_, ?_, ?_, ?_, ?_, ?_, ?_, ?_, ?_, ?_, ?_, ?_, ?_, ?_, trivial⟩
    case refine_5 =>
     intro D sp w' hD hW hdp ⟨hbx', hsz', hblk'⟩
     have h20 : D 20 = false := hW 20 (mq (by kernel_rfl))
     rw [h20] at hblk'
     simp only [Bool.false_eq_true, if_false] at hblk'
     have hcl : w'.cell? ⟨w.heap.size + 1, q, none⟩ = some (.int .u32 (d : Nat)) := hblk'.cell (by rw [wordsOf_get t9, hd])
     simp [asked, Region.wanted, Oper.gives, execOp, Act.eval, Act.put, go_sem, hcl]
    case refine_21 =>
     intro D sp w' hD hW hdp ⟨hbx', hsz', hblk'⟩
     rw [hD] at hblk'
     simp only [Bool.false_eq_true, if_false] at hblk'
     have hcl : w'.cell? ⟨w.heap.size + 1, q, none⟩ = some (.int .u32 (d : Nat)) := hblk'.cell (by rw [wordsOf_get t9, hd])
     have hfr := hblk'.free q
     (with_reducible refine asked_skip (w1 := w'.setCell ⟨w.heap.size + 1, q, none⟩ (.int .u32 (d + x * B8 r : Nat))) ?_ ?_ ?_)
     ·simp only [Region.wanted]
     ·simp [execOp, Act.eval, Act.put, go_sem, hcl, hfr]
     ·refine ⟨trivial, trivial, hbx'.below (B := w.heap.size + 1) ((Below.refl _ _).setCell (by simp) _) (Nat.le_refl _), by simpa using hsz', ?_⟩
      simp only [decide_true, Bool.or_true, if_true]
      rw [<- ho1]
      exact hblk'.set _ _
    all_goals
     intro D sp w' hD hW hdp ⟨hbx', hsz', hblk'⟩
     have c1 := hci w' hbx'
     simp [asked, Region.wanted, Oper.gives, execOp, Act.eval, Act.put, go_sem, c1, t1, t2, t3, t4, t5, t6, t7, ty, hs1', hs3']
   ·intro sp w' hsp ⟨hbx', hsz', hblk'⟩
    have hblk2 : Blk w' (w.heap.size + 1) 117 .u32 (wordsOf (V + B8 k * x) m) := hblk'
    clear hblk' hsp
    have HV : Hid (le (bs.reverse.take (k + 1)) = V + B8 k * x) := by
     have e := le_take_succ bs.reverse k (by simp; have := HL.out; omega)
     rw [hV, getD_rev (by have := HL.out; omega), <- HL.out, HJ.out, HX.out] at e
     exact e
    clear hV hq hr hd t1 t2 t3 t4 t5 hs1 hs1' hs3 hs3' ty ho1
    simp only [frameOf, Nat.reduceAdd]
    go_simp
    go_wp2
    go_roundw
    case rel => exact ⟨k + 1, by omega, by go_num, hbx', hsz', by rw [HV.out]; exact hblk2⟩
    case measure => simp [intOf]; omega
  ·have hkn' : n <= k := by omega
   have hkl : k = bs.length := by have := HL.out; omega
   have hrow := hblk.row (n := m) (c := m) (by rw [wordsOf_length]) (Nat.le_refl _) (by omega)
   have hv : val (wordsOf (le (bs.reverse.take k)) m) = be bs := by
    rw [List.take_of_length_le (by simp; omega)]
    refine val_wordsOf_lt (Nat.lt_of_lt_of_le hb8.reverse.lt ?_)
    rw [<- B8_four]
    exact B8_mono (by simp; omega)
   have HV := Lib.hid hv
   clear hv hkl
   go_wp2_with fail
   refine (trimmed_calls _ _ _ _ _ hrow (wordsOf_words _ _)).mono ?_
   rintro e w2 ⟨q, l, d, rfl, hn2, hb2, hp⟩
   have hbx2 := hbx.later hb2
   have c0 := hbx2.c0
   have f0 := hbx2.f0
   have hn' : New (w.heap.size + 1) q := by
    intro a ha
    rcases hp with rfl | rfl
    ·cases ha
    ·cases ha; simp
   go_wp2
   refine bodyPost_ret (v := .tuple #[.agg #[.slice q l d], .int .i64 0]) (by simp [results, Tryz.results146, go_sem, c0]) rfl ⟨q, l, d, rfl, ?_, ?_, hn'.mono (by omega)⟩
   ·have := hn2.setCell (a := ⟨w.heap.size, 0, none⟩) (hn'.ne (show w.heap.size < w.heap.size + 1 by omega)) (.slice q l d)
    rw [HV.out] at this
    exact this
   ·exact hbx2.bel.setCell (Nat.le_refl _) _
structure Part where
 p : Option Addr
 n : Nat
 c : Nat
 bs : List Nat
structure PartOk (w : World) (P : Part) : Prop where
 row : RowIn w .u8 P.p P.n P.c P.bs
 bytes : Bytes8 P.bs
theorem PartOk.below {w w' : World} {P : Part} (h : PartOk w P) (hb : Below w.heap.size w w') : PartOk w' P := ⟨h.row.below hb, h.bytes⟩
def whole (L : List Part) : List Nat := L.flatMap (·.bs)
theorem whole_snoc (L : List Part) (P : Part) : whole (L ++ [P]) = whole L ++ P.bs := by simp [whole]
structure PartsIn (w : World) (p : Option Addr) (n c : Nat) (L : List Part) : Prop where
 len : n = L.length
 cap : n <= c
 max : c <= 9223372036854775807
 ok : ∀ (i : Nat) (P : Part), L[i]? = some P -> PartOk w P
 cells : 0 < n -> ∃ b off, p = some ⟨b, off, none⟩ /\ b < w.heap.size /\ ∀ (i : Nat) (P : Part), L[i]? = some P -> w.cell? ⟨b, off + i, none⟩ = some (.slice P.p P.n P.c)
theorem PartsIn.below {w w' : World} {p : Option Addr} {n c : Nat} {L : List Part} (h : PartsIn w p n c L) (hb : Below w.heap.size w w') : PartsIn w' p n c L :=
 ⟨h.len, h.cap, h.max, fun i P hP => (h.ok i P hP).below hb, fun h0 => by
  obtain ⟨b, off, h1, h2, h3⟩ := h.cells h0
  exact ⟨b, off, h1, Nat.lt_of_lt_of_le h2 hb.size, fun i P hP => by rw [hb.cell (p := ⟨b, off + i, none⟩) h2]; exact h3 i P hP⟩⟩
theorem PartsIn.none (w : World) (p : Option Addr) : PartsIn w p 0 0 [] := ⟨rfl, Nat.le_refl _, by omega, fun i P h => by simp at h, fun h => absurd h (by omega)⟩
theorem sum_calls (w : World) (p : Option Addr) (n c : Nat) (L : List Part) (hT : Tabs w) (hL : PartsIn w p n c L) : Calls Tryz.prog 228 #[.slice p n c] w (GivesSum (whole L) w) := by
 have HL : Hold (PartsIn w p n c L) := ⟨hL⟩
 have hlen : Hold (n = L.length) := ⟨hL.len⟩
 have hcap := hL.cap
 have hmax := hL.max
 clear hL
 go_enter Tryz.func228, Tryz.ntmps228
 go_wp2_with fail
 refine (shanew_calls w hT).mono ?_
 rintro e w1 ⟨g, rfl, hg, hb1, hh1⟩
 go_wp2
 go_loopw [9] (fun i wr => ∃ k : Nat, k <= n /\ i = .int .i64 k /\ Below w.heap.size w wr /\ HashAt wr g (whole (L.take k))) (fun i _ => n - (intOf i).toNat)
 case atStart => exact ⟨0, by omega, rfl, hb1, hh1⟩
 case round =>
  obtain ⟨k, hk, rfl, hbel, hash⟩ := hrel
  have hTr := hT.below hbel hT.size
  have hsz := hT.size
  by_cases hkn : k < n
  ·obtain ⟨b, off, rfl, hb, hc⟩ := HL.out.cells (by omega)
   obtain ⟨P, hP⟩ : ∃ P, L[k]? = some P := ⟨_, List.getElem?_eq_getElem (by have := hlen.out; omega)⟩
   have hok := (HL.out.ok k P hP).below hbel
   have hblt : 0 < P.n -> ∀ q, P.p = some q -> q.block ≠ g := fun h0 q hq => by
    obtain ⟨b', off', e, h2, _⟩ := ((HL.out.ok k P hP).row.row h0).pos h0
    rw [hq] at e; cases e
    show b' ≠ g
    omega
   have hck : wr.cell? ⟨b, off + k, none⟩ = some (.slice P.p P.n P.c) := by
    rw [(bcell hbel).1 _ _ hb]; exact hc k P hP
   have htk : Hold (whole (L.take (k + 1)) = whole (L.take k) ++ P.bs) := ⟨by rw [List.take_add_one, hP]; exact whole_snoc _ _⟩
   have HOK : Hold (PartOk wr P) := ⟨hok⟩
   have HNE : Hold (0 < P.n -> ∀ q, P.p = some q -> q.block ≠ g) := ⟨hblt⟩
   clear hc hP hok hblt
   obtain ⟨pp, pn, pc, pb⟩ := P
   dsimp only at *
   go_wp2_with fail
   refine (shaadd_calls wr g _ pp pn pc pb hTr hash (by omega) HOK.out.row HOK.out.bytes HNE.out).mono ?_
   rintro e w2 ⟨rfl, hb2, hh2⟩
   rw [<- htk.out] at hh2
   have hz : w.heap.size <= wr.heap.size := hbel.size
   have hbel2 := hbel.trans (hb2.below hg hz)
   go_wp2
   go_roundw
   case rel => exact ⟨k + 1, by omega, by go_num, hbel2, hh2⟩
   case measure => simp [intOf]; omega
  ·obtain rfl : k = n := by omega
   rw [List.take_of_length_le (by have := hlen.out; omega)] at hash
   have hz : w.heap.size <= wr.heap.size := hbel.size
   go_wp2_with fail
   refine (hsum_calls wr g _ hTr hash).mono ?_
   rintro e w3 ⟨q, rfl, hq, hb3, hk3⟩
   go_wp2
   go_ret
   exact ⟨q, rfl, by omega, hbel.trans (hb3.mono hz), hk3⟩
def strOf (bs : List Nat) : ByteArray := strOfNums (bs.map fun (x : Nat) => (x : Int))
theorem convert_row {w : World} {p : Option Addr} {n c : Nat} {bs : List Nat} (h : Row w .u8 p n c bs) :
  (convert 60 9 (.slice p n c)).run Tryz.prog w = .ok (.string (strOf bs)) w := by
 rcases h.at_ with ⟨rfl, rfl, rfl⟩ | ⟨b, off, rfl, hb, hc⟩
 ·have hl := h.len
  have : bs = [] := List.eq_nil_of_length_eq_zero hl.symm
  subst this
  rw [run_convert_bytes_nil w 60 5 (by kernel_rfl) (by kernel_rfl) _ _ _ (by kernel_rfl)]
  rfl
 ·refine run_convert_bytes_arg w 60 5 (by kernel_rfl) (by kernel_rfl) b off n c _ (by simp [h.len]) ?_ _ (by kernel_rfl)
  intro i hi
  have hl := h.len
  rw [hc i (bs.getD i 0) (by rw [List.getD_eq_getElem?_getD]; simp [show i < bs.length by omega])]
  simp [List.getD_eq_getElem?_getD, show i < bs.length by omega]
theorem convert_empty (w : World) (p : Option Addr) (c : Nat) : (convert 60 9 (.slice p 0 c)).run Tryz.prog w = .ok (.string (strOf [])) w := by
 rw [run_convert_bytes_string w 60 9 5 p 0 c (by kernel_rfl) (by kernel_rfl) (by kernel_rfl)]
 cases p with
 | none => rfl
 | some a => rfl
theorem convert_in {w : World} {p : Option Addr} {n c : Nat} {bs : List Nat} (h : RowIn w .u8 p n c bs) :
  (convert 60 9 (.slice p n c)).run Tryz.prog w = .ok (.string (strOf bs)) w := by
 rcases Nat.eq_zero_or_pos n with rfl | h0
 ·have : bs = [] := List.eq_nil_of_length_eq_zero h.len.symm
  rw [this]
  exact convert_empty w p c
 ·exact convert_row (h.row h0)
theorem parts1 (w : World) (P : Part) (hP : PartOk w P) : PartsIn (w.alloc (.cells #[.slice P.p P.n P.c] 60)) (some ⟨w.heap.size, 0, none⟩) 1 1 [P] := by
 have hb : Below w.heap.size w (w.alloc (.cells #[.slice P.p P.n P.c] 60)) := bal
 have hn := heap_alloc_new w (.cells #[.slice P.p P.n P.c] 60)
 refine ⟨rfl, Nat.le_refl _, by omega, fun i X hX => ?_, fun _ => ⟨w.heap.size, 0, rfl, by simp, fun i X hX => ?_⟩⟩
 ·match i, hX with
  | 0, h => cases h; exact hP.below hb
 ·match i, hX with
  | 0, h => cases h; unfold World.cell?; dsimp only; rw [hn]; rfl
theorem whole_one (P : Part) : whole [P] = P.bs := by simp [whole]
theorem parts3 (w : World) (P Q R : Part) (hP : PartOk w P) (hQ : PartOk w Q) (hR : PartOk w R) : PartsIn (w.alloc (.cells #[.slice P.p P.n P.c, .slice Q.p Q.n Q.c, .slice R.p R.n R.c] 60)) (some ⟨w.heap.size, 0, none⟩) 3 3 [P, Q, R] := by
 have hb : Below w.heap.size w (w.alloc (.cells #[.slice P.p P.n P.c, .slice Q.p Q.n Q.c, .slice R.p R.n R.c] 60)) := bal
 have hn := heap_alloc_new w (.cells #[.slice P.p P.n P.c, .slice Q.p Q.n Q.c, .slice R.p R.n R.c] 60)
 refine ⟨rfl, Nat.le_refl _, by omega, fun i X hX => ?_, fun _ => ⟨w.heap.size, 0, rfl, by simp, fun i X hX => ?_⟩⟩
 ·match i, hX with
  | 0, h => cases h; exact hP.below hb
  | 1, h => cases h; exact hQ.below hb
  | 2, h => cases h; exact hR.below hb
 ·match i, hX with
  | 0, h => cases h; unfold World.cell?; dsimp only; rw [hn]; rfl
  | 1, h => cases h; unfold World.cell?; dsimp only; rw [hn]; rfl
  | 2, h => cases h; unfold World.cell?; dsimp only; rw [hn]; rfl
def bit (N i : Nat) : Bool := decide (N / 2 ^ i % 2 = 1)
theorem mod_bit (N k : Nat) : N % 2 ^ (k + 1) = N % 2 ^ k + (if bit N k then 2 ^ k else 0) := by
 rw [Nat.pow_succ, Nat.mod_mul]
 unfold bit
 have : N / 2 ^ k % 2 < 2 := Nat.mod_lt _ (by omega)
 by_cases h : N / 2 ^ k % 2 = 1
 ·simp [h]
 ·have : N / 2 ^ k % 2 = 0 := by omega
  simp [this]
theorem bit_testBit (N i : Nat) : bit N i = N.testBit i := by
 unfold bit; rw [Nat.testBit_eq_decide_div_mod_eq]
def carry (N M k : Nat) : Nat := (N % 2 ^ k + M % 2 ^ k) / 2 ^ k
theorem mod_bit' (N k : Nat) : N % 2 ^ (k + 1) = N % 2 ^ k + 2 ^ k * (bit N k).toNat := by
 rw [mod_bit]; cases bit N k <;> simp
theorem beOf_length (M n : Nat) : (beOf M n).length = n := by simp [beOf, leOf_length]
def Fit (e N : Nat) (v : Value) (w : World) : Prop := ∃ p n c, v = .agg #[.slice p n c] /\ NatAt w p n c N /\ N < B32 e
theorem Fit.below {e N : Nat} {v : Value} {w w' : World} (h : Fit e N v w) (hb : Below w.heap.size w w') : Fit e N v w' :=
 let ⟨p, n, c, h1, h2, h3⟩ := h
 ⟨p, n, c, h1, h2.below hb, h3⟩
theorem Fit.of {e N p n c} {w : World} (h : NatAt w p n c N) (hN : N < B32 e) : Fit e N (.agg #[.slice p n c]) w := ⟨p, n, c, rfl, h, hN⟩
theorem Fit.cast {e N M : Nat} {v : Value} {w : World} (h : Fit e N v w) (hN : N = M) : Fit e M v w := hN ▸ h
theorem Fit.lim {e N : Nat} {v : Value} {w : World} (h : Fit e N v w) : N < B32 e := let ⟨_, _, _, _, _, h3⟩ := h; h3
theorem lim_add {e f N M : Nat} (h : N < B32 e) (k : M < B32 f) : N + M < B32 (e + f + 1) := by
 have h1 : B32 e <= B32 (e + f) := B32_mono (by omega)
 have h2 : B32 f <= B32 (e + f) := B32_mono (by omega)
 rw [B32_succ]; omega
theorem lim_mul {e f N M : Nat} (h : N < B32 e) (k : M < B32 f) : N * M < B32 (e + f) := by
 rw [B32_add]
 exact Nat.mul_lt_mul'' h k
theorem add_fit {w : World} {v u : Value} {e f N M : Nat} (h : Fit e N v w) (k : Fit f M u w) (he : e <= 900000) (hf : f <= 900000) :
  Calls Tryz.prog 107 #[v, u] w fun en w' => ∃ x, en = .returned x /\ Fit (e + f + 1) (N + M) x w' /\ Below w.heap.size w w' := by
 obtain ⟨p, n, c, rfl, h1, h2⟩ := h
 obtain ⟨q, m, d, rfl, k1, k2⟩ := k
 have l1 := h1.len_le h2
 have l2 := k1.len_le k2
 refine (add_calls w p n c N q m d M h1 k1 (by omega) (by omega)).mono ?_
 rintro en w' ⟨r, l, g, rfl, hr, hb, _⟩
 exact ⟨_, rfl, Fit.of hr (lim_add h2 k2), hb⟩
theorem mul_fit {w : World} {v u : Value} {e f N M : Nat} (h : Fit e N v w) (k : Fit f M u w) (he : e <= 900000) (hf : f <= 900000) :
  Calls Tryz.prog 108 #[v, u] w fun en w' => ∃ x, en = .returned x /\ Fit (e + f) (N * M) x w' /\ Below w.heap.size w w' := by
 obtain ⟨p, n, c, rfl, h1, h2⟩ := h
 obtain ⟨q, m, d, rfl, k1, k2⟩ := k
 have l1 := h1.len_le h2
 have l2 := k1.len_le k2
 refine (mul_calls w p n c N q m d M h1 k1 (by omega) (by omega)).mono ?_
 rintro en w' ⟨r, l, g, rfl, hr, hb, _⟩
 exact ⟨_, rfl, Fit.of hr (lim_mul h2 k2), hb⟩
theorem cmp_fit {w : World} {v u : Value} {e f N M : Nat} (h : Fit e N v w) (k : Fit f M u w) (he : e <= 900000) (hf : f <= 900000) :
  Calls Tryz.prog 33 #[v, u] w fun en w' => ∃ x, en = .returned x /\ x = .int .i64 (cmpI N M) /\ Below w.heap.size w w' := by
 obtain ⟨p, n, c, rfl, h1, h2⟩ := h
 obtain ⟨q, m, d, rfl, k1, k2⟩ := k
 have l1 := h1.len_le h2
 have l2 := k1.len_le k2
 refine (cmp_calls w p q n c N m d M h1 k1 (by omega) (by omega)).mono ?_
 rintro en w' ⟨rfl, hb⟩
 exact ⟨_, rfl, rfl, hb⟩
theorem sub_fit {w : World} {v u : Value} {e f N M : Nat} (h : Fit e N v w) (k : Fit f M u w) (he : e <= 900000) (hf : f <= 900000) :
  Calls Tryz.prog 120 #[v, u] w fun en w' => ∃ x, en = .returned (.tuple #[x, .bool (decide (M <= N))]) /\ Fit e (N - M) x w' /\ Below w.heap.size w w' := by
 obtain ⟨p, n, c, rfl, h1, h2⟩ := h
 obtain ⟨q, m, d, rfl, k1, k2⟩ := k
 have l1 := h1.len_le h2
 have l2 := k1.len_le k2
 refine (sub_calls w p n c N q m d M h1 k1 (by omega) (by omega)).mono ?_
 rintro en w' ⟨r, l, g, rfl, hr, hb, _⟩
 exact ⟨_, rfl, Fit.of hr (by omega), hb⟩
theorem cmpI_self (N : Nat) : cmpI N N = 0 := by simp [cmpI]
structure Keep (B : Nat) (w w' : World) : Prop where
 bel : Below B w w'
 nat : ∀ p n c N, NatAt w p n c N -> NatAt w' p n c N
theorem Keep.of {B : Nat} {w w' : World} (h : Below w.heap.size w w') (hB : B <= w.heap.size) : Keep B w w' := ⟨h.mono hB, fun _ _ _ _ k => k.below h⟩
theorem Fit.keep {e N B : Nat} {v : Value} {w w' : World} (h : Fit e N v w) (k : Keep B w w') : Fit e N v w' :=
 let ⟨p, n, c, h1, h2, h3⟩ := h
 ⟨p, n, c, h1, k.nat _ _ _ _ h2, h3⟩
def NatBox (w : World) (b : Nat) (u : Value) : Prop := w.heap[b]? = some (.cells #[u] 36 (0, 0))
theorem NatBox.below {w w' : World} {b B : Nat} {u : Value} (h : NatBox w b u) (hb : Below B w w') (hB : b < B) : NatBox w' b u := by
 unfold NatBox at *; rw [hb.block b hB]; exact h
theorem NatBox.cell {w : World} {b : Nat} {u : Value} (h : NatBox w b u) : w.cell? ⟨b, 0, none⟩ = some u := by
 unfold NatBox at h; simp [World.cell?, h]
theorem NatBox.free {w : World} {b : Nat} {u : Value} (h : NatBox w b u) : w.frozen? ⟨b, 0, none⟩ = false := by
 unfold NatBox at h; simp [World.frozen?, h]
theorem NatBox.lt {w : World} {b : Nat} {u : Value} (h : NatBox w b u) : b < w.heap.size := (Array.getElem?_eq_some_iff.1 h).1
theorem NatBox.set {w : World} {b : Nat} {u : Value} (h : NatBox w b u) (v : Value) : NatBox (w.setCell ⟨b, 0, none⟩ v) b v := by
 unfold NatBox at *
 simp [World.setCell, Array.getElem?_modify, h]
theorem NatBox.made (w : World) (u : Value) : NatBox (w.alloc (.cells #[u] 36)) w.heap.size u := by
 show (w.heap.push _)[w.heap.size]? = _
 simp
theorem NatAt.store {w : World} {p : Option Addr} {n c N b m d : Nat} {q : Option Addr} (h : NatAt w p n c N) (hb : NatBox w b (.slice q m d)) (v : Value) : NatAt (w.setCell ⟨b, 0, none⟩ v) p n c N := by
 obtain ⟨ws, r1, r2, r3, r4⟩ := h.ex
 rcases Nat.eq_zero_or_pos n with h0 | h0
 ·refine ⟨ws, ⟨r1.len, r1.cap, r1.max, ?_⟩, r2, r3, r4⟩
  rcases r1.at_ with k | ⟨b', off, k1, k2, _⟩
  ·exact .inl k
  ·refine .inr ⟨b', off, k1, by simpa using k2, fun i x hx => ?_⟩
   have : ws = [] := List.eq_nil_of_length_eq_zero (by rw [<- r1.len]; exact h0)
   rw [this] at hx; cases hx
 ·refine h.setCell (a := ⟨b, 0, none⟩) ?_ v
  intro a ha hab
  obtain ⟨b', off, k1, k2, k3⟩ := r1.pos h0
  rw [k1] at ha; cases ha
  have hbb : b' = b := hab
  subst hbb
  have h1 := k3 0 (ws.getD 0 0) (by rw [List.getD_eq_getElem?_getD]; simp [show 0 < ws.length by rw [<- r1.len]; exact h0])
  unfold NatBox at hb
  simp only [World.cell?, hb, Nat.add_zero] at h1
  cases off with
  | zero => simp at h1
  | succ k => simp at h1
theorem Keep.store {B : Nat} {w : World} {b m d : Nat} {q : Option Addr} (hb : NatBox w b (.slice q m d)) (hB : B <= b) (v : Value) : Keep B w (w.setCell ⟨b, 0, none⟩ v) :=
 ⟨(Below.refl _ _).setCell hB _, fun _ _ _ _ k => k.store hb v⟩
end Go.Proofs.YthgoeiegdhphjaaGreatDoor
