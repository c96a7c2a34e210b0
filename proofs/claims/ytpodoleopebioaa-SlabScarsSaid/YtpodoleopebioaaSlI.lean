/- The power is there again: Wake. -/
import Derived.Test.YtpodoleopebioaaSlH
import Derived.Test.YtpodoleopebioaaFlowR
import Derived.Shelf.SlIterI.Stops
import Derived.RangeFuncFrom
namespace Go.Proofs.Ytpodoleopebioaa
open Go Go.RowKit Go.Maps Go.Shelf Go.Proofs.Ytpodoleopebioaa.Flow
set_option maxRecDepth 100000
attribute [local go_sem] Oper.semAt_some

/-- A number that is no key is no key of a map. -/
theorem MapIs.look_bad {w : World} {m N : Nat} {f : Int → Option Value} (h : MapIs w m N f) {t e : TypeId} (ht : Try.prog.underlying t = some (.map 3 e)) {z : Value} (hz : (zeroValue e).run Try.prog w = .ok z w) {x : Int} (hx : (Lit.int .i64 x).wf = false) :
    (Instr.lookup t (.map (some m)) (.int .i64 x) true).run Try.prog w = .ok (.tuple #[z, .bool false]) w := by
  obtain ⟨D, ⟨es, cl, hb, hF, _⟩, _⟩ := h.ex
  have hk : ∀ y ∈ es.toList, ∃ a, y.key = .int .i64 a ∧ (Lit.int .i64 a).wf = true := fun y hy => by
    obtain ⟨z, hz⟩ := hF.reads y hy
    obtain ⟨a, h1, _, h2⟩ := Maps.keyOf_i64 Try.underlying3 (WideElems.rd_key hz)
    exact ⟨a, h1, h2⟩
  have hn : ∀ (l : List MapEntry) (i : Nat), (∀ y ∈ l, ∃ a, y.key = .int .i64 a ∧ (Lit.int .i64 a).wf = true) → Instr.findNow (.int .i64) (.int .i64 x) l i = some none := by
    intro l
    induction l with
    | nil => intro i _; rfl
    | cons y l ih =>
      intro i hl
      obtain ⟨a, h1, h2⟩ := hl y (by simp)
      have hne : (x == a) = false := by
        cases hxa : x == a with
        | false => rfl
        | true => rw [eq_of_beq hxa, h2] at hx; cases hx
      unfold Instr.findNow
      rw [h1]
      simp only [Instr.sameNow, if_true, hne]
      exact ih _ (fun y hy => hl y (by simp [hy]))
  have h1 := hn es.toList 0 hk
  have hck : ∀ em, (Instr.checkKey em 10000 3 (.int .i64 x)).run Try.prog w = .ok () w := fun em => by
    rw [show (10000 : Nat) = 9999 + 1 from rfl]
    unfold Instr.checkKey
    simp [Sem.run_bind, run_underlying Try.underlying3]
  simp [Instr.lookup, run_underlying ht, MapKept.run_getObj_map hb, hck, run_underlying Try.underlying3, Instr.findKey, h1, hz, Result.andThen]

theorem SlabAt.clearInk {w : World} {b g m : Nat} {S : SM} (h : SlabAt w b g m S) (ty : TypeId) :
    ∃ w', (Builtin.clear_ #[61] ty #[.map (some m)]).run Try.prog w = .ok (.tuple #[]) w' ∧ SlabAt w' b g m { S with ink := fun _ => none } ∧ Oth b g m w w' := by
  obtain ⟨w', hr, h1, h2⟩ := h.ink.clear Try.underlying61 ty
  obtain ⟨a1, a2, a3⟩ := h.apart
  refine ⟨w', hr, ⟨⟨h.ok.n4, h.ok.n4096, h.ok.bur, (fun j x e => by cases e), h.ok.sup, h.ok.made⟩, ?_, ?_, ?_⟩, Oth.grown h2 (.inr (.inr rfl))⟩
  · rw [h2.block b h.lts.1 (fun e => by cases e; exact a2 rfl)]; exact h.blk
  · unfold Blk
    rw [h2.block g h.lts.2.1 (fun e => by cases e; exact a3 rfl)]; exact h.row
  · have e : inkF { S with ink := fun _ => none } = fun _ => none := by
      funext y
      show (if 0 ≤ y then none else none) = none
      split <;> rfl
    rw [e]
    exact h1.tight (fun x v h => by cases h)

theorem others_of {W W' : World} (h : Below W.heap.size W W') : KeepsOthers W W' := ⟨h.size, fun k _ hk _ => (h.block k (Array.getElem?_eq_some_iff.1 hk).1).trans hk⟩
theorem others_mid {W W' : World} {g : Nat} {e : TypeId} {q : IntKind} {xs : List Nat} (hg : Blk W g e q xs) (h : Mid (fun j => j ≠ g) W W') : KeepsOthers W W' :=
  ⟨h.size, fun k o hk ho => (h.block k (Array.getElem?_eq_some_iff.1 hk).1 (fun e => by
    unfold Blk at hg
    rw [e, hg] at hk
    cases hk; cases ho)).trans hk⟩

/-- A store of a face into a box of its own, within a round. -/
theorem wpListIn_store_face {Fe : Fence} {nF : Nat} {ops : Array Oper} {rest : List Oper} {o : Oper} {a : Act} {w : World} {Q : Exit → Act → World → Prop} (hgd : o.guard = none) (x y : Operand) (ho : o.op = .store 66 x y)
    (q : Nat) (hx : a.eval x = .pointer (some ⟨q, 0, none⟩)) (old : Array Value) (hq : w.heap[q]? = some (.cells old 66 (0, 0))) (hs : old.size = 64) (A : Array Value) (hy : a.eval y = .agg A) (xs : List Nat) (hl : xs.length = 64) (hA : (xs.map fun (x : Nat) => Value.int .u8 x).toArray = A)
    (h : ∀ w', Blk w' q 66 .u8 xs → But q w w' → wpListIn Fe nF Try.prog ops Q rest (a.put o.dst undef) w') : wpListIn Fe nF Try.prog ops Q (o :: rest) a w := by
  subst hA
  refine wpListIn_plain hgd fun K' hK' => ?_
  have hr := store_face hq hs hl
  rw [show faceV xs = .agg (xs.map fun (x : Nat) => Value.int .u8 x).toArray from rfl] at hr
  unfold Oper.wpIn
  refine ⟨by simp [Oper.about, ho], ?_⟩
  rw [Oper.semAt_plain Fe _ _ (by rw [ho]; intro c hc'; cases hc')]
  simp only [execOp, ho, hx, hy, Instr.storeAt, Instr.sureAddr, Sem.run_bind, Sem.run_pure, Result.andThen_ok, hr]
  exact hK' _ _ (h _ (blk_setRow hq) (But.setRow _ _))

/-- What these sectors show behind a waking. -/
def wokeB (S : SM) (l : List (Int × List Nat)) (pre : List Int) (j : Nat) : List Nat :=
  if (j : Int) ∈ pre then (match S.ink j with | some _ => fitN ((SM.lastOf l j).getD []) | none => S.bur j) else S.bur j
def woke (S : SM) (l : List (Int × List Nat)) (pre : List Int) : SM := { S with bur := wokeB S l pre }
theorem woke_nil (S : SM) (l : List (Int × List Nat)) : woke S l [] = S := by
  unfold woke
  have : wokeB S l [] = S.bur := by funext j; unfold wokeB; rw [if_neg (by simp)]
  rw [this]
theorem woke_all {S : SM} {l : List (Int × List Nat)} {ss : List Int} (h : ∀ x, x ∈ ss ↔ (SM.lastOf l x).isSome = true) : wokeB S l ss = S.wakes l := by
  funext j
  unfold wokeB SM.wakes
  by_cases hj : (j : Int) ∈ ss
  · rw [if_pos hj]
    obtain ⟨b, hb⟩ := Option.isSome_iff_exists.1 ((h j).1 hj)
    rw [hb]
    cases S.ink j <;> rfl
  · rw [if_neg hj]
    have : SM.lastOf l (j : Int) = none := by
      cases e : SM.lastOf l (j : Int) with
      | none => rfl
      | some b => exact absurd ((h j).2 (by rw [e]; rfl)) hj
    rw [this]
    cases S.ink j <;> rfl
/-- A sector that isn't inked stays. -/
theorem woke_skip {S : SM} {l : List (Int × List Nat)} {pre : List Int} {x : Int} (h : ∀ j : Nat, (j : Int) = x → S.ink j = none) : woke S l (pre ++ [x]) = woke S l pre := by
  unfold woke
  have : wokeB S l (pre ++ [x]) = wokeB S l pre := by
    funext j
    unfold wokeB
    by_cases hx : (j : Int) = x
    · have e := h j hx
      simp [e]
    · by_cases hp : (j : Int) ∈ pre
      · rw [if_pos (by simp [hp]), if_pos hp]
      · rw [if_neg (by simp [hp, hx]), if_neg hp]
  rw [this]
/-- One that is shows what the scar left. -/
theorem woke_step {S : SM} {l : List (Int × List Nat)} {pre : List Int} {K : Nat} {f : List Nat} (h : S.ink K = some f) : woke S l (pre ++ [(K : Int)]) = { woke S l pre with bur := fun j => if j = K then fitN ((SM.lastOf l K).getD []) else (woke S l pre).bur j } := by
  unfold woke
  have : wokeB S l (pre ++ [(K : Int)]) = fun j => if j = K then fitN ((SM.lastOf l K).getD []) else wokeB S l pre j := by
    funext j
    unfold wokeB
    by_cases hx : j = K
    · subst hx
      rw [if_pos (by simp), if_pos rfl, h]
    · rw [if_neg hx]
      by_cases hp : (j : Int) ∈ pre
      · rw [if_pos (by simp [hp]), if_pos hp]
      · rw [if_neg (by simp [hp]; omega), if_neg hp]
  rw [this]

set_option maxHeartbeats 4000000 in
set_option maxRecDepth 100000 in
theorem wake_calls {w : World} {b g m : Nat} {S : SM} (h : SlabAt w b g m S) {p : Option Addr} {n c : Nat} {l : List (Int × List Nat)} {qs : List (Option Addr × Nat × Nat)} (hl : ScarsIn w p n c l qs) (hne : ∀ q ∈ qs, 0 < q.2.1 → ∀ a, q.1 = some a → a.block ≠ b ∧ a.block ≠ g ∧ a.block ≠ m) :
    Calls Try.prog 11 #[.pointer (some ⟨b, 0, none⟩), .slice p n c] w fun e w' => e = .returned (.tuple #[]) ∧ SlabAt w' b g m (S.wake l) ∧ Oth b g m w w' := by
  refine (callsIn_wide (n := 10)).1 ?_
  have HL : Hold _ := ⟨last_calls (hl.below (w' := w.alloc (.cells #[.pointer (some ⟨b, 0, none⟩)] 23)) ((Below.refl _ _).alloc (Nat.le_refl _) _))⟩
  have HS : Hold _ := ⟨h⟩
  have HI : Hold _ := ⟨hl⟩
  have HNE : Hold _ := ⟨hne⟩
  clear h hl hne
  refine callsIn_of_wp_marks Try.func11 rfl trivial ?_ rfl
  simp only [Try.ntmps11, List.size_toArray, List.length_cons, List.length_nil, Nat.reduceAdd, Nat.reduceSub, Array.replicate_succ, Array.replicate_zero, List.push_toArray, List.append_toArray, List.nil_append, List.cons_append]
  gi_wp2_with fail
  refine ⟨trivial, (callsIn_wide.2 HL.out).mono ?_⟩
  rintro e w1 ⟨mm, rfl, hmm, hmap, hb1⟩
  gi_wp2_with fail
  have cK : ∀ mb W, CallsIn Fence.wide 9 Try.prog 31 #[.map mb] W fun e w' => e = .returned (.func (.func 41) #[] #[.pointer (some ⟨W.heap.size, 0, none⟩)]) ∧ w' = W.alloc (.cells #[.map mb] 68) := fun mb W => AnyZI.keys_in keysS Fence.wide 9 trivial rfl mb W
  refine ⟨trivial, (cK _ _).mono ?_⟩
  rintro e w9 ⟨rfl, rfl⟩
  obtain ⟨q0, hq0⟩ : ∃ q, w.heap.size = q := ⟨_, rfl⟩
  obtain ⟨q4, hq4⟩ : ∃ q, w1.heap.size = q := ⟨_, rfl⟩
  obtain ⟨W0, hW0⟩ : ∃ W0, (w1.alloc (.cells #[.map (some mm)] 68)).alloc (.cells #[.map (some mm)] 68) = W0 := ⟨_, rfl⟩
  have hs0 : W0.heap.size = q4 + 2 := by rw [← hW0, ← hq4]; simp
  have hsw : (w1.alloc (.cells #[.map (some mm)] 68)).heap.size = q4 + 1 := by rw [← hq4]; simp
  have hbA : Below w.heap.size w (w.alloc (.cells #[.pointer (some ⟨b, 0, none⟩)] 23)) := (Below.refl _ _).alloc (Nat.le_refl _) _
  have hb10 : Below w1.heap.size w1 W0 := by rw [← hW0]; exact ((Below.refl _ _).alloc (Nat.le_refl _) _).alloc (by simp) _
  have hbW : Below w.heap.size w W0 := hbA.trans ((hb1.mono (by simp)).trans (hb10.mono (by have := hb1.size; simp at this; omega)))
  have hB0 : W0.heap[q0]? = some (.cells #[.pointer (some ⟨b, 0, none⟩)] 23 (0, 0)) := by
    have hlt : q0 < (w.alloc (.cells #[.pointer (some ⟨b, 0, none⟩)] 23)).heap.size := by simp; omega
    rw [hb10.block q0 (Nat.lt_of_lt_of_le hlt hb1.size), hb1.block q0 hlt, ← hq0]
    exact heap_alloc_new w _
  have hB4 : W0.heap[q4]? = some (.cells #[.map (some mm)] 68 (0, 0)) := by
    rw [← hW0, ← hq4]; exact (Below.heap_alloc _ _ _ (by simp)).trans (heap_alloc_new w1 _)
  have hBk : W0.heap[q4 + 1]? = some (.cells #[.map (some mm)] 68 (0, 0)) := by
    rw [← hW0, ← hsw]; exact heap_alloc_new _ _
  have hmW : MapIs W0 mm n (lastV (zipS l qs)) := hmap.below hb10 hmap.lt
  have HMW : Hold _ := ⟨hmW⟩
  have HSW : Hold _ := ⟨HS.out.later hbW⟩
  have HIW : Hold _ := ⟨HI.out.below hbW⟩
  have HBW : Hold _ := ⟨hbW⟩
  have HB0 : Hold _ := ⟨hB0⟩
  have HB4 : Hold _ := ⟨hB4⟩
  have HS0 : Hold _ := ⟨hs0⟩
  have HLT : Hold (b < q0 ∧ g < q0 ∧ m < q0 ∧ q0 < q4 ∧ q0 ≤ mm ∧ mm < q4) := ⟨by
    have h1 := HS.out.lts
    have h2 := hb1.size
    have h3 := hmap.lt
    simp at h2 hmm
    omega⟩
  obtain ⟨D0, hown, hat⟩ := hmW.ex
  have hseq := seqStopsA_iff.1 (seqStops_iff.1 (AnyZI.keys_stops (ρ := keysS_ren) { keysS with } Fence.wide 9 trivial rfl (by omega) (q4 + 1) mm n D0 W0 (by omega) (by simp [World.cell?, hBk]) hown))
  have HAS : Hold (∀ x, has D0 (.int .i64 x) = (SM.lastOf l x).isSome) := ⟨fun x => by
    rw [MapIs.has hat x, lastOf_zipS HI.out.qlen]
    unfold lastV
    cases SM.lastOf (zipS l qs) x <;> rfl⟩
  clear hb1 hmap hmm hat hown hbA hb10 hbW hB0 hB4 hBk hmW hs0 HL
  rw [hsw, hW0]
  clear hsw hW0
  gi_wp2_with fail
  clear hq0 hq4
  refine wpIn_rangeFunc_ownF rfl (by decide) (gf := 41) (lb := #[.pointer (some ⟨q4 + 1, 0, none⟩)]) rfl trivial (enters_of Try.func41 (by kernel_rfl) rfl)
    (encs := fun x => #[encZ x]) (Kp := KeepsWalks) hseq walksK_t walksK_b (Below.refl _ _) (fun _ => rfl)
    (fun pre W => SlabAt W b g m (woke S l pre) ∧ Oth b g m W0 W) (fun _ _ _ => False)
    (fun s A B row hs hg hr => ⟨hs.1.keep (hg.block b hs.1.lts.1 (fun e => by have := (hr b e.symm).1; have := HLT.out; have := HS0.out; omega)) (hg.block g hs.1.lts.2.1 (fun e => by have := (hr g e.symm).1; have := HLT.out; have := HS0.out; omega)) (hg.block m hs.1.lts.2.2 (fun e => by have := (hr m e.symm).1; have := HLT.out; have := HS0.out; omega)), ⟨hg.os.trans (Mid.os hs.2), hg.tape.trans (Mid.tape hs.2), hg.output.trans (Mid.output hs.2), Nat.le_trans hs.2.size hg.size, fun k hk hp => (hg.block k (Nat.lt_of_lt_of_le hk hs.2.size) (fun e => by have := (hr k e.symm).1; omega)).trans (Mid.block hs.2 k hk hp)⟩⟩)
    (fun _ _ _ _ _ h _ _ => h)
    ⟨by rw [woke_nil]; exact HSW.out, Oth.refl _ _ _ _⟩
    (fun x => { tmps := #[.pointer (some ⟨b, 0, none⟩), .slice p n c, .pointer (some ⟨q0, 0, none⟩), undef, .pointer (some ⟨q4, 0, none⟩), encZ x, undef, undef, .pointer (some ⟨b, 0, none⟩), .bool false, .slice p n c, .map (some mm), .map (some mm), .func (.func 41) #[] #[.pointer (some ⟨q4 + 1, 0, none⟩)], encZ x, undef, undef, undef, undef, undef, undef, undef, undef, undef, undef, undef, undef, undef, undef, undef, undef, undef, undef, undef, undef, undef, undef, undef, undef, undef, undef, undef], defers := [] }) ?assign ?body ?done ?stop
  case assign =>
    intro l2 x W K hK
    gi_wp2
    exact hK
  case stop =>
    rintro D c2 pre W _ _ hF _
    exact hF.elim
  case body =>
    rintro l2 pre x W ⟨hs, ho⟩ _
    obtain ⟨A0, hA0⟩ : ∃ A, ((plainN 0).map fun (x : Nat) => Value.int .u8 x).toArray = A := ⟨_, rfl⟩
    have HA0 : Hold _ := ⟨hA0⟩
    have HSp : Hold _ := ⟨hs⟩
    have HOp : Hold _ := ⟨ho⟩
    have c0 : W.cell? ⟨q0, 0, none⟩ = some (.pointer (some ⟨b, 0, none⟩)) := by
      simp [World.cell?, ho.at_ (k := q0) (by have := HLT.out; have := HS0.out; omega) (by have := HLT.out; omega) (by have := HLT.out; omega) (by have := HLT.out; omega), HB0.out]
    have c4 : W.cell? ⟨q4, 0, none⟩ = some (.map (some mm)) := by
      simp [World.cell?, ho.at_ (k := q4) (by have := HS0.out; omega) (by have := HLT.out; omega) (by have := HLT.out; omega) (by have := HLT.out; omega), HB4.out]
    have c1 := hs.cells.2.1
    have hz : (zeroValue 66).run Try.prog W = .ok (.agg A0) W := by rw [← hA0]; exact zero_face W
    have hcases : ((Instr.lookup 61 (.map (some m)) (encZ x) true).run Try.prog W = .ok (.tuple #[.agg A0, .bool false]) W ∧ ∀ j : Nat, (j : Int) = x → S.ink j = none) ∨
        ∃ K f, x = ((K : Nat) : Int) ∧ S.ink K = some f ∧ (Instr.lookup 61 (.map (some m)) (encZ x) true).run Try.prog W = .ok (.tuple #[faceV f, .bool true]) W := by
      cases hwf : (Lit.int .i64 x).wf with
      | false =>
        refine .inl ⟨hs.ink.look_bad Try.underlying61 hz hwf, fun j hj => ?_⟩
        cases hi : S.ink j with
        | none => rfl
        | some f =>
          have h1 := (HS.out.ok.ink j f hi).1
          have h2 := wf_at HS.out.ok.n4096 (k := x) (by omega) (by omega)
          rw [hwf] at h2; cases h2
      | true =>
        have h1 := hs.ink.look_ok Try.underlying61 hz hwf
        have e1 : inkF (woke S l pre) x = inkF S x := rfl
        rw [e1] at h1
        cases hv : inkF S x with
        | none =>
          rw [hv] at h1
          refine .inl ⟨h1, fun j hj => ?_⟩
          cases hi : S.ink j with
          | none => rfl
          | some f => rw [← hj, inkF_some hi] at hv; cases hv
        | some v =>
          rw [hv] at h1
          have h2 := inkF_in HS.out.ok x v hv
          have hx : x = ((x.toNat : Nat) : Int) := by omega
          cases hi : S.ink x.toNat with
          | none => rw [hx, inkF_none hi] at hv; cases hv
          | some f =>
            rw [hx, inkF_some hi] at hv
            cases hv
            exact .inr ⟨x.toNat, f, hx, hi, h1⟩
    clear hz hA0
    rcases hcases with ⟨hlk, hno⟩ | ⟨K, f, rfl, hi, hlk⟩
    · have HSK : Hold _ := ⟨woke_skip (l := l) (pre := pre) hno⟩
      clear hno hs ho
      gi_wp2_with (refine wpListIn_store_face rfl _ _ rfl _ rfl _ (heap_alloc_new _ _) (by rfl) _ rfl _ (plainN_len 0) HA0.out ?_; intro w2 hb2 hm2; refine Paused.out ?_)
      have hbl : Below W.heap.size W w2 := ((Below.refl W.heap.size W).alloc (Nat.le_refl _) _).trans (hm2.below (Nat.le_refl _) (by simp))
      have HBL : Hold _ := ⟨hbl⟩
      clear hbl hm2 hb2 c0 c4 c1 hlk
      refine ⟨?_⟩
      gi_wp2
      exact ⟨others_of HBL.out, (others_of HBL.out).walks, by rw [HSK.out]; exact HSp.out.later HBL.out, HOp.out.trans (Oth.of HBL.out)⟩
    · have HI : Hold _ := ⟨hi⟩
      have HKL : Hold (K < S.n ∧ f.length = 64 ∧ Bytes8 f) := ⟨HS.out.ok.ink K f hi⟩
      obtain ⟨Af, hAf⟩ : ∃ A, (f.map fun (x : Nat) => Value.int .u8 x).toArray = A := ⟨_, rfl⟩
      have hlk' : (Instr.lookup 61 (.map (some m)) (encZ (K : Nat)) true).run Try.prog W = .ok (.tuple #[.agg Af, .bool true]) W := by rw [hlk, ← hAf]; rfl
      have HAf : Hold _ := ⟨hAf⟩
      obtain ⟨i, u, un, uc, bs, hval, hrow, hbs8, hbs⟩ : ∃ (i : Int) (u : Option Addr) (un uc : Nat) (bs : List Nat), (lastV (zipS l qs) (K : Nat)).getD (.agg #[.int .i64 0, .slice none 0 0]) = .agg #[.int .i64 i, .slice u un uc] ∧
          (∀ w9, Oth b g m W0 w9 → RowIn w9 .u8 u un uc bs) ∧ Bytes8 bs ∧ bs = (SM.lastOf l (K : Nat)).getD [] := by
        cases hz : SM.lastOf (zipS l qs) (K : Nat) with
        | none =>
          refine ⟨0, none, 0, 0, [], by unfold lastV; rw [hz]; rfl, fun w9 _ => ⟨rfl, Nat.le_refl _, by omega, fun h => by omega⟩, (fun y hy => by cases hy), ?_⟩
          rw [lastOf_zipS HIW.out.qlen, hz]; rfl
        | some y =>
          obtain ⟨s, hs9, e1, e2⟩ := SM.lastOf_mem _ _ _ hz
          obtain ⟨j, hj⟩ := List.getElem?_of_mem hs9
          have hjl : j < l.length := by have := (List.getElem?_eq_some_iff.1 hj).1; rw [zipS_len HIW.out.qlen] at this; exact this
          obtain ⟨s1, hs1⟩ : ∃ s1, l[j]? = some s1 := ⟨_, List.getElem?_eq_getElem hjl⟩
          obtain ⟨q1, hq1⟩ : ∃ q1, qs[j]? = some q1 := ⟨_, List.getElem?_eq_getElem (by rw [HIW.out.qlen]; exact hjl)⟩
          have hz9 := zipS_at hs1 hq1
          rw [hj] at hz9
          cases hz9
          obtain ⟨bb, off, _, _, hat⟩ := HIW.out.at_ (by rw [HIW.out.len]; omega)
          have hsc := hat j s1 q1 hs1 hq1
          refine ⟨(K : Nat), q1.1, q1.2.1, q1.2.2, s1.2, by unfold lastV; rw [hz, ← e2]; rfl, fun w9 h9 => hsc.row.oth h9 (fun h0 a ha => HNE.out q1 (List.mem_of_getElem? hq1) h0 a ha), hsc.b8, ?_⟩
          rw [lastOf_zipS HIW.out.qlen, hz, ← e2]; rfl
      have HROW : Hold _ := ⟨hrow⟩
      have HBS : Hold _ := ⟨hbs8⟩
      obtain ⟨A, hA⟩ : ∃ A, ((fitN bs).map fun (x : Nat) => Value.int .u8 x).toArray = A := ⟨_, rfl⟩
      have HA : Hold _ := ⟨hA⟩
      obtain ⟨S1, hS1⟩ : ∃ S1, woke S l pre = S1 := ⟨_, rfl⟩
      obtain ⟨S2, hS2⟩ : ∃ S2, woke S l (pre ++ [(K : Int)]) = S2 := ⟨_, rfl⟩
      have HS2 : Hold ({ S1 with bur := fun j => if j = K then fitN bs else S1.bur j } = S2) := ⟨by rw [← hS2, ← hS1, woke_step hi, hbs]⟩
      have HE1 : Hold _ := ⟨hS1⟩
      have HE2 : Hold _ := ⟨hS2⟩
      obtain ⟨N, hN⟩ : ∃ N, S.n = N := ⟨_, rfl⟩
      have hn1 : S1.n = N := by rw [← hS1]; exact hN
      have hn2 : S2.n = N := by rw [← hS2]; exact hN
      have hKn : K < N := by rw [← hN]; exact HKL.out.1
      have hKN : (K : Int) < N := by omega
      have hmN : N ≤ 4096 := by have := HS.out.ok.n4096; omega
      have HKN : Hold (K < N) := ⟨hKn⟩
      rw [hS1] at HSp
      clear hs ho hlk hAf hi hA hrow hbs8 hbs hS1 hS2 hN hKn
      gi_wp2_with (refine wpListIn_store_face rfl _ _ rfl _ rfl _ (heap_alloc_new _ _) (by rfl) _ rfl _ HKL.out.2.1 HAf.out ?_; intro w2 hb2 hm2; refine Paused.out ?_)
      have hbl : Below W.heap.size W w2 := ((Below.refl W.heap.size W).alloc (Nat.le_refl _) _).trans (hm2.below (Nat.le_refl _) (by simp))
      have HBL : Hold _ := ⟨hbl⟩
      have HSX : Hold (SlabAt w2 b g m S1) := ⟨HSp.out.later hbl⟩
      have HOX : Hold (Oth b g m W0 w2) := ⟨HOp.out.trans (Oth.of hbl)⟩
      have HBX : Hold (w2.heap[q0]? = some (.cells #[.pointer (some ⟨b, 0, none⟩)] 23 (0, 0)) ∧ w2.heap[q4]? = some (.cells #[.map (some mm)] 68 (0, 0)) ∧ MapIs w2 mm n (lastV (zipS l qs))) := ⟨by
        have h0 := HOX.out.at_ (k := q0) (by have := HLT.out; have := HS0.out; omega) (by have := HLT.out; omega) (by have := HLT.out; omega) (by have := HLT.out; omega)
        have h4 := HOX.out.at_ (k := q4) (by have := HS0.out; omega) (by have := HLT.out; omega) (by have := HLT.out; omega) (by have := HLT.out; omega)
        have h5 := HOX.out.at_ (k := mm) (by have := HLT.out; have := HS0.out; omega) (by have := HLT.out; omega) (by have := HLT.out; omega) (by have := HLT.out; omega)
        exact ⟨h0.trans HB0.out, h4.trans HB4.out, HMW.out.block h5⟩⟩
      have HCC : Hold (∀ w9, Mid (fun j => j ≠ g) w2 w9 → w9.cell? ⟨q0, 0, none⟩ = some (.pointer (some ⟨b, 0, none⟩)) ∧ w9.cell? ⟨q4, 0, none⟩ = some (.map (some mm)) ∧ (Instr.lookup 68 (.map (some mm)) (.int .i64 (K : Nat)) false).run Try.prog w9 = .ok (.agg #[.int .i64 i, .slice u un uc]) w9) := ⟨fun w9 h9 => by
        obtain ⟨h1, h2, h3⟩ := HBX.out
        have e1 : w9.heap[q0]? = _ := (Mid.block h9 q0 (Array.getElem?_eq_some_iff.1 h1).1 (by have := HLT.out; omega)).trans h1
        have e2 : w9.heap[q4]? = _ := (Mid.block h9 q4 (Array.getElem?_eq_some_iff.1 h2).1 (by have := HLT.out; omega)).trans h2
        have e3 := h3.block (Mid.block h9 mm h3.lt (by have := HLT.out; omega))
        refine ⟨by simp [World.cell?, e1], by simp [World.cell?, e2], ?_⟩
        have := e3.look (Try.underlying68) (Try.zeroValue58 w9) (wf_at hmN (by omega) hKN)
        rw [this, ← hval]⟩
      have HFC : Hold (∀ w9, Mid (fun j => j ≠ g) w2 w9 → Calls Try.prog 32 #[.agg #[.int .i64 i, .slice u un uc]] w9 fun e w' => e = .returned (.agg A) ∧ Below w9.heap.size w9 w') := ⟨fun w9 h9 => scarface_calls (HROW.out w9 (HOX.out.trans (h9.mono (fun k hk => hk.2.1)))) HA.out⟩
      have HC0 : Hold (∀ d w9, SlabAt w9 b g m (cond d S2 S1) → w9.cell? ⟨b, 0, none⟩ = some (.slice (some ⟨g, 0, none⟩) N N)) := ⟨fun d w9 h9 => by
        have := h9.cells.1
        cases d
        · rw [show (cond false S2 S1) = S1 from rfl, hn1] at this; exact this
        · rw [show (cond true S2 S1) = S2 from rfl, hn2] at this; exact this⟩
      have HSTO : Hold (∀ w9, SlabAt w9 b g m S1 → ∀ C : Prop, (∀ w', (storeVar 66 ⟨g, K * 64, none⟩ (.agg A)).run Try.prog w9 = .ok () w' → SlabAt w' b g m S2 → Mid (fun j => j ≠ g) w9 w' → C) → C) := ⟨fun w9 h9 C hC => by
        have h1 := h9.storeRun (k := K) (by rw [hn1]; exact HKN.out) (fitN_len bs)
        have h2 := h9.stored (k := K) (fitN_len bs) (fitN_8 HBS.out)
        rw [HS2.out] at h2
        have e9 : faceV (fitN bs) = .agg A := by rw [← HA.out]; rfl
        rw [e9] at h1
        exact hC _ h1 h2 ⟨rfl, rfl, rfl, by rw [size_setRow]; exact Nat.le_refl _, fun k _ hk => heap_setRow_other _ _ _ hk⟩⟩
      clear hbl hm2 hb2 c0 c4 c1 hlk' hn1 hn2 hval
      refine ⟨?_⟩
      gi_wp2
      refine wpIn_region_dutiesR (Fe := Fence.wide.inRound l2) (by kernel_rfl) (by kernel_rfl) (by kernel_rfl) (fun _ => trivial) rfl
        [some (.pointer (some ⟨b, 0, none⟩)), some (.pointer (some ⟨b, 0, none⟩)), some (.pointer (some ⟨b, 0, none⟩)), some (.slice (some ⟨g, 0, none⟩) N N), some (.int .i64 (K : Nat)), some (.map (some mm)), some (.int .i64 (K : Nat)), some (.agg #[.int .i64 i, .slice u un uc]), none, some (.pointer (some ⟨g, K * 64, none⟩)), none]
        [false, false, false, false, false, false, false, false, true, false, true] rfl
        (fun w1 w2 => True)
        (fun D _ w' => SlabAt w' b g m (cond (D 10) S2 S1) ∧ Mid (fun j => j ≠ g) w2 w')
        (fun i v w' => match i with
          | 8 => v = .agg A
          | 10 => True
          | _ => True)
        ?_ ⟨HSX.out.later (Below.refl _ _).drew, Mid.of (Below.refl _ _).drew⟩ ?_ ?_
      · intro i v w1 w2 hf hb
        split at hf
        · exact hf
        · exact hf
        · trivial
      · simp only [DutiesR, Nat.reduceAdd]
        refine ⟨?_, ?_, ?_, ?_, ?_, ?_, ?_, ?_, ?_, ?_, ?_, trivial⟩
        case refine_1 =>
          intro D sp w' hD hW hdp hbx'
          (with_reducible refine askedR_of_asked ?_)
          have c0 := (HCC.out w' hbx'.2).1
          (with_reducible refine asked_value (w1 := w') (v := .pointer (some ⟨b, 0, none⟩)) ?_ ?_ ?_)
          · first | (simp only [Region.wanted]; done) | simp [Region.wanted, yielded, Act.put, go_sem]
          · simp [execOp, Act.eval, go_sem, c0]
          · exact ⟨rfl, rfl⟩
        case refine_2 =>
          intro D sp w' hD hW hdp hbx'
          (with_reducible refine askedR_of_asked ?_)
          (with_reducible refine asked_value (w1 := w') (v := .pointer (some ⟨b, 0, none⟩)) ?_ ?_ ?_)
          · first | (simp only [Region.wanted]; done) | simp [Region.wanted, yielded, Act.put, go_sem]
          · simp [execOp, Act.eval, Act.put, go_sem]
          · exact ⟨rfl, rfl⟩
        case refine_3 =>
          intro D sp w' hD hW hdp hbx'
          (with_reducible refine askedR_of_asked ?_)
          (with_reducible refine asked_value (w1 := w') (v := .pointer (some ⟨b, 0, none⟩)) ?_ ?_ ?_)
          · first | (simp only [Region.wanted]; done) | simp [Region.wanted, yielded, Act.put, go_sem]
          · simp [execOp, Act.eval, Act.put, go_sem]
          · exact ⟨rfl, rfl⟩
        case refine_4 =>
          intro D sp w' hD hW hdp hbx'
          (with_reducible refine askedR_of_asked ?_)
          have c0 := HC0.out _ w' hbx'.1
          (with_reducible refine asked_value (w1 := w') (v := .slice (some ⟨g, 0, none⟩) N N) ?_ ?_ ?_)
          · first | (simp only [Region.wanted]; done) | simp [Region.wanted, yielded, Act.put, go_sem]
          · simp [execOp, Act.eval, Act.put, go_sem, c0]
          · exact ⟨rfl, rfl⟩
        case refine_5 =>
          intro D sp w' hD hW hdp hbx'
          (with_reducible refine askedR_of_asked ?_)
          (with_reducible refine asked_value (w1 := w') (v := .int .i64 (K : Nat)) ?_ ?_ ?_)
          · first | (simp only [Region.wanted]; done) | simp [Region.wanted, yielded, Act.put, go_sem]
          · simp [execOp, Act.eval, Act.put, go_sem]
          · exact ⟨rfl, rfl⟩
        case refine_6 =>
          intro D sp w' hD hW hdp hbx'
          (with_reducible refine askedR_of_asked ?_)
          have c4 := (HCC.out w' hbx'.2).2.1
          (with_reducible refine asked_value (w1 := w') (v := .map (some mm)) ?_ ?_ ?_)
          · first | (simp only [Region.wanted]; done) | simp [Region.wanted, yielded, Act.put, go_sem]
          · simp [execOp, Act.eval, Act.put, go_sem, c4]
          · exact ⟨rfl, rfl⟩
        case refine_7 =>
          intro D sp w' hD hW hdp hbx'
          (with_reducible refine askedR_of_asked ?_)
          (with_reducible refine asked_value (w1 := w') (v := .int .i64 (K : Nat)) ?_ ?_ ?_)
          · first | (simp only [Region.wanted]; done) | simp [Region.wanted, yielded, Act.put, go_sem]
          · simp [execOp, Act.eval, Act.put, go_sem]
          · exact ⟨rfl, rfl⟩
        case refine_8 =>
          intro D sp w' hD hW hdp hbx'
          (with_reducible refine askedR_of_asked ?_)
          (with_reducible refine asked_value (w1 := w') (v := .agg #[.int .i64 i, .slice u un uc]) ?_ ?_ ?_)
          · first | (simp only [Region.wanted]; done) | simp [Region.wanted, yielded, Act.put, go_sem]
          · have cl := (HCC.out w' hbx'.2).2.2
            simp [execOp, Act.eval, Act.put, go_sem, cl]
          · exact ⟨rfl, rfl⟩
        case refine_9 =>
          intro D sp w' hD hW hdp hbx'
          (with_reducible refine askedR_of_asked ?_)
          (with_reducible refine asked_call (w1 := w') (f := 32) (args := #[.agg #[.int .i64 i, .slice u un uc]]) ?_ ?_ ?_)
          · first | (simp only [Region.wanted]; done) | simp [Region.wanted, yielded, Act.put, go_sem]
          · simp [Act.eval, Act.put, go_sem]
          · refine (HFC.out w' hbx'.2).mono ?_
            rintro en w9 ⟨rfl, hb⟩
            exact ⟨_, rfl, trivial, rfl, by simp; exact hbx'.1.later hb, hbx'.2.trans (Mid.of hb)⟩
        case refine_10 =>
          intro D sp w' hD hW hdp hbx'
          (with_reducible refine askedR_of_asked ?_)
          (with_reducible refine asked_value (w1 := w') (v := .pointer (some ⟨g, K * 64, none⟩)) ?_ ?_ ?_)
          · first | (simp only [Region.wanted]; done) | simp [Region.wanted, yielded, Act.put, go_sem]
          · simp [execOp, Act.eval, Act.put, go_sem, hKN]
          · exact ⟨rfl, rfl⟩
        case refine_11 =>
          intro D sp w' hD hW hdp hbx'
          (with_reducible refine askedR_of_asked ?_)
          have hs0 : SlabAt w' b g m S1 := by have h9 := hbx'.1; rw [hD] at h9; exact h9
          have k8 : (sp 8) = .agg A := (hdp 8 (List.mem_of_elem_eq_true (by kernel_rfl))).2
          (with_reducible refine HSTO.out w' hs0 _ (fun w5 hr hs2 ho2 => ?_))
          (with_reducible refine asked_skip (w1 := w5) ?_ ?_ ?_)
          · first | (simp only [Region.wanted]; done) | simp [Region.wanted, yielded, Act.put, go_sem]
          · simp [execOp, Act.eval, Act.put, Instr.storeAt, Instr.sureAddr, Result.andThen_ok, k8, hr]
          · exact ⟨trivial, trivial, by simp; exact hs2, hbx'.2.trans ho2⟩
      · intro sp w7 hsp hbx'
        have HF1 : Hold (SlabAt w7 b g m S2) := ⟨hbx'.1⟩
        have HF2 : Hold (Mid (fun j => j ≠ g) W w7) := ⟨(Mid.of HBL.out).trans hbx'.2⟩
        clear hsp hbx'
        simp only [frameOf, Nat.reduceAdd]
        generalize sp 8 = y8 at *
        go_simp
        gi_wp2
        exact ⟨others_mid HSp.out.row HF2.out, (others_mid HSp.out.row HF2.out).walks, by rw [HE2.out]; exact HF1.out, HOp.out.trans (HF2.out.mono (fun k hk => hk.2.1))⟩
  case done =>
    rintro D xs W hD ⟨_, hmem⟩ ⟨hs, ho⟩ hdef
    have c0 : W.cell? ⟨q0, 0, none⟩ = some (.pointer (some ⟨b, 0, none⟩)) := by
      simp [World.cell?, ho.at_ (k := q0) (by have := HLT.out; have := HS0.out; omega) (by have := HLT.out; omega) (by have := HLT.out; omega) (by have := HLT.out; omega), HB0.out]
    have c1 := hs.cells.2.1
    obtain ⟨w5, hcl, hs5, ho5⟩ := hs.clearInk 0
    have c0' : w5.cell? ⟨q0, 0, none⟩ = some (.pointer (some ⟨b, 0, none⟩)) := by
      have := ho5.at_ (k := q0) (cell_lt c0) (by have := HLT.out; omega) (by have := HLT.out; omega) (by have := HLT.out; omega)
      rw [World.cell?_of_block (w := W) this]; exact c0
    have f2 := hs5.free 2
    have k2 := hs5.cells.2.2.1
    have HS6 : Hold (SlabAt (w5.setCell ⟨b, 2, none⟩ (.int .i64 (-1))) b g m (S.wake l)) := ⟨by
      have h9 := hs5.setSup (k := -1) (by omega)
      have e9 : ({ ({ woke S l xs with ink := fun _ => none } : SM) with sup := -1 } : SM) = S.wake l := by
        unfold SM.wake woke
        rw [woke_all (fun x => (hmem x).trans (by rw [HAS.out x]))]
      rw [e9] at h9; exact h9⟩
    have HO6 : Hold (Oth b g m W0 (w5.setCell ⟨b, 2, none⟩ (.int .i64 (-1)))) := ⟨(ho.trans ho5).trans (Oth.set _ _ _ _ (.inl rfl))⟩
    have HDF : Hold ((w5.setCell ⟨b, 2, none⟩ (.int .i64 (-1))).heap[D]? = some (.deferred (some [])) ∧ W0.heap.size ≤ D) := ⟨by
      have hDb : D ≠ b ∧ D ≠ g ∧ D ≠ m := by have := HLT.out; have := HS0.out; omega
      rw [(Oth.set (g := g) (m := m) w5 b 2 _ (.inl rfl)).at_ (by have h1 := ho5.size; have h2 := (Array.getElem?_eq_some_iff.1 hdef).1; omega) hDb.1 hDb.2.1 hDb.2.2, ho5.at_ (Array.getElem?_eq_some_iff.1 hdef).1 hDb.1 hDb.2.1 hDb.2.2]
      exact hdef, hD⟩
    clear hs ho hmem hs5 ho5 hdef hD
    gi_wp2
    refine ⟨by simp, .inl ⟨_, _, rfl, run_takeDeferred HDF.out.1, ?_⟩⟩
    refine ⟨.tuple #[], by simp [results, Try.f11, go_sem], rfl, ?_, ?_⟩
    · exact HS6.out.keep (World.putObj_heap_other (by have := HLT.out; have := HS0.out; have := HDF.out.2; omega)) (World.putObj_heap_other (by have := HLT.out; have := HS0.out; have := HDF.out.2; omega)) (World.putObj_heap_other (by have := HLT.out; have := HS0.out; have := HDF.out.2; omega))
    · have h9 := (Oth.of (b := b) (g := g) (m := m) HBW.out).trans HO6.out
      have hg9 := grownBy_putObj' (w5.setCell ⟨b, 2, none⟩ (.int .i64 (-1))) D (.deferred none)
      exact ⟨hg9.os.trans (Mid.os h9), hg9.tape.trans (Mid.tape h9), hg9.output.trans (Mid.output h9), Nat.le_trans h9.size hg9.size, fun k hk hp => (hg9.block k (Nat.lt_of_lt_of_le hk h9.size) (fun e => by cases e; have := HBW.out.size; have := HDF.out.2; omega)).trans (Mid.block h9 k hk hp)⟩

end Go.Proofs.Ytpodoleopebioaa
