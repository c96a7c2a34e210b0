/- A shorter expansion is a beginning of a longer one; a key with a nought behind it: what the law's last region yields. -/
import Derived.Test.YtnpobaaaoelalaaDoorMacE
import Derived.Test.YtnpobaaaoelalaaDoorFlowS
namespace Go.Proofs.YtnpobaaaoelalaaDoor
open Go Go.RowKit Go.Proofs.YtnpobaaaoelalaaDoor.Flow

theorem exps_take (key info : List Nat) : ∀ j i, i ≤ j → (exps key info j).take (32 * i) = exps key info i
  | 0, i, h => by
    obtain rfl : i = 0 := by omega
    rfl
  | j + 1, i, h => by
    rcases Nat.lt_or_ge j i with h1 | h1
    · obtain rfl : i = j + 1 := by omega
      rw [List.take_of_length_le (by rw [exps_length]; omega)]
    · rw [exps, List.take_append_of_le_length (by rw [exps_length]; omega), exps_take key info j i h1]
theorem exps_front (key info : List Nat) {K L : Nat} (h : K ≤ L) : ((exps key info ((L + 31) / 32)).take L).take K = (exps key info ((K + 31) / 32)).take K := by
  rw [List.take_take, Nat.min_eq_left h, ← exps_take key info ((L + 31) / 32) ((K + 31) / 32) (by omega), List.take_take, Nat.min_eq_left (by omega)]

/-- The first ones of a slice of the call's own. -/
theorem slice_front {w : World} {p : Option Addr} {L : Nat} {Z : List Nat} (hr : RowIn w .u8 p L L Z) (K : Nat) (hK : K ≤ L) :
    (Instr.sliceAt 25 (.slice p L L) none (some (.int .i64 (K : Int))) none).run Tryd.prog w = .ok (.slice p K L) w := by
  have hel : Tryd.prog.elem 25 = 5 := by kernel_rfl
  have hu : Tryd.prog.underlying 25 = some (.slice (Tryd.prog.elem 25)) := by rw [hel]; exact Tryd.underlying25
  rw [run_sliceAt_slice w 25 _ _ _ _ hu, run_slice_h w 25 _ _ _ hu .i64 _ (by omega) (by omega)]
  have hs : (sizeOf (Tryd.prog.elem 25)).run Tryd.prog w = .ok 1 w := by rw [hel]; simp [go_sem]
  rw [hs]
  simp only [Result.andThen_ok, sliced]
  rcases Nat.eq_zero_or_pos L with rfl | h0
  · simp
  · obtain ⟨b, off, rfl, _, _⟩ := (hr.row h0).pos h0
    rw [if_neg (by omega), Option.map_some, add_plain]
    simp

/-- A slice that is a whole block, whatever is in it. -/
inductive BlkIs (n : Nat) (o : Obj) : Value → World → Prop where
  | of (q : Nat) (w : World) (h : w.heap[q]? = some o) : BlkIs n o (.slice (some ⟨q, 0, none⟩) n n) w
theorem BlkIs.elim {n : Nat} {o : Obj} {v : Value} {w : World} (h : BlkIs n o v w) {C : Prop} (k : ∀ q, v = .slice (some ⟨q, 0, none⟩) n n → w.heap[q]? = some o → C) : C := by
  cases h with
  | of q _ h => exact k q rfl h
theorem BlkIs.keep {n : Nat} {o : Obj} {v : Value} {w w' : World} (h : BlkIs n o v w) (hk : ∀ q, q < w.heap.size → v.ownBlock = some q → w'.heap[q]? = w.heap[q]?) : BlkIs n o v w' := by
  cases h with
  | of q _ h => exact .of q w' (by rw [hk q (Array.getElem?_eq_some_iff.1 h).1 rfl]; exact h)
theorem BlkIs.lt {n : Nat} {o : Obj} {v : Value} {w : World} (h : BlkIs n o v w) : ∀ g, v.ownBlock = some g → g < w.heap.size := by
  cases h with
  | of q _ h => intro g hg; obtain rfl : q = g := by simpa [Value.ownBlock] using hg
                exact (Array.getElem?_eq_some_iff.1 h).1

/-- A list of parts; bytes. -/
def partObj (pi : Option Addr) (ni ci : Nat) : Obj := .cells #[.slice pi ni ci] 25 (0, 0)
def byteObj (bs : List Nat) : Obj := .cells (bs.map fun (x : Nat) => Value.int .u8 (x : Int)).toArray 5 (0, 0)

theorem parts_at {w : World} {q : Nat} (P : Part) (h : w.heap[q]? = some (partObj P.p P.n P.c)) (hP : PartOk w P) : PartsIn w (some ⟨q, 0, none⟩) 1 1 [P] := by
  refine ⟨rfl, Nat.le_refl _, by omega, fun i X hX => ?_, fun _ => ⟨q, 0, rfl, (Array.getElem?_eq_some_iff.1 h).1, fun i X hX => ?_⟩⟩
  · match i, hX with
    | 0, hX => cases hX; exact hP
  · match i, hX with
    | 0, hX => cases hX; unfold World.cell?; dsimp only; rw [h]; rfl
theorem row_at {w : World} {q : Nat} {bs : List Nat} (h : w.heap[q]? = some (byteObj bs)) (hm : bs.length ≤ 9223372036854775807) : Row w .u8 (some ⟨q, 0, none⟩) bs.length bs.length bs := (show Blk w q 5 .u8 bs from h).row rfl (Nat.le_refl _) hm
theorem rowIn_at {w : World} {q : Nat} {bs : List Nat} (h : w.heap[q]? = some (byteObj bs)) (hm : bs.length ≤ 9223372036854775807) : RowIn w .u8 (some ⟨q, 0, none⟩) bs.length bs.length bs := ⟨rfl, Nat.le_refl _, hm, fun _ => row_at h hm⟩

/-- An append, to go on from. -/
theorem run_appFE {w : World} {B : Nat} {v : Value} {xs : List Nat} (h : Own w B v xs) {p : Option Addr} {m c : Nat} {bs : List Nat} (hr : RowIn w .u8 p m c bs) (hn : p = none → c = 0)
    (hmax : xs.length + m ≤ 140737488355328) (hB : B ≤ w.heap.size) (ty : TypeId) {C : Prop}
    (k : ∀ v' w', (Builtin.append_ #[25, 25] ty #[v, .slice p m c]).run Tryd.prog w = .ok v' w' → Own w' B v' (xs ++ bs) → w.grownBy w' v.ownBlock → Moved w v v' → C) : C := by
  obtain ⟨v', w', h1, h2, h3, h4⟩ := run_appF h hr hn hmax hB ty
  exact k v' w' h1 h2 h3 h4
theorem own_new {w : World} {n c : Nat} : ∀ g, (Value.slice (some ⟨w.heap.size, 0, none⟩) n c).ownBlock = some g → w.heap.size ≤ g := by
  intro g hg
  have : w.heap.size = g := by simpa [Value.ownBlock] using hg
  omega
theorem own_ge {B q n c : Nat} (h : B ≤ q) : ∀ g, (Value.slice (some ⟨q, 0, none⟩) n c).ownBlock = some g → B ≤ g := by
  intro g hg
  have : q = g := by simpa [Value.ownBlock] using hg
  omega

/-- What holds while the two tags are made. -/
structure FG (w0 : World) (po : Obj) (t key : List Nat) (D : Nat → Bool) (sp : Nat → Value) (w' : World) : Prop where
  bel : Below w0.heap.size w0 w'
  f2 : D 2 = true → BlkIs 1 po (sp 2) w'
  f3 : D 3 = true → BlkIs 32 (byteObj t) (sp 3) w'
  f5 : D 5 = true → D 7 = false → Own w' w0.heap.size (sp 5) []
  f7 : D 7 = true → D 9 = false → Own w' w0.heap.size (sp 7) key
  f8 : D 8 = true → BlkIs 1 (byteObj [0]) (sp 8) w'
  f9 : D 9 = true → OwnIs w0.heap.size (key ++ [0]) (sp 9) w'
  f11 : D 11 = true → BlkIs 1 po (sp 11) w'
  f12 : D 12 = true → BlkIs 32 (byteObj t) (sp 12) w'
  o9 : D 9 = true → D 7 = true
  o12 : D 12 = true → D 9 = true
  away : ∀ i j g, (i = 5 ∧ D 7 = false ∨ i = 7 ∧ D 9 = false) → D i = true → (j = 2 ∨ j = 3 ∨ j = 8 ∨ j = 11) → D j = true → (sp i).ownBlock = some g → (sp j).ownBlock ≠ some g

theorem FG.keep {w0 : World} {po : Obj} {t key : List Nat} {D : Nat → Bool} {sp : Nat → Value} {w w' : World} (h : FG w0 po t key D sp w) (hb : Below w.heap.size w w') : FG w0 po t key D sp w' where
  bel := bstepS h.bel hb
  f2 := fun e => (h.f2 e).keep fun q hq _ => hb.block q hq
  f3 := fun e => (h.f3 e).keep fun q hq _ => hb.block q hq
  f5 := fun e d => (h.f5 e d).belowS hb
  f7 := fun e d => (h.f7 e d).belowS hb
  f8 := fun e => (h.f8 e).keep fun q hq _ => hb.block q hq
  f9 := fun e => (h.f9 e).below hb
  f11 := fun e => (h.f11 e).keep fun q hq _ => hb.block q hq
  f12 := fun e => (h.f12 e).keep fun q hq _ => hb.block q hq
  o9 := h.o9
  o12 := h.o12
  away := h.away

theorem FG.old {w0 : World} {po : Obj} {t key : List Nat} {D : Nat → Bool} {sp : Nat → Value} {w : World} (h : FG w0 po t key D sp w) {i g : Nat} (hi : i = 5 ∧ D 7 = false ∨ i = 7 ∧ D 9 = false) (hD : D i = true) (hg : (sp i).ownBlock = some g) : g < w.heap.size := by
  rcases hi with ⟨rfl, d⟩ | ⟨rfl, d⟩
  · exact (h.f5 hD d).lt g hg
  · exact (h.f7 hD d).lt g hg
theorem FG.oldj {w0 : World} {po : Obj} {t key : List Nat} {D : Nat → Bool} {sp : Nat → Value} {w : World} (h : FG w0 po t key D sp w) {j g : Nat} (hj : j = 2 ∨ j = 3 ∨ j = 8 ∨ j = 11) (hD : D j = true) (hg : (sp j).ownBlock = some g) : g < w.heap.size := by
  rcases hj with rfl | rfl | rfl | rfl
  · exact (h.f2 hD).lt g hg
  · exact (h.f3 hD).lt g hg
  · exact (h.f8 hD).lt g hg
  · exact (h.f11 hD).lt g hg

theorem FG.add2 {w0 : World} {po : Obj} {t key : List Nat} {D : Nat → Bool} {sp : Nat → Value} {w1 w : World} (h1 : FG w0 po t key D sp w1) (hb : Below w1.heap.size w1 w) {u : Value} (hu : BlkIs 1 po u w) (hn : ∀ g, u.ownBlock = some g → w1.heap.size ≤ g) :
    FG w0 po t key (fun j => D j || decide (j = 2)) (upd sp 2 u) w := by
  have h := h1.keep hb
  refine ⟨h.bel, ?_, ?_, ?_, ?_, ?_, ?_, ?_, ?_, ?_, ?_, ?_⟩
  · intro _; simpa [upd] using hu
  · intro e; simpa [upd] using h.f3 (by simpa using e)
  · intro e d; simpa [upd] using h.f5 (by simpa using e) (by simpa using d)
  · intro e d; simpa [upd] using h.f7 (by simpa using e) (by simpa using d)
  · intro e; simpa [upd] using h.f8 (by simpa using e)
  · intro e; simpa [upd] using h.f9 (by simpa using e)
  · intro e; simpa [upd] using h.f11 (by simpa using e)
  · intro e; simpa [upd] using h.f12 (by simpa using e)
  · intro e; simpa using h.o9 (by simpa using e)
  · intro e; simpa using h.o12 (by simpa using e)
  · intro i j g hi hD hj hE hg
    have hi2 : i = 5 ∧ D 7 = false ∨ i = 7 ∧ D 9 = false := by simpa using hi
    have hi' : upd sp 2 u i = sp i := by rcases hi2 with ⟨rfl, _⟩ | ⟨rfl, _⟩ <;> simp [upd]
    have hD' : D i = true := by rcases hi2 with ⟨rfl, _⟩ | ⟨rfl, _⟩ <;> simpa using hD
    rw [hi'] at hg
    have hold := h1.old hi2 hD' hg
    by_cases e : j = 2
    · subst e
      have e2 : upd sp 2 u 2 = u := by simp [upd]
      rw [e2]
      intro e3
      have := hn g e3
      omega
    · have e2 : upd sp 2 u j = sp j := by simp [upd, e]
      rw [e2]
      exact h.away i j g hi2 hD' hj (by simpa [e] using hE) hg

theorem FG.add3 {w0 : World} {po : Obj} {t key : List Nat} {D : Nat → Bool} {sp : Nat → Value} {w1 w : World} (h1 : FG w0 po t key D sp w1) (hb : Below w1.heap.size w1 w) {u : Value} (hu : BlkIs 32 (byteObj t) u w) (hn : ∀ g, u.ownBlock = some g → w1.heap.size ≤ g) :
    FG w0 po t key (fun j => D j || decide (j = 3)) (upd sp 3 u) w := by
  have h := h1.keep hb
  refine ⟨h.bel, ?_, ?_, ?_, ?_, ?_, ?_, ?_, ?_, ?_, ?_, ?_⟩
  · intro e; simpa [upd] using h.f2 (by simpa using e)
  · intro _; simpa [upd] using hu
  · intro e d; simpa [upd] using h.f5 (by simpa using e) (by simpa using d)
  · intro e d; simpa [upd] using h.f7 (by simpa using e) (by simpa using d)
  · intro e; simpa [upd] using h.f8 (by simpa using e)
  · intro e; simpa [upd] using h.f9 (by simpa using e)
  · intro e; simpa [upd] using h.f11 (by simpa using e)
  · intro e; simpa [upd] using h.f12 (by simpa using e)
  · intro e; simpa using h.o9 (by simpa using e)
  · intro e; simpa using h.o12 (by simpa using e)
  · intro i j g hi hD hj hE hg
    have hi2 : i = 5 ∧ D 7 = false ∨ i = 7 ∧ D 9 = false := by simpa using hi
    have hi' : upd sp 3 u i = sp i := by rcases hi2 with ⟨rfl, _⟩ | ⟨rfl, _⟩ <;> simp [upd]
    have hD' : D i = true := by rcases hi2 with ⟨rfl, _⟩ | ⟨rfl, _⟩ <;> simpa using hD
    rw [hi'] at hg
    have hold := h1.old hi2 hD' hg
    by_cases e : j = 3
    · subst e
      have e2 : upd sp 3 u 3 = u := by simp [upd]
      rw [e2]
      intro e3
      have := hn g e3
      omega
    · have e2 : upd sp 3 u j = sp j := by simp [upd, e]
      rw [e2]
      exact h.away i j g hi2 hD' hj (by simpa [e] using hE) hg

theorem FG.add8 {w0 : World} {po : Obj} {t key : List Nat} {D : Nat → Bool} {sp : Nat → Value} {w1 w : World} (h1 : FG w0 po t key D sp w1) (hb : Below w1.heap.size w1 w) {u : Value} (hu : BlkIs 1 (byteObj [0]) u w) (hn : ∀ g, u.ownBlock = some g → w1.heap.size ≤ g) :
    FG w0 po t key (fun j => D j || decide (j = 8)) (upd sp 8 u) w := by
  have h := h1.keep hb
  refine ⟨h.bel, ?_, ?_, ?_, ?_, ?_, ?_, ?_, ?_, ?_, ?_, ?_⟩
  · intro e; simpa [upd] using h.f2 (by simpa using e)
  · intro e; simpa [upd] using h.f3 (by simpa using e)
  · intro e d; simpa [upd] using h.f5 (by simpa using e) (by simpa using d)
  · intro e d; simpa [upd] using h.f7 (by simpa using e) (by simpa using d)
  · intro _; simpa [upd] using hu
  · intro e; simpa [upd] using h.f9 (by simpa using e)
  · intro e; simpa [upd] using h.f11 (by simpa using e)
  · intro e; simpa [upd] using h.f12 (by simpa using e)
  · intro e; simpa using h.o9 (by simpa using e)
  · intro e; simpa using h.o12 (by simpa using e)
  · intro i j g hi hD hj hE hg
    have hi2 : i = 5 ∧ D 7 = false ∨ i = 7 ∧ D 9 = false := by simpa using hi
    have hi' : upd sp 8 u i = sp i := by rcases hi2 with ⟨rfl, _⟩ | ⟨rfl, _⟩ <;> simp [upd]
    have hD' : D i = true := by rcases hi2 with ⟨rfl, _⟩ | ⟨rfl, _⟩ <;> simpa using hD
    rw [hi'] at hg
    have hold := h1.old hi2 hD' hg
    by_cases e : j = 8
    · subst e
      have e2 : upd sp 8 u 8 = u := by simp [upd]
      rw [e2]
      intro e3
      have := hn g e3
      omega
    · have e2 : upd sp 8 u j = sp j := by simp [upd, e]
      rw [e2]
      exact h.away i j g hi2 hD' hj (by simpa [e] using hE) hg

theorem FG.add11 {w0 : World} {po : Obj} {t key : List Nat} {D : Nat → Bool} {sp : Nat → Value} {w1 w : World} (h1 : FG w0 po t key D sp w1) (hb : Below w1.heap.size w1 w) {u : Value} (hu : BlkIs 1 po u w) (hn : ∀ g, u.ownBlock = some g → w1.heap.size ≤ g) :
    FG w0 po t key (fun j => D j || decide (j = 11)) (upd sp 11 u) w := by
  have h := h1.keep hb
  refine ⟨h.bel, ?_, ?_, ?_, ?_, ?_, ?_, ?_, ?_, ?_, ?_, ?_⟩
  · intro e; simpa [upd] using h.f2 (by simpa using e)
  · intro e; simpa [upd] using h.f3 (by simpa using e)
  · intro e d; simpa [upd] using h.f5 (by simpa using e) (by simpa using d)
  · intro e d; simpa [upd] using h.f7 (by simpa using e) (by simpa using d)
  · intro e; simpa [upd] using h.f8 (by simpa using e)
  · intro e; simpa [upd] using h.f9 (by simpa using e)
  · intro _; simpa [upd] using hu
  · intro e; simpa [upd] using h.f12 (by simpa using e)
  · intro e; simpa using h.o9 (by simpa using e)
  · intro e; simpa using h.o12 (by simpa using e)
  · intro i j g hi hD hj hE hg
    have hi2 : i = 5 ∧ D 7 = false ∨ i = 7 ∧ D 9 = false := by simpa using hi
    have hi' : upd sp 11 u i = sp i := by rcases hi2 with ⟨rfl, _⟩ | ⟨rfl, _⟩ <;> simp [upd]
    have hD' : D i = true := by rcases hi2 with ⟨rfl, _⟩ | ⟨rfl, _⟩ <;> simpa using hD
    rw [hi'] at hg
    have hold := h1.old hi2 hD' hg
    by_cases e : j = 11
    · subst e
      have e2 : upd sp 11 u 11 = u := by simp [upd]
      rw [e2]
      intro e3
      have := hn g e3
      omega
    · have e2 : upd sp 11 u j = sp j := by simp [upd, e]
      rw [e2]
      exact h.away i j g hi2 hD' hj (by simpa [e] using hE) hg

theorem FG.add5 {w0 : World} {po : Obj} {t key : List Nat} {D : Nat → Bool} {sp : Nat → Value} {w1 w : World} (h1 : FG w0 po t key D sp w1) (hb : Below w1.heap.size w1 w) {u : Value} (hu : Own w w0.heap.size u []) (hn : ∀ g, u.ownBlock = some g → w1.heap.size ≤ g) (d7 : D 7 = false) :
    FG w0 po t key (fun j => D j || decide (j = 5)) (upd sp 5 u) w := by
  have h := h1.keep hb
  refine ⟨h.bel, ?_, ?_, ?_, ?_, ?_, ?_, ?_, ?_, ?_, ?_, ?_⟩
  · intro e; simpa [upd] using h.f2 (by simpa using e)
  · intro e; simpa [upd] using h.f3 (by simpa using e)
  · intro _ _; simpa [upd] using hu
  · intro e; simp [d7] at e
  · intro e; simpa [upd] using h.f8 (by simpa using e)
  · intro e; simpa [upd] using h.f9 (by simpa using e)
  · intro e; simpa [upd] using h.f11 (by simpa using e)
  · intro e; simpa [upd] using h.f12 (by simpa using e)
  · intro e; simpa using h.o9 (by simpa using e)
  · intro e; simpa using h.o12 (by simpa using e)
  · intro i j g hi hD hj hE hg
    have hi2 : i = 5 ∧ D 7 = false ∨ i = 7 ∧ D 9 = false := by simpa using hi
    rcases hi2 with ⟨rfl, _⟩ | ⟨rfl, _⟩
    · have e1 : upd sp 5 u 5 = u := by simp [upd]
      rw [e1] at hg
      have hne : j ≠ 5 := by omega
      have e2 : upd sp 5 u j = sp j := by simp [upd, hne]
      rw [e2]
      intro e3
      have := h1.oldj hj (by simpa [hne] using hE) e3
      have := hn g hg
      omega
    · simp [d7] at hD

theorem FG.add7 {w0 : World} {po : Obj} {t key : List Nat} {D : Nat → Bool} {sp : Nat → Value} {w1 w : World} (h : FG w0 po t key D sp w1) {u : Value} (hu : Own w w0.heap.size u key) (hg : w1.grownBy w (sp 5).ownBlock) (hm : Moved w1 (sp 5) u) (d5 : D 5 = true) (d7 : D 7 = false) :
    FG w0 po t key (fun j => D j || decide (j = 7)) (upd sp 7 u) w := by
  have d9 : D 9 = false := by
    cases e : D 9 with
    | false => rfl
    | true => have := h.o9 e; rw [d7] at this; cases this
  have d12 : D 12 = false := by
    cases e : D 12 with
    | false => rfl
    | true => have := h.o12 e; rw [d9] at this; cases this
  have hk : ∀ j, (j = 2 ∨ j = 3 ∨ j = 8 ∨ j = 11) → D j = true → ∀ q, q < w1.heap.size → (sp j).ownBlock = some q → w.heap[q]? = w1.heap[q]? := fun j hj hE q hq hqj =>
    hg.block q hq fun e => h.away 5 j q (.inl ⟨rfl, d7⟩) d5 hj hE e.symm hqj
  refine ⟨h.bel.trans (grown_below hg h.bel.size (h.f5 d5 d7).ge), ?_, ?_, ?_, ?_, ?_, ?_, ?_, ?_, ?_, ?_, ?_⟩
  · intro e; have e' : D 2 = true := by simpa using e
    simpa [upd] using (h.f2 e').keep (hk 2 (by simp) e')
  · intro e; have e' : D 3 = true := by simpa using e
    simpa [upd] using (h.f3 e').keep (hk 3 (by simp) e')
  · intro _ d; simp at d
  · intro _ _; simpa [upd] using hu
  · intro e; have e' : D 8 = true := by simpa using e
    simpa [upd] using (h.f8 e').keep (hk 8 (by simp) e')
  · intro e; simp [d9] at e
  · intro e; have e' : D 11 = true := by simpa using e
    simpa [upd] using (h.f11 e').keep (hk 11 (by simp) e')
  · intro e; simp [d12] at e
  · intro _; simp
  · intro e; simp [d12] at e
  · intro i j g hi hD hj hE hgu
    have hi2 : i = 7 := by
      rcases hi with ⟨_, d⟩ | ⟨rfl, _⟩
      · simp at d
      · rfl
    subst hi2
    have e1 : upd sp 7 u 7 = u := by simp [upd]
    rw [e1] at hgu
    have hne : j ≠ 7 := by omega
    have e2 : upd sp 7 u j = sp j := by simp [upd, hne]
    have hE' : D j = true := by simpa [hne] using hE
    rw [e2]
    rcases hm with e | e
    · exact h.away 5 j g (.inl ⟨rfl, d7⟩) d5 hj hE' (by rw [← e]; exact hgu)
    · intro e3
      have := h.oldj hj hE' e3
      have := e g hgu
      omega

theorem FG.add9 {w0 : World} {po : Obj} {t key : List Nat} {D : Nat → Bool} {sp : Nat → Value} {w1 w : World} (h : FG w0 po t key D sp w1) {u : Value} (hu : OwnIs w0.heap.size (key ++ [0]) u w) (hg : w1.grownBy w (sp 7).ownBlock) (d7 : D 7 = true) (d9 : D 9 = false) :
    FG w0 po t key (fun j => D j || decide (j = 9)) (upd sp 9 u) w := by
  have d12 : D 12 = false := by
    cases e : D 12 with
    | false => rfl
    | true => have := h.o12 e; rw [d9] at this; cases this
  have hk : ∀ j, (j = 2 ∨ j = 3 ∨ j = 8 ∨ j = 11) → D j = true → ∀ q, q < w1.heap.size → (sp j).ownBlock = some q → w.heap[q]? = w1.heap[q]? := fun j hj hE q hq hqj =>
    hg.block q hq fun e => h.away 7 j q (.inr ⟨rfl, d9⟩) d7 hj hE e.symm hqj
  refine ⟨h.bel.trans (grown_below hg h.bel.size (h.f7 d7 d9).ge), ?_, ?_, ?_, ?_, ?_, ?_, ?_, ?_, ?_, ?_, ?_⟩
  · intro e; have e' : D 2 = true := by simpa using e
    simpa [upd] using (h.f2 e').keep (hk 2 (by simp) e')
  · intro e; have e' : D 3 = true := by simpa using e
    simpa [upd] using (h.f3 e').keep (hk 3 (by simp) e')
  · intro _ d; simp [d7] at d
  · intro _ d; simp at d
  · intro e; have e' : D 8 = true := by simpa using e
    simpa [upd] using (h.f8 e').keep (hk 8 (by simp) e')
  · intro _; simpa [upd] using hu
  · intro e; have e' : D 11 = true := by simpa using e
    simpa [upd] using (h.f11 e').keep (hk 11 (by simp) e')
  · intro e; simp [d12] at e
  · intro _; simpa using d7
  · intro e; simp [d12] at e
  · intro i j g hi hD hj hE hgu
    rcases hi with ⟨_, d⟩ | ⟨_, d⟩
    · simp [d7] at d
    · simp at d

theorem FG.add12 {w0 : World} {po : Obj} {t key : List Nat} {D : Nat → Bool} {sp : Nat → Value} {w1 w : World} (h1 : FG w0 po t key D sp w1) (hb : Below w1.heap.size w1 w) {u : Value} (hu : BlkIs 32 (byteObj t) u w) (d9 : D 9 = true) :
    FG w0 po t key (fun j => D j || decide (j = 12)) (upd sp 12 u) w := by
  have h := h1.keep hb
  have d7 := h.o9 d9
  refine ⟨h.bel, ?_, ?_, ?_, ?_, ?_, ?_, ?_, ?_, ?_, ?_, ?_⟩
  · intro e; simpa [upd] using h.f2 (by simpa using e)
  · intro e; simpa [upd] using h.f3 (by simpa using e)
  · intro e d; simpa [upd] using h.f5 (by simpa using e) (by simpa using d)
  · intro e d; simpa [upd] using h.f7 (by simpa using e) (by simpa using d)
  · intro e; simpa [upd] using h.f8 (by simpa using e)
  · intro e; simpa [upd] using h.f9 (by simpa using e)
  · intro e; simpa [upd] using h.f11 (by simpa using e)
  · intro _; simpa [upd] using hu
  · intro e; simpa using h.o9 (by simpa using e)
  · intro _; simpa using d9
  · intro i j g hi hD hj hE hgu
    rcases hi with ⟨_, d⟩ | ⟨_, d⟩
    · simp [d7] at d
    · simp [d9] at d
end Go.Proofs.YtnpobaaaoelalaaDoor
