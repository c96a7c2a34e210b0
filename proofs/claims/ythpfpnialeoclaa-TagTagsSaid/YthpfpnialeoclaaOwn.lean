/- Bytes that the call itself has laid, and that may grow. Of no package of the program. -/
import Derived.Test.YthpfpnialeoclaaGen
import Derived.Laws.OwnMore
import Derived.ArgAppend
import Derived.Laws.CopyOwn
import Derived.Tactics
namespace Go.Proofs.Ythpfpnialeoclaa
open Go Go.RowKit

/-- Bytes of the call's own: in a block from B on, or nil. -/
structure Own (w : World) (B : Nat) (v : Value) (bs : List Nat) : Prop where
  owns : w.ownsRow B 5 1 v bs.length (bs.map fun (x : Nat) => Value.int .u8 (x : Int))

theorem Own.nil (w : World) (B : Nat) : Own w B (.slice none 0 0) [] := ⟨World.ownsRow_nil w B 5 1⟩

/-- What it is. -/
theorem Own.elim {w : World} {B : Nat} {v : Value} {bs : List Nat} (h : Own w B v bs) :
    ∃ p c, v = .slice p bs.length c ∧ RowIn w .u8 p bs.length c bs ∧ New B p ∧ (p = none → c = 0) ∧ (∀ q, p = some q → q.block < w.heap.size) := by
  obtain ⟨h1, h2⟩ := h.owns
  rcases h2 with ⟨rfl, h0⟩ | ⟨g, cap, cur, rfl, hb, hg, hnc, hcm, hcs, ht⟩
  · refine ⟨none, 0, by rw [h0], ⟨rfl, by omega, by omega, fun h => absurd h (by omega)⟩, New.none _, fun _ => rfl, fun q hq => (by cases hq)⟩
  · have hlt : g < w.heap.size := (Array.getElem?_eq_some_iff.1 hg).1
    have hcm' : cap ≤ 9223372036854775807 := by simpa [maxLen] using hcm
    refine ⟨some ⟨g, 0, none⟩, cap, rfl, ⟨rfl, hnc, hcm', fun _ => ⟨rfl, hnc, hcm', .inr ⟨g, 0, rfl, hlt, fun i x hx => ?_⟩⟩⟩, fun q hq => (by cases hq; exact hb), fun h => (by cases h), fun q hq => (by cases hq; exact hlt)⟩
    have hi : i < bs.length := (List.getElem?_eq_some_iff.1 hx).1
    have hx2 : (bs.map fun (x : Nat) => Value.int .u8 (x : Int))[i]? = some (.int .u8 (x : Int)) := by rw [List.getElem?_map, hx]; rfl
    rw [← ht, List.getElem?_take] at hx2
    split at hx2
    · unfold World.cell?
      dsimp only
      rw [hg]
      simp only [Nat.zero_add]
      rw [Array.getElem?_toList] at hx2
      exact hx2
    · cases hx2

theorem Own.below {w w' : World} {B C : Nat} {v : Value} {bs : List Nat} (h : Own w B v bs) (hb : Below C w w') (hc : ∀ g, v.ownBlock = some g → g < C) : Own w' B v bs := by
  refine ⟨⟨h.owns.1, ?_⟩⟩
  rcases h.owns.2 with h2 | ⟨g, cap, cur, rfl, hbg, hg, h3⟩
  · exact .inl h2
  · refine .inr ⟨g, cap, cur, rfl, hbg, ?_, h3⟩
    rw [hb.block g (hc g rfl)]; exact hg
theorem Own.lt {w : World} {B : Nat} {v : Value} {bs : List Nat} (h : Own w B v bs) : ∀ g, v.ownBlock = some g → g < w.heap.size := by
  intro g hg
  rcases h.owns.2 with ⟨rfl, _⟩ | ⟨g', cap, cur, rfl, hbg, hg', h3⟩
  · cases hg
  · obtain rfl : g' = g := by simpa [Value.ownBlock] using hg
    exact (Array.getElem?_eq_some_iff.1 hg').1
theorem Own.ge {w : World} {B : Nat} {v : Value} {bs : List Nat} (h : Own w B v bs) : ∀ g, v.ownBlock = some g → B ≤ g := by
  intro g hg
  rcases h.owns.2 with ⟨rfl, _⟩ | ⟨g', cap, cur, rfl, hbg, hg', h3⟩
  · cases hg
  · obtain rfl : g' = g := by simpa [Value.ownBlock] using hg
    exact hbg
theorem Own.belowS {w w' : World} {B : Nat} {v : Value} {bs : List Nat} (h : Own w B v bs) (hb : Below w.heap.size w w') : Own w' B v bs := h.below hb h.lt
theorem Own.mono {w : World} {B B' : Nat} {v : Value} {bs : List Nat} (h : Own w B v bs) (hb : B' ≤ B) : Own w B' v bs := by
  refine ⟨⟨h.owns.1, ?_⟩⟩
  rcases h.owns.2 with h2 | ⟨g, cap, cur, h1, hbg, h3⟩
  · exact .inl h2
  · exact .inr ⟨g, cap, cur, h1, by omega, h3⟩

theorem grown_below {w w' : World} {g : Option Nat} (h : w.grownBy w' g) {B : Nat} (hB : B ≤ w.heap.size) (hg : ∀ b, g = some b → B ≤ b) : Below B w w' :=
  ⟨h.os, h.tape, h.output, h.size, fun k hk => h.block k (by omega) (fun e => by have := hg k e.symm; omega)⟩

/-- A literal. -/
theorem Own.lit (w : World) (bs : List Nat) (hm : bs.length ≤ 9223372036854775807) : Own (w.alloc (.cells (bs.map fun (x : Nat) => Value.int .u8 (x : Int)).toArray 5)) w.heap.size (.slice (some ⟨w.heap.size, 0, none⟩) bs.length bs.length) bs := by
  refine ⟨⟨by simp, .inr ⟨w.heap.size, bs.length, _, rfl, Nat.le_refl _, heap_alloc_new w _, Nat.le_refl _, by simpa [maxLen] using hm, by simp, ?_⟩⟩⟩
  rw [List.take_of_length_le (by simp)]

/-- One row more of bytes is appended. -/
theorem run_app {w : World} {B : Nat} {v : Value} {xs : List Nat} (h : Own w B v xs) {p : Option Addr} {m c : Nat} {bs : List Nat} (hr : RowIn w .u8 p m c bs) (hn : p = none → c = 0)
    (hmax : xs.length + m ≤ 140737488355328) (hB : B ≤ w.heap.size) (ty : TypeId) :
    ∃ v' w', (Builtin.append_ #[22, 22] ty #[v, .slice p m c]).run Try.prog w = .ok v' w' ∧ Own w' B v' (xs ++ bs) ∧ w.grownBy w' v.ownBlock := by
  obtain ⟨i, hi, hz, hs, hb⟩ := info_parts Try.info_u8
  have hl := hr.len
  cases p with
  | none =>
    obtain rfl := hn rfl
    have hc := hr.cap
    obtain rfl : m = 0 := by omega
    have hbs : bs = [] := List.eq_nil_of_length_eq_zero hl.symm
    refine ⟨v, w, run_append_owned_none (P := Try.prog) w B 22 ty 5 i 1 Try.underlying22 hi v xs.length _ h.owns, ?_, ⟨rfl, rfl, rfl, Nat.le_refl _, fun _ _ _ => rfl⟩⟩
    rw [hbs, List.append_nil]; exact h
  | some a =>
    have hmx : xs.length + m ≤ maxLen := by simp only [maxLen]; omega
    obtain ⟨v', w', h1, h2, h3, _⟩ := run_append_own (P := Try.prog) w B 22 ty 5 i (.int .u8 0) 1 1 Try.underlying22 hi hz hs hb (by rfl) (by decide) v xs.length _ h.owns a m c (bs.map fun (x : Nat) => Value.int .u8 (x : Int)) (by simp [hl])
      (fun j u hu => by
        rw [List.getElem?_map] at hu
        obtain ⟨x, hx, rfl⟩ := Option.map_eq_some_iff.1 hu
        have h0 : 0 < m := by have := (List.getElem?_eq_some_iff.1 hx).1; omega
        obtain ⟨b, off, e, h2, h3⟩ := (hr.row h0).pos h0
        cases e
        rw [add_plain]
        exact h3 j x hx)
      (fun u hu => by obtain ⟨x, _, rfl⟩ := List.mem_map.1 hu; rfl) hmx (by omega) hB
    refine ⟨v', w', h1, ⟨?_⟩, h3⟩
    rw [← List.map_append, hl, ← List.length_append] at h2
    exact h2

/-- .. in a walk. -/
theorem wpList_app {w : World} {ops : Array Oper} {rest : List Oper} {o : Oper} {a : Act} {Q : Exit → Act → World → Prop} (hgd : o.guard = none) (s x : Operand)
    (ho : o.op = .call { callee := .builtin .append, args := #[s, x], argTypes := #[22, 22] })
    {B : Nat} {v : Value} {xs : List Nat} (hs : a.eval s = v) (h : Own w B v xs) {p : Option Addr} {m c : Nat} {bs : List Nat} (hx : a.eval x = .slice p m c) (hr : RowIn w .u8 p m c bs) (hn : p = none → c = 0)
    (hmax : xs.length + m ≤ 140737488355328) (hB : B ≤ w.heap.size)
    (hk : ∀ v' w', Own w' B v' (xs ++ bs) → w.grownBy w' v.ownBlock → wpList Try.prog ops Q rest (a.put o.dst v') w') : wpList Try.prog ops Q (o :: rest) a w := by
  obtain ⟨v', w', h1, h2, h3⟩ := run_app h hr hn hmax hB o.type
  refine wpList_plain hgd fun K hK => ?_
  unfold Oper.wp
  simp [execOp, ho, resolve, invoke, builtin, hs, hx, h1, Result.andThen]
  exact hK _ _ (hk v' w' h2 h3)

/-- An empty slice of the call's own. -/
inductive Bare (lo : Nat) : Value → World → Prop where
  | of (g : Nat) (w : World) (h : w.heap[g]? = some (.cells #[] 5 (0, 0))) (hg : lo ≤ g) : Bare lo (.slice (some ⟨g, 0, none⟩) 0 0) w
theorem Bare.elim {lo : Nat} {v : Value} {w : World} (h : Bare lo v w) {C : Prop} (k : ∀ g, v = .slice (some ⟨g, 0, none⟩) 0 0 → w.heap[g]? = some (.cells #[] 5 (0, 0)) → lo ≤ g → C) : C := by
  cases h with
  | of g _ h hg => exact k g rfl h hg
theorem Bare.below {lo : Nat} {v : Value} {w w' : World} (h : Bare lo v w) (hb : Below w.heap.size w w') : Bare lo v w' := by
  cases h with
  | of g _ h hg => exact .of g w' (by rw [hb.block g (Array.getElem?_eq_some_iff.1 h).1]; exact h) hg
theorem Bare.made (w : World) {lo : Nat} (h : lo ≤ w.heap.size) : Bare lo (.slice (some ⟨w.heap.size, 0, none⟩) 0 0) (w.alloc (.cells #[] 5)) := .of _ _ (heap_alloc_new w _) h

/-- A slice of the call's own with these bytes. -/
inductive OwnIs (lo : Nat) (bs : List Nat) : Value → World → Prop where
  | of (p : Option Addr) (c : Nat) (w : World) (h : RowIn w .u8 p bs.length c bs) (hn : New lo p) (hz : p = none → c = 0) (hp : ∀ q, p = some q → q.block < w.heap.size) : OwnIs lo bs (.slice p bs.length c) w
theorem OwnIs.mk {w : World} {B : Nat} {v : Value} {bs : List Nat} (h : Own w B v bs) : OwnIs B bs v w := by
  obtain ⟨p, c, rfl, h1, h2, h3, h4⟩ := h.elim
  exact .of p c w h1 h2 h3 h4
theorem OwnIs.elim {lo : Nat} {bs : List Nat} {v : Value} {w : World} (h : OwnIs lo bs v w) {C : Prop} (k : ∀ p c, v = .slice p bs.length c → RowIn w .u8 p bs.length c bs → New lo p → (p = none → c = 0) → C) : C := by
  cases h with
  | of p c _ h hn hz hp => exact k p c rfl h hn hz
theorem OwnIs.below {lo : Nat} {bs : List Nat} {v : Value} {w w' : World} (h : OwnIs lo bs v w) (hb : Below w.heap.size w w') : OwnIs lo bs v w' := by
  cases h with
  | of p c _ h hn hz hp => exact .of p c w' (h.below hb) hn hz (fun q hq => Nat.lt_of_lt_of_le (hp q hq) hb.size)

theorem OwnIs.zero {lo : Nat} {bs : List Nat} {v : Value} {w : World} (h : OwnIs lo bs v w) : OwnIs 0 bs v w := by
  cases h with
  | of p c _ h hn hz hp => exact .of p c w h (fun _ _ => Nat.zero_le _) hz hp

theorem OwnIs.mono {lo lo' : Nat} {bs : List Nat} {v : Value} {w : World} (h : OwnIs lo bs v w) (hl : lo' ≤ lo) : OwnIs lo' bs v w := by
  cases h with
  | of p c _ h hn hz hp => exact .of p c w h (hn.mono hl) hz hp

/-- Bytes of the call's own are handed back. -/
def GivesOwn (bs : List Nat) (w : World) (e : Ending) (w' : World) : Prop := ∃ v, e = .returned v ∧ OwnIs w.heap.size bs v w' ∧ Below w.heap.size w w'

theorem Own.at {w : World} {B g c : Nat} {bs : List Nat} (h : Own w B (.slice (some ⟨g, 0, none⟩) bs.length c) bs) : g < w.heap.size := h.lt g rfl

/-- A few bytes laid for an append. -/
theorem lit_row (w : World) (bs : List Nat) (hm : bs.length ≤ 9223372036854775807) : RowIn (w.alloc (.cells (bs.map fun (x : Nat) => Value.int .u8 (x : Int)).toArray 5)) .u8 (some ⟨w.heap.size, 0, none⟩) bs.length bs.length bs := by
  have h := Blk.row (w := w.alloc (.cells (bs.map fun (x : Nat) => Value.int .u8 (x : Int)).toArray 5)) (g := w.heap.size) (e := 5) (k := .u8) (xs := bs) (heap_alloc_new w _) (n := bs.length) (c := bs.length) rfl (Nat.le_refl _) hm
  exact ⟨rfl, Nat.le_refl _, hm, fun _ => h⟩

end Go.Proofs.Ythpfpnialeoclaa
