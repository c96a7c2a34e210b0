/- Over numbers: a slab, and what is done with it. Of no program. -/
import Derived.Test.YtpodoleopebioaaGen
namespace Go.Proofs.Ytpodoleopebioaa
open Go Go.RowKit
set_option maxRecDepth 100000

/-- Burnt faces, and what sectors are inked with; how many strokes are left, and were made. -/
structure SM where
  n : Nat
  bur : Nat → List Nat
  ink : Nat → Option (List Nat)
  sup : Int
  made : Int

/-- A sector all of one byte. -/
def plainN (x : Nat) : List Nat := List.replicate 64 x
/-- With noughts behind them, or cut, to 64. -/
def fitN (b : List Nat) : List Nat := (b ++ List.replicate 64 0).take 64

theorem plainN_len (x : Nat) : (plainN x).length = 64 := by simp [plainN]
theorem plainN_8 {x : Nat} (h : x < 256) : Bytes8 (plainN x) := by
  intro y hy
  have := (List.mem_replicate.1 hy).2
  omega
theorem fitN_len (b : List Nat) : (fitN b).length = 64 := by simp [fitN]
theorem fitN_8 {b : List Nat} (h : Bytes8 b) : Bytes8 (fitN b) := by
  intro y hy
  rcases List.mem_append.1 (List.mem_of_mem_take hy) with h1 | h1
  · exact h y h1
  · have := (List.mem_replicate.1 h1).2; omega
theorem plainN_inj {x y : Nat} (h : plainN x = plainN y) : x = y := by
  have := congrArg (fun l => l.getD 0 0) h
  simpa [plainN] using this

namespace SM
set_option maxRecDepth 100000
def new (n : Nat) : SM := ⟨n, fun _ => plainN 0, fun _ => none, -1, 0⟩
def stroke (S : SM) : SM := { S with sup := if S.sup = -1 then -1 else S.sup - 1, made := wrap64 (S.made + 1) }
/-- The error of a sector. -/
def reach (S : SM) (k : Int) : Int := if S.sup = 0 then 12 else if k < 0 ∨ (S.n : Int) ≤ k then 2 else 0
def shown (S : SM) (k : Nat) : List Nat := (S.ink k).getD (S.bur k)
def inkAt (S : SM) (k : Nat) (b : List Nat) : SM := { S.stroke with ink := fun j => if j = k then some b else S.ink j }
/-- Ink: the error, and the slab behind it. -/
def put (S : SM) (k : Int) (b : List Nat) : Int × SM :=
  if S.reach k ≠ 0 then (S.reach k, S) else if b.length ≠ 64 then (3, S) else (0, S.inkAt k.toNat b)
def burn1 (S : SM) (k : Nat) : SM := { S.stroke with bur := fun j => if j = k then S.shown k else S.bur j, ink := fun j => if j = k then none else S.ink j }
def inked (S : SM) : List Nat := (List.range S.n).filter fun k => (S.ink k).isSome
def burnL : List Nat → SM → Int × SM
  | [], S => (0, S)
  | k :: ks, S => if S.sup = 0 then (12, S) else burnL ks (S.burn1 k)
def burn (S : SM) : Int × SM := if S.sup = 0 then (12, S) else burnL S.inked S
def supply (S : SM) (k : Int) : SM := if S.sup = 0 then S else { S with sup := max k (-1) }
/-- The last one's bytes. -/
def lastOf {α : Type} (l : List (Int × α)) (k : Int) : Option α := l.foldl (fun a s => if s.1 = k then some s.2 else a) none
def wakes (S : SM) (l : List (Int × List Nat)) (j : Nat) : List Nat :=
  match S.ink j, lastOf l j with
  | some _, some b => fitN b
  | _, _ => S.bur j
def wake (S : SM) (l : List (Int × List Nat)) : SM := { S with bur := S.wakes l, ink := fun _ => none, sup := -1 }

/-- What any slab is. -/
structure Ok (S : SM) : Prop where
  n4 : 4 ≤ S.n
  n4096 : S.n ≤ 4096
  bur : ∀ j, (S.bur j).length = 64 ∧ Bytes8 (S.bur j)
  ink : ∀ j x, S.ink j = some x → j < S.n ∧ x.length = 64 ∧ Bytes8 x
  sup : -1 ≤ S.sup ∧ S.sup ≤ 9223372036854775807
  made : -9223372036854775808 ≤ S.made ∧ S.made ≤ 9223372036854775807

theorem Ok.new {n : Nat} (h : 4 ≤ n) (h' : n ≤ 4096) : (SM.new n).Ok :=
  ⟨h, h', fun _ => ⟨plainN_len 0, plainN_8 (by omega)⟩, (fun _ _ e => by cases e), by show (-1 : Int) ≤ -1 ∧ (-1 : Int) ≤ 9223372036854775807; omega, by show (-9223372036854775808 : Int) ≤ 0 ∧ (0 : Int) ≤ 9223372036854775807; omega⟩
theorem wrap_in (z : Int) : -9223372036854775808 ≤ wrap64 z ∧ wrap64 z ≤ 9223372036854775807 := wf_i64 (wrap64_wf z)
theorem Ok.stroke {S : SM} (h : S.Ok) (_h0 : S.sup ≠ 0) : S.stroke.Ok := by
  refine ⟨h.n4, h.n4096, h.bur, h.ink, ?_, wrap_in _⟩
  have := h.sup
  show -1 ≤ (if S.sup = -1 then -1 else S.sup - 1) ∧ (if S.sup = -1 then -1 else S.sup - 1) ≤ 9223372036854775807
  split <;> omega
theorem Ok.shown {S : SM} (h : S.Ok) (k : Nat) : (S.shown k).length = 64 ∧ Bytes8 (S.shown k) := by
  unfold SM.shown
  cases e : S.ink k with
  | none => exact h.bur k
  | some x => exact (h.ink k x e).2
theorem Ok.inkAt {S : SM} (h : S.Ok) (h0 : S.sup ≠ 0) {k : Nat} (hk : k < S.n) {b : List Nat} (hb : b.length = 64) (h8 : Bytes8 b) : (S.inkAt k b).Ok := by
  have h1 := h.stroke h0
  refine ⟨h1.n4, h1.n4096, h1.bur, fun j x e => ?_, h1.sup, h1.made⟩
  have e' : (if j = k then some b else S.ink j) = some x := e
  split at e'
  · rename_i hj
    cases e'
    exact ⟨by show j < S.n; omega, hb, h8⟩
  · exact h.ink j x e'
theorem reach_zero {S : SM} {k : Int} (h : S.reach k = 0) : S.sup ≠ 0 ∧ 0 ≤ k ∧ k < S.n := by
  unfold SM.reach at h
  split at h
  · omega
  · split at h
    · omega
    · rename_i h1 h2; omega
theorem Ok.put {S : SM} (h : S.Ok) (k : Int) {b : List Nat} (h8 : Bytes8 b) : (S.put k b).2.Ok := by
  unfold SM.put
  split
  · exact h
  · rename_i h0
    split
    · exact h
    · rename_i hb
      have hr := reach_zero (S := S) (k := k) (by omega)
      exact h.inkAt hr.1 (by omega) (by omega) h8
theorem Ok.burn1 {S : SM} (h : S.Ok) (h0 : S.sup ≠ 0) (k : Nat) : (S.burn1 k).Ok := by
  have h1 := h.stroke h0
  refine ⟨h1.n4, h1.n4096, fun j => ?_, fun j x e => ?_, h1.sup, h1.made⟩
  · show (if j = k then S.shown k else S.bur j).length = 64 ∧ Bytes8 (if j = k then S.shown k else S.bur j)
    split
    · exact h.shown k
    · exact h.bur j
  · have e' : (if j = k then none else S.ink j) = some x := e
    split at e'
    · cases e'
    · exact h.ink j x e'
theorem Ok.burnL : ∀ (ks : List Nat) {S : SM}, S.Ok → (SM.burnL ks S).2.Ok
  | [], _, h => h
  | k :: ks, S, h => by
    unfold SM.burnL
    split
    · exact h
    · rename_i h0; exact Ok.burnL ks (h.burn1 h0 k)
theorem Ok.burn {S : SM} (h : S.Ok) : S.burn.2.Ok := by
  unfold SM.burn
  split
  · exact h
  · exact Ok.burnL _ h
theorem Ok.supply {S : SM} (h : S.Ok) {k : Int} (hk : k ≤ 9223372036854775807) : (S.supply k).Ok := by
  unfold SM.supply
  split
  · exact h
  · refine ⟨h.n4, h.n4096, h.bur, h.ink, ?_, h.made⟩
    show -1 ≤ max k (-1) ∧ max k (-1) ≤ 9223372036854775807
    omega
theorem lastOf_snoc {α : Type} (l : List (Int × α)) (s : Int × α) (k : Int) : lastOf (l ++ [s]) k = if s.1 = k then some s.2 else lastOf l k := by
  unfold lastOf; rw [List.foldl_append]; rfl
theorem lastOf_map {α β : Type} (f : α → β) (k : Int) (l : List (Int × α)) : lastOf (l.map fun s => (s.1, f s.2)) k = (lastOf l k).map f := by
  have gen : ∀ (l : List (Int × α)) (a : Option α), (l.map fun s => (s.1, f s.2)).foldl (fun a s => if s.1 = k then some s.2 else a) (a.map f) = (l.foldl (fun a s => if s.1 = k then some s.2 else a) a).map f := by
    intro l
    induction l with
    | nil => intro a; rfl
    | cons s l ih =>
      intro a
      simp only [List.map_cons, List.foldl_cons]
      rw [← ih]
      congr 1
      split <;> rfl
  exact gen l none
theorem lastOf_mem {α : Type} : ∀ (l : List (Int × α)) (k : Int) (b : α), lastOf l k = some b → ∃ s ∈ l, s.1 = k ∧ s.2 = b := by
  intro l k b
  have gen : ∀ (l : List (Int × α)) (a : Option α), l.foldl (fun a s => if s.1 = k then some s.2 else a) a = some b → a = some b ∨ ∃ s ∈ l, s.1 = k ∧ s.2 = b := by
    intro l
    induction l with
    | nil => intro a h; exact .inl h
    | cons s l ih =>
      intro a h
      rcases ih _ h with h1 | ⟨t, ht, h1⟩
      · replace h1 : (if s.1 = k then some s.2 else a) = some b := h1
        by_cases hs : s.1 = k
        · rw [if_pos hs] at h1
          exact .inr ⟨s, by simp, hs, by cases h1; rfl⟩
        · rw [if_neg hs] at h1; exact .inl h1
      · exact .inr ⟨t, by simp [ht], h1⟩
  intro h
  rcases gen l none h with h1 | h1
  · cases h1
  · exact h1
theorem Ok.wake {S : SM} (h : S.Ok) {l : List (Int × List Nat)} (hl : ∀ s ∈ l, Bytes8 s.2) : (S.wake l).Ok := by
  refine ⟨h.n4, h.n4096, fun j => ?_, (fun _ _ e => by cases e), by show (-1 : Int) ≤ -1 ∧ (-1 : Int) ≤ 9223372036854775807; omega, h.made⟩
  show (S.wakes l j).length = 64 ∧ Bytes8 (S.wakes l j)
  unfold SM.wakes
  split
  · rename_i b _ e
    obtain ⟨s, hs, _, rfl⟩ := lastOf_mem l j b e
    exact ⟨fitN_len _, fitN_8 (hl s hs)⟩
  · exact h.bur j

theorem mem_inked {S : SM} {k : Nat} : k ∈ S.inked ↔ k < S.n ∧ (S.ink k).isSome := by simp [inked]
theorem inked_nodup (S : SM) : S.inked.Nodup := List.Pairwise.filter _ (List.nodup_range)
theorem inked_le (S : SM) : S.inked.length ≤ S.n := by
  have := List.length_filter_le (fun k => (S.ink k).isSome) (List.range S.n)
  simpa [inked] using this
theorem inked_sorted (S : SM) : S.inked.Pairwise (· < ·) := List.Pairwise.filter _ (List.pairwise_lt_range)

/-- What burns of a supply that ends: the first ones, as many as there are strokes. -/
theorem burnL_err : ∀ (ks : List Nat) (S : SM), -1 ≤ S.sup → (burnL ks S).1 = if S.sup = -1 ∨ (ks.length : Int) ≤ S.sup then 0 else 12
  | [], S, h => by
    unfold burnL
    rw [if_pos]
    simp only [List.length_nil, Int.natCast_zero]; omega
  | k :: ks, S, h => by
    unfold burnL
    by_cases h0 : S.sup = 0
    · rw [if_pos h0, if_neg]
      simp only [List.length_cons, Int.natCast_succ]; omega
    · rw [if_neg h0, burnL_err ks (S.burn1 k) (by show -1 ≤ (if S.sup = -1 then -1 else S.sup - 1); split <;> omega)]
      have e : (S.burn1 k).sup = if S.sup = -1 then -1 else S.sup - 1 := rfl
      rw [e]
      by_cases h1 : S.sup = -1
      · simp [h1]
      · rw [if_neg h1]
        by_cases h2 : (ks.length : Int) ≤ S.sup - 1
        · rw [if_pos (.inr h2), if_pos (.inr (by simp only [List.length_cons, Int.natCast_succ]; omega))]
        · rw [if_neg (by omega), if_neg (by simp only [List.length_cons, Int.natCast_succ]; omega)]

/-- How many of so many burn. -/
def burns (S : SM) (m : Nat) : Nat := if S.sup = -1 then m else min m S.sup.toNat

theorem burnL_at : ∀ (ks : List Nat) (S : SM), ks.Nodup → -1 ≤ S.sup →
    (∀ j, (burnL ks S).2.bur j = if j ∈ ks.take (S.burns ks.length) then S.shown j else S.bur j) ∧
    (∀ j, (burnL ks S).2.ink j = if j ∈ ks.take (S.burns ks.length) then none else S.ink j) ∧
    (burnL ks S).2.n = S.n ∧ (burnL ks S).2.sup = (if S.sup = -1 then -1 else S.sup - S.burns ks.length)
  | [], S, _, h => by
    refine ⟨fun j => by simp [burnL], fun j => by simp [burnL], rfl, ?_⟩
    show S.sup = _
    unfold burns
    split <;> simp_all
  | k :: ks, S, hn, h => by
    obtain ⟨hk, hn'⟩ := List.nodup_cons.1 hn
    unfold burnL
    by_cases h0 : S.sup = 0
    · have hb : S.burns (k :: ks).length = 0 := by unfold burns; rw [if_neg (by omega), h0]; simp
      rw [if_pos h0, hb]
      refine ⟨fun j => by simp, fun j => by simp, rfl, ?_⟩
      rw [if_neg (by omega)]; simp
    · rw [if_neg h0]
      have e : (S.burn1 k).sup = if S.sup = -1 then -1 else S.sup - 1 := rfl
      obtain ⟨r1, r2, r3, r4⟩ := burnL_at ks (S.burn1 k) hn' (by rw [e]; split <;> omega)
      have hb : S.burns (k :: ks).length = (S.burn1 k).burns ks.length + 1 := by
        unfold burns
        rw [e]
        by_cases h1 : S.sup = -1
        · simp [h1]
        · rw [if_neg h1, if_neg h1, if_neg (by omega)]
          simp only [List.length_cons]; omega
      rw [hb]
      have ht : ∀ j, j ∈ (k :: ks).take ((S.burn1 k).burns ks.length + 1) ↔ j = k ∨ j ∈ ks.take ((S.burn1 k).burns ks.length) := fun j => by
        rw [List.take_succ_cons]; simp
      refine ⟨fun j => ?_, fun j => ?_, r3, ?_⟩
      · rw [r1 j]
        by_cases hj : j = k
        · subst hj
          rw [if_neg (fun hm => hk (List.mem_of_mem_take hm)), if_pos ((ht j).2 (.inl rfl))]
          show (if j = j then S.shown j else S.bur j) = _
          rw [if_pos rfl]
        · have hs : (S.burn1 k).shown j = S.shown j := by
            show ((if j = k then none else S.ink j)).getD (if j = k then S.shown k else S.bur j) = _
            rw [if_neg hj, if_neg hj]; rfl
          have hbj : (S.burn1 k).bur j = S.bur j := by show (if j = k then S.shown k else S.bur j) = _; rw [if_neg hj]
          rw [hs, hbj]
          by_cases hm : j ∈ ks.take ((S.burn1 k).burns ks.length)
          · rw [if_pos hm, if_pos ((ht j).2 (.inr hm))]
          · rw [if_neg hm, if_neg (fun h9 => ((ht j).1 h9).elim hj hm)]
      · rw [r2 j]
        by_cases hj : j = k
        · subst hj
          rw [if_neg (fun hm => hk (List.mem_of_mem_take hm)), if_pos ((ht j).2 (.inl rfl))]
          show (if j = j then none else S.ink j) = none
          rw [if_pos rfl]
        · have hij : (S.burn1 k).ink j = S.ink j := by show (if j = k then none else S.ink j) = _; rw [if_neg hj]
          rw [hij]
          by_cases hm : j ∈ ks.take ((S.burn1 k).burns ks.length)
          · rw [if_pos hm, if_pos ((ht j).2 (.inr hm))]
          · rw [if_neg hm, if_neg (fun h9 => ((ht j).1 h9).elim hj hm)]
      · rw [r4, e]
        by_cases h1 : S.sup = -1
        · simp [h1]
        · rw [if_neg h1, if_neg h1, if_neg (by omega)]
          omega
end SM

end Go.Proofs.Ytpodoleopebioaa
