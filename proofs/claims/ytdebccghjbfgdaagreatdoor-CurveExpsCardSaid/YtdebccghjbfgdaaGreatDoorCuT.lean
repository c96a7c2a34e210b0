/- How a region stands that makes two numbers and two boxes for them. -/
import Derived.Test.YtdebccghjbfgdaaGreatDoorCurP
import Derived.Test.YtdebccghjbfgdaaGreatDoorCuN
import Derived.Test.YtdebccghjbfgdaaGreatDoorGqB
/-! Rows of the call's own all of whose cells are slices: they grow, and no number is harmed. -/
namespace Go.Proofs.YtdebccghjbfgdaaGreatDoor
open Go Go.RowKit Go.Proofs.YtdebccghjbfgdaaGreatDoor.Flow
set_option maxRecDepth 100000

/-- A row of the call's own: its first cells are these, and all are slices. -/
structure RowS (w : World) (B : Nat) (v : Value) (us : List (Option Addr × Nat × Nat)) : Prop where
  ex : (v = .slice none 0 0 ∧ us = []) ∨ ∃ (g cap : Nat) (rest : List (Option Addr × Nat × Nat)), v = .slice (some ⟨g, 0, none⟩) us.length cap ∧ B ≤ g ∧ XRow w g us (rest.map sv) ∧ us.length + rest.length = cap ∧ cap ≤ 9223372036854775807
theorem RowS.nil (w : World) (B : Nat) : RowS w B (.slice none 0 0) [] := ⟨.inl ⟨rfl, rfl⟩⟩
theorem RowS.own {w : World} {B g : Nat} {v : Value} {us : List (Option Addr × Nat × Nat)} (h : RowS w B v us) (hg : v.ownBlock = some g) : B ≤ g ∧ g < w.heap.size := by
  rcases h.ex with ⟨rfl, _⟩ | ⟨g', cap, rest, rfl, h1, h2, _⟩
  · cases hg
  · obtain rfl : g' = g := by simpa [Value.ownBlock] using hg
    exact ⟨h1, h2.lt⟩
theorem RowS.keep {w w' : World} {B : Nat} {v : Value} {us : List (Option Addr × Nat × Nat)} (h : RowS w B v us) (hk : ∀ g, v.ownBlock = some g → w'.heap[g]? = w.heap[g]?) : RowS w' B v us := by
  rcases h.ex with h1 | ⟨g, cap, rest, rfl, h1, h2, h3⟩
  · exact ⟨.inl h1⟩
  · exact ⟨.inr ⟨g, cap, rest, rfl, h1, by unfold XRow at *; rw [hk g rfl]; exact h2, h3⟩⟩
theorem RowS.below {w w' : World} {B : Nat} {v : Value} {us : List (Option Addr × Nat × Nat)} (h : RowS w B v us) (hb : Below w.heap.size w w') : RowS w' B v us := h.keep fun g hg => hb.block g (h.own hg).2
theorem RowS.slice {w : World} {B : Nat} {v : Value} {us : List (Option Addr × Nat × Nat)} (h : RowS w B v us) : ∃ p c, v = .slice p us.length c := by
  rcases h.ex with ⟨rfl, rfl⟩ | ⟨g, cap, rest, rfl, _⟩
  · exact ⟨_, _, rfl⟩
  · exact ⟨_, _, rfl⟩
theorem XRow.all {w : World} {g j : Nat} {us rest : List (Option Addr × Nat × Nat)} {u : Value} (h : XRow w g us (rest.map sv)) (hc : w.cell? ⟨g, j, none⟩ = some u) : ∃ x : Option Addr × Nat × Nat, u = sv x := by
  unfold XRow at h
  rw [← List.map_append] at h
  simp only [World.cell?, h, List.getElem?_toArray, List.getElem?_map] at hc
  cases hx : (us ++ rest)[j]? with
  | none => rw [hx] at hc; simp at hc
  | some x => rw [hx] at hc; simp at hc; exact ⟨x, hc.symm⟩
/-- A number does not lie in such a row. -/
theorem XRow.apart {w : World} {p : Option Addr} {n c N g : Nat} {us rest : List (Option Addr × Nat × Nat)} (hr : XRow w g us (rest.map sv)) (h : NatAt w p n c N) (h0 : 0 < n) : ∀ q, p = some q → q.block ≠ g := by
  obtain ⟨ws, r1, r2, r3, r4⟩ := h.ex
  intro a ha hab
  obtain ⟨b', off, k1, k2, k3⟩ := r1.pos h0
  rw [k1] at ha; cases ha
  have hbb : b' = g := hab
  subst hbb
  have h1 := k3 0 (ws.getD 0 0) (by rw [List.getD_eq_getElem?_getD]; simp [show 0 < ws.length by rw [← r1.len]; exact h0])
  rw [Nat.add_zero] at h1
  obtain ⟨x, hx⟩ := hr.all h1
  unfold sv at hx
  cases hx
/-- Numbers stay where all but one such row stays. -/
theorem nat_grown {w w' : World} {p : Option Addr} {n c N : Nat} {v : Value} {us : List (Option Addr × Nat × Nat)} {B : Nat} (hr : RowS w B v us) (hg : w.grownBy w' v.ownBlock) (h : NatAt w p n c N) : NatAt w' p n c N := by
  rcases Nat.eq_zero_or_pos n with rfl | h0
  · obtain ⟨ws, r1, r2, r3, r4⟩ := h.ex
    refine ⟨ws, ⟨r1.len, r1.cap, r1.max, ?_⟩, r2, r3, r4⟩
    rcases r1.at_ with k | ⟨b, off, k1, k2, k3⟩
    · exact .inl k
    · refine .inr ⟨b, off, k1, Nat.lt_of_lt_of_le k2 hg.size, fun i x hx => ?_⟩
      have : ws = [] := List.eq_nil_of_length_eq_zero r1.len.symm
      rw [this] at hx; cases hx
  · refine natStands.stay h hg.size fun q hq o => World.cell?_of_block (a := ⟨q.block, o, none⟩) (hg.block q.block (natStands.lt h q hq) fun e => ?_)
    rcases hr.ex with ⟨rfl, _⟩ | ⟨g, cap, rest, rfl, _, h2, _⟩
    · cases e
    · have e2 : q.block = g := by simpa [Value.ownBlock] using e
      exact h2.apart h h0 q hq e2
theorem zeroCells_slices (n : Nat) : Builtin.zeroCells (Value.agg #[.slice none 0 0]).cells n = ((List.replicate n ((none, 0, 0) : Option Addr × Nat × Nat)).map sv).toArray := by
  have : (Value.agg #[.slice none 0 0]).cells = #[.slice none 0 0] := by simp [Value.cells]
  rw [this]
  unfold Builtin.zeroCells
  rw [List.map_replicate]
  apply Array.ext'
  have h1 : (fun i : Nat => ([Value.slice none 0 0] : List Value)[i % 1]?.getD default) = fun _ => Value.slice none 0 0 := by funext i; simp [Nat.mod_one]
  simp [sv]
  rw [h1]
  rw [List.map_const', List.length_range]

/-- append one number: the grown row, and what stays. -/
theorem RowS.app {w : World} {B : Nat} {v : Value} {us : List (Option Addr × Nat × Nat)} (h : RowS w B v us) {a : Addr} {c : Nat} {x : Option Addr × Nat × Nat} (hc : w.cell? a = some (sv x)) (hB : B ≤ w.heap.size) (hl : us.length ≤ 100000) (ty : TypeId) :
    ∃ v' w', (Builtin.append_ #[32, 32] ty #[v, .slice (some a) 1 c]).run Tryz.prog w = .ok v' w' ∧ RowS w' B v' (us ++ [x]) ∧ w.grownBy w' v.ownBlock ∧ MovedV w v v' := by
  obtain ⟨i, hi, hz, hs, hb⟩ := info_parts Tryz.info_Nat
  have hu := Tryz.underlying32
  have ha0 : a.add 0 = a := by obtain ⟨b, o, s⟩ := a; simp [Addr.add]
  have hnew : ∀ j u, ([sv x] : List Value)[j]? = some u → w.cell? (a.add j) = some u := fun j u hj => by
    cases j with
    | zero => simp at hj; subst hj; rw [ha0]; exact hc
    | succ j => simp at hj
  have hby : i.bytes ≤ 1000 := by rw [hb]; decide
  have hzc : ∀ n, Builtin.zeroCells (Value.agg #[Value.slice none 0 0]).cells n = ((List.replicate n ((none, 0, 0) : Option Addr × Nat × Nat)).map sv).toArray := zeroCells_slices
  rcases h.ex with ⟨rfl, rfl⟩ | ⟨g, cap, rest, rfl, hbg, hx, hcap, hmx⟩
  · have hr := run_append_nil (P := Tryz.prog) (w := w) 32 ty 36 i _ hu hi hz a 1 c [sv x] (by rw [hs]; rfl) hnew (by decide) (by decide) (by omega)
    rw [hzc] at hr
    refine ⟨_, _, hr, ⟨.inr ⟨w.heap.size, grownCap w 1 0 36, List.replicate (grownCap w 1 0 36 - 1) (none, 0, 0), rfl, hB, ?_, ?_, ?_⟩⟩, ⟨rfl, rfl, rfl, by simp, fun k hk _ => ((Below.refl w.heap.size w).drew.alloc (Nat.le_refl _) _).block k hk⟩, .inr fun g hg => ?_⟩
    · unfold XRow
      rw [show (w.drew.alloc (.cells ([sv x].toArray ++ ((List.replicate (grownCap w 1 0 36 - 1) ((none, 0, 0) : Option Addr × Nat × Nat)).map sv).toArray) 36)).heap[w.heap.size]? = some (.cells ([sv x].toArray ++ ((List.replicate (grownCap w 1 0 36 - 1) ((none, 0, 0) : Option Addr × Nat × Nat)).map sv).toArray) 36 (0, 0)) from heap_alloc_new w.drew _]
      simp
    · have := grownCap_ge w 1 0 36
      simp; omega
    · have := grownCap_le_maxLen w 1 0 36 (by decide)
      simpa [maxLen] using this
    · have : w.heap.size = g := by simpa [Value.ownBlock] using hg
      omega
  · have hxb := hx
    unfold XRow at hxb
    cases rest with
    | nil =>
      have hcn : cap = us.length := by simpa using hcap.symm
      subst hcn
      have hgg : us.length < us.length + 1 := by omega
      have hr := run_append_grow (P := Tryz.prog) (w := w) 32 ty 36 i _ hu hi hz ⟨g, 0, none⟩ us.length us.length (us.map sv) (by rw [hs]; simp) (fun j u hj => by
          rw [List.getElem?_map] at hj
          cases hy : us[j]? with
          | none => rw [hy] at hj; cases hj
          | some y =>
            rw [hy] at hj; cases hj
            have := hx.cell hy
            rw [add_plain g 0 j, Nat.zero_add]
            exact this) a 1 c [sv x] (by rw [hs]; rfl) hnew hgg (by omega) (growslice_fits hgg (Nat.le_trans (Nat.mul_le_mul (by omega : us.length + 1 ≤ 100001) hby) (by decide)))
      rw [hzc] at hr
      obtain ⟨C, hC⟩ : ∃ C, grownCap w (us.length + 1) us.length 36 = C := ⟨_, rfl⟩
      have h1 := grownCap_ge w (us.length + 1) us.length 36
      have h2 := grownCap_le_maxLen w (us.length + 1) us.length 36 (by simp [maxLen]; omega)
      rw [hC] at hr h1 h2
      refine ⟨_, _, hr, ⟨.inr ⟨w.heap.size, C, List.replicate (C - (us.length + 1)) (none, 0, 0), by rw [List.length_append]; rfl, hB, ?_, ?_, by simpa [maxLen] using h2⟩⟩, ⟨rfl, rfl, rfl, by simp, fun k hk _ => ((Below.refl w.heap.size w).drew.alloc (Nat.le_refl _) _).block k hk⟩, .inr fun g' hg' => ?_⟩
      · unfold XRow
        rw [show (w.drew.alloc (.cells ((us.map sv).toArray ++ [sv x].toArray ++ ((List.replicate (C - (us.length + 1)) ((none, 0, 0) : Option Addr × Nat × Nat)).map sv).toArray) 36)).heap[w.heap.size]? = some (.cells ((us.map sv).toArray ++ [sv x].toArray ++ ((List.replicate (C - (us.length + 1)) ((none, 0, 0) : Option Addr × Nat × Nat)).map sv).toArray) 36 (0, 0)) from heap_alloc_new w.drew _]
        simp
      · simp; omega
      · have : w.heap.size = g' := by simpa [Value.ownBlock] using hg'
        omega
    | cons r0 rest =>
      have hr := run_append_room (P := Tryz.prog) (w := w) 32 ty 36 i hu hi g us.length cap _ hxb a 1 c [sv x] (by rw [hs]; rfl) hnew (fun u hu' => by simp at hu'; subst hu'; rfl) (by simp at hcap; omega) (by simp [hs])
      refine ⟨_, _, hr, ⟨.inr ⟨g, cap, rest, by rw [List.length_append]; rfl, hbg, ?_, by simp at hcap ⊢; omega, hmx⟩⟩, ⟨rfl, rfl, rfl, by simp, fun k hk hn => setRow_other w g k _ (fun e => hn (by rw [e]; rfl))⟩, .inl rfl⟩
      unfold XRow
      rw [setRow_heap w g _ _ _ _ hxb]
      have h9 : (us.map sv ++ sv r0 :: rest.map sv).drop (us.length + 1) = rest.map sv := by
        rw [show us.map sv ++ sv r0 :: rest.map sv = (us.map sv ++ [sv r0]) ++ rest.map sv by simp]
        exact List.drop_left' (by simp)
      simp [hs, h9]

/-- A row of numbers. -/
theorem RowS.plist {w : World} {B e : Nat} {v : Value} {us : List (Option Addr × Nat × Nat)} {Ns : List Nat} (h : RowS w B v us) (ht : Trip w e us Ns) : ∃ p c, v = .slice p Ns.length c ∧ PList w e p Ns.length c Ns := by
  rcases h.ex with ⟨rfl, rfl⟩ | ⟨g, cap, rest, rfl, h1, h2, h3, h4⟩
  · have : Ns = [] := List.eq_nil_of_length_eq_zero ht.len.symm
    subst this
    exact ⟨_, _, rfl, ⟨rfl, Nat.le_refl _, by omega, fun _ => rfl, fun h0 => by simp at h0⟩⟩
  · have hl := ht.len
    refine ⟨some ⟨g, 0, none⟩, cap, by rw [hl], ⟨rfl, by omega, h4, (fun e => by cases e), fun _ => ⟨g, 0, rfl, h2.lt, fun i N hN => ?_⟩⟩⟩
    obtain ⟨x, k1, k2, k3⟩ := ht.at_ i N hN
    exact ⟨x.1, x.2.1, x.2.2, by rw [Nat.zero_add]; exact h2.cell k1, k2, k3⟩
theorem Trip.grown {w w' : World} {e B : Nat} {v : Value} {us us2 : List (Option Addr × Nat × Nat)} {Ns : List Nat} (h : Trip w e us Ns) (hr : RowS w B v us2) (hg : w.grownBy w' v.ownBlock) : Trip w' e us Ns :=
  ⟨h.len, fun i N hN => let ⟨x, h1, h2, h3⟩ := h.at_ i N hN; ⟨x, h1, nat_grown hr hg h2, h3⟩⟩
theorem Trip.snoc {w : World} {e N : Nat} {us : List (Option Addr × Nat × Nat)} {Ns : List Nat} {x : Option Addr × Nat × Nat} (h : Trip w e us Ns) (hx : At3 w x N) (hl : N < B32 e) : Trip w e (us ++ [x]) (Ns ++ [N]) := by
  refine ⟨by simp [h.len], fun i M hM => ?_⟩
  rcases Nat.lt_or_ge i Ns.length with hi | hi
  · rw [List.getElem?_append_left hi] at hM
    obtain ⟨y, h1, h2⟩ := h.at_ i M hM
    exact ⟨y, by rw [List.getElem?_append_left (by rw [h.len]; exact hi)]; exact h1, h2⟩
  · rw [List.getElem?_append_right hi] at hM
    obtain ⟨t, ht⟩ : ∃ t, i - Ns.length = t := ⟨_, rfl⟩
    rw [ht] at hM
    cases t with
    | zero =>
      simp at hM
      subst hM
      exact ⟨x, by rw [List.getElem?_append_right (by rw [h.len]; exact hi), h.len, ht]; rfl, hx, hl⟩
    | succ t => simp at hM
theorem Trip.nil (w : World) (e : Nat) : Trip w e [] [] := ⟨rfl, fun i N hN => by simp at hN⟩
end Go.Proofs.YtdebccghjbfgdaaGreatDoor

/-! How a region stands that lets a row of numbers grow by a power it makes. -/
namespace Go.Proofs.YtdebccghjbfgdaaGreatDoor
open Go Go.RowKit Go.Proofs.YtdebccghjbfgdaaGreatDoor.Flow
set_option maxRecDepth 100000

/-- Call, call, lay a row of one, append, assign: what is there, by the flags of what is done. -/
structure AG (W : World) (B : Nat) (v : Value) (us : List (Option Addr × Nat × Nat)) (N G : Nat) (d3 d5 d6 d7 d8 : Bool) (v3 v5 v6 v7 v8 : Value) (w : World) : Prop where
  pre : d7 = false → Below W.heap.size W w
  p3 : d7 = false → d3 = true → Fit 33 G v3 w
  p5 : d7 = false → d5 = true → Fit 33 N v5 w
  p6 : d6 = true → d7 = false → ∃ (g : Nat) (x : Option Addr × Nat × Nat), v6 = .slice (some ⟨g, 0, none⟩) 1 1 ∧ w.cell? ⟨g, 0, none⟩ = some (sv x) ∧ At3 w x N ∧ N < B32 33
  fin : d7 = true → ∃ (w1 : World) (x : Option Addr × Nat × Nat), Below W.heap.size W w1 ∧ w1.grownBy w v.ownBlock ∧ RowS w B v7 (us ++ [x]) ∧ At3 w x N ∧ N < B32 33 ∧ MovedV w1 v v7
  same : d8 = true → d7 = true ∧ v8 = v7
  o5 : d5 = true → d3 = true
  o6 : d6 = true → d5 = true
  o7 : d7 = true → d6 = true
section
variable {W : World} {B : Nat} {v : Value} {us : List (Option Addr × Nat × Nat)} {N G : Nat} {d3 d5 d6 d7 d8 : Bool} {v3 v5 v6 v7 v8 : Value} {w : World}
theorem AG.start : AG W B v us N G false false false false false v3 v5 v6 v7 v8 W.drew :=
  ⟨fun _ => (Below.refl _ _).drew, (fun _ e => by cases e), (fun _ e => by cases e), (fun e => by cases e), (fun e => by cases e), (fun e => by cases e), (fun e => by cases e), (fun e => by cases e), fun e => by cases e⟩
theorem AG.later {w' : World} (h : AG W B v us N G d3 d5 d6 false d8 v3 v5 v6 v7 v8 w) (hb : Below w.heap.size w w') : AG W B v us N G d3 d5 d6 false d8 v3 v5 v6 v7 v8 w' :=
  ⟨fun e => bstep (h.pre e) hb, fun e k => (h.p3 e k).below hb, fun e k => (h.p5 e k).below hb, fun k e => by
    obtain ⟨g, x, h1, h2, h3, h4⟩ := h.p6 k e
    have hg : g < w.heap.size := by
      unfold World.cell? at h2
      rcases Nat.lt_or_ge g w.heap.size with k | k
      · exact k
      · simp [Array.getElem?_eq_none k] at h2
    exact ⟨g, x, h1, (hb.cell (p := ⟨g, 0, none⟩) hg).trans h2, h3.below hb, h4⟩, (fun e => by cases e), (fun e => by have := (h.same e).1; cases this), h.o5, h.o6, fun e => by cases e⟩
theorem AG.n6 (h : AG W B v us N G d3 d5 false d7 d8 v3 v5 v6 v7 v8 w) : d7 = false := by
  cases d7 with
  | false => rfl
  | true => have := h.o7 rfl; cases this
theorem AG.n5 (h : AG W B v us N G d3 false d6 d7 d8 v3 v5 v6 v7 v8 w) : d7 = false := by
  cases d6 with
  | false => exact h.n6
  | true => have := h.o6 rfl; cases this
theorem AG.n3 (h : AG W B v us N G false d5 d6 d7 d8 v3 v5 v6 v7 v8 w) : d7 = false := by
  cases d5 with
  | false => exact h.n5
  | true => have := h.o5 rfl; cases this
theorem AG.put3 (h : AG W B v us N G d3 d5 d6 false d8 v3 v5 v6 v7 v8 w) {u : Value} (hu : Fit 33 G u w) : AG W B v us N G true d5 d6 false d8 u v5 v6 v7 v8 w :=
  ⟨h.pre, fun _ _ => hu, h.p5, h.p6, h.fin, h.same, fun _ => rfl, h.o6, h.o7⟩
theorem AG.put5 (h : AG W B v us N G true d5 d6 false d8 v3 v5 v6 v7 v8 w) {u : Value} (hu : Fit 33 N u w) : AG W B v us N G true true d6 false d8 v3 u v6 v7 v8 w :=
  ⟨h.pre, h.p3, fun _ _ => hu, h.p6, h.fin, h.same, fun _ => rfl, fun _ => rfl, h.o7⟩
theorem AG.put6 (h : AG W B v us N G d3 true d6 false d8 v3 v5 v6 v7 v8 w) {g : Nat} {x : Option Addr × Nat × Nat} (hc : w.cell? ⟨g, 0, none⟩ = some (.slice x.1 x.2.1 x.2.2)) (hx : At3 w x N) (hl : N < B32 33) : AG W B v us N G d3 true true false d8 v3 v5 (.slice (some ⟨g, 0, none⟩) 1 1) v7 v8 w :=
  ⟨h.pre, h.p3, h.p5, fun _ _ => ⟨g, x, rfl, hc, hx, hl⟩, h.fin, h.same, h.o5, fun _ => rfl, fun _ => rfl⟩
theorem AG.put7 (h : AG W B v us N G d3 d5 true false d8 v3 v5 v6 v7 v8 w) (hr : RowS W B v us) (hB : B ≤ W.heap.size) (hl : us.length ≤ 100000) (ty : TypeId) :
    ∃ g v' w', v6 = .slice (some ⟨g, 0, none⟩) 1 1 ∧ (Builtin.append_ #[32, 32] ty #[v, .slice (some ⟨g, 0, none⟩) 1 1]).run Tryz.prog w = .ok v' w' ∧ AG W B v us N G d3 d5 true true d8 v3 v5 v6 v' v8 w' := by
  have hb := h.pre rfl
  obtain ⟨g, x, h1, h2, h3, h4⟩ := h.p6 rfl rfl
  have hr1 := hr.below hb
  obtain ⟨v', w', k1, k2, k3, k4⟩ := hr1.app (c := 1) h2 (Nat.le_trans hB hb.size) hl ty
  exact ⟨g, v', w', h1, k1, (fun e => by cases e), (fun e => by cases e), (fun e => by cases e), (fun _ e => by cases e), fun _ => ⟨w, x, hb, k3, k2, nat_grown hr1 k3 h3, h4, k4⟩, (fun e => by have := (h.same e).1; cases this), h.o5, h.o6, fun _ => rfl⟩
theorem AG.put8 (h : AG W B v us N G d3 d5 d6 true false v3 v5 v6 v7 v8 w) : AG W B v us N G d3 d5 d6 true true v3 v5 v6 v7 v7 w :=
  ⟨h.pre, h.p3, h.p5, h.p6, h.fin, (fun _ => ⟨rfl, rfl⟩), h.o5, h.o6, h.o7⟩
end

end Go.Proofs.YtdebccghjbfgdaaGreatDoor

namespace Go.Proofs.YtdebccghjbfgdaaGreatDoor
open Go Go.RowKit Go.Proofs.YtdebccghjbfgdaaGreatDoor.Flow
set_option maxRecDepth 100000

/-- Two calls, two boxes, two stores: what is there, by the flags of what is done. -/
structure TB (W : World) (N1 N2 : Nat) (d3 d7 d8 d9 d10 d11 : Bool) (v3 v7 v8 v9 : Value) (w : World) : Prop where
  bel : Below W.heap.size W w
  p3 : d3 = true → Fit 33 N1 v3 w
  p7 : d7 = true → Fit 33 N2 v7 w
  b8 : d8 = true → ∃ b, v8 = .pointer (some ⟨b, 0, none⟩) ∧ W.heap.size ≤ b ∧ StB d10 b N1 w ∧ (d9 = true → v9 ≠ v8)
  b9 : d9 = true → ∃ b, v9 = .pointer (some ⟨b, 0, none⟩) ∧ W.heap.size ≤ b ∧ StB d11 b N2 w ∧ (d8 = true → v8 ≠ v9)
  o10 : d10 = true → d8 = true
  o11 : d11 = true → d9 = true
section
variable {W : World} {N1 N2 : Nat} {d3 d7 d8 d9 d10 d11 : Bool} {v3 v7 v8 v9 : Value} {w : World}
theorem TB.start : TB W N1 N2 false false false false false false v3 v7 v8 v9 W.drew :=
  ⟨(Below.refl _ _).drew, (fun e => by cases e), (fun e => by cases e), (fun e => by cases e), (fun e => by cases e), (fun e => by cases e), fun e => by cases e⟩
theorem TB.later {w' : World} (h : TB W N1 N2 d3 d7 d8 d9 d10 d11 v3 v7 v8 v9 w) (hb : Below w.heap.size w w') : TB W N1 N2 d3 d7 d8 d9 d10 d11 v3 v7 v8 v9 w' :=
  ⟨bstep h.bel hb, fun e => (h.p3 e).below hb, fun e => (h.p7 e).below hb, fun e => let ⟨b, h1, h2, h3, h4⟩ := h.b8 e; ⟨b, h1, h2, h3.later hb, h4⟩, fun e => let ⟨b, h1, h2, h3, h4⟩ := h.b9 e; ⟨b, h1, h2, h3.later hb, h4⟩, h.o10, h.o11⟩
theorem TB.put3 (h : TB W N1 N2 d3 d7 d8 d9 d10 d11 v3 v7 v8 v9 w) {u : Value} (hu : Fit 33 N1 u w) : TB W N1 N2 true d7 d8 d9 d10 d11 u v7 v8 v9 w := ⟨h.bel, fun _ => hu, h.p7, h.b8, h.b9, h.o10, h.o11⟩
theorem TB.put7 (h : TB W N1 N2 d3 d7 d8 d9 d10 d11 v3 v7 v8 v9 w) {u : Value} (hu : Fit 33 N2 u w) : TB W N1 N2 d3 true d8 d9 d10 d11 v3 u v8 v9 w := ⟨h.bel, h.p3, fun _ => hu, h.b8, h.b9, h.o10, h.o11⟩
theorem TB.lt8 (h : TB W N1 N2 d3 d7 true d9 d10 d11 v3 v7 v8 v9 w) : v8 ≠ .pointer (some ⟨w.heap.size, 0, none⟩) := by
  obtain ⟨b, h1, h2, ⟨p, n, c, h3, _⟩, h4⟩ := h.b8 rfl
  have := h3.lt
  rw [h1]
  intro e
  simp only [Value.pointer.injEq, Option.some.injEq, Addr.mk.injEq, and_true] at e
  omega
theorem TB.lt9 (h : TB W N1 N2 d3 d7 d8 true d10 d11 v3 v7 v8 v9 w) : v9 ≠ .pointer (some ⟨w.heap.size, 0, none⟩) := by
  obtain ⟨b, h1, h2, ⟨p, n, c, h3, _⟩, h4⟩ := h.b9 rfl
  have := h3.lt
  rw [h1]
  intro e
  simp only [Value.pointer.injEq, Option.some.injEq, Addr.mk.injEq, and_true] at e
  omega
theorem TB.no10 (h : TB W N1 N2 d3 d7 false d9 d10 d11 v3 v7 v8 v9 w) : d10 = false := by
  cases d10 with
  | false => rfl
  | true => have := h.o10 rfl; cases this
theorem TB.no11 (h : TB W N1 N2 d3 d7 d8 false d10 d11 v3 v7 v8 v9 w) : d11 = false := by
  cases d11 with
  | false => rfl
  | true => have := h.o11 rfl; cases this
theorem TB.put8 (h : TB W N1 N2 d3 d7 false d9 false d11 v3 v7 v8 v9 w) : TB W N1 N2 d3 d7 true d9 false d11 v3 v7 (.pointer (some ⟨w.heap.size, 0, none⟩)) v9 (w.alloc (.cells #[.slice none 0 0] 36)) := by
  have hb : Below w.heap.size w (w.alloc (.cells #[.slice none 0 0] 36)) := (Below.refl _ _).alloc (Nat.le_refl _) _
  have hk := h.later hb
  refine ⟨hk.bel, hk.p3, hk.p7, fun _ => ⟨w.heap.size, rfl, h.bel.size, StB.fresh (NatBox.made _ _), fun e => by subst e; exact h.lt9⟩, fun e => ?_, (fun e => by cases e), h.o11⟩
  obtain ⟨b, h1, h2, h3, h4⟩ := hk.b9 e
  exact ⟨b, h1, h2, h3, fun _ => by subst e; exact fun k => h.lt9 k.symm⟩
theorem TB.put9 (h : TB W N1 N2 d3 d7 d8 false d10 false v3 v7 v8 v9 w) : TB W N1 N2 d3 d7 d8 true d10 false v3 v7 v8 (.pointer (some ⟨w.heap.size, 0, none⟩)) (w.alloc (.cells #[.slice none 0 0] 36)) := by
  have hb : Below w.heap.size w (w.alloc (.cells #[.slice none 0 0] 36)) := (Below.refl _ _).alloc (Nat.le_refl _) _
  have hk := h.later hb
  refine ⟨hk.bel, hk.p3, hk.p7, fun e => ?_, fun _ => ⟨w.heap.size, rfl, h.bel.size, StB.fresh (NatBox.made _ _), fun e => by subst e; exact h.lt8⟩, h.o10, fun e => by cases e⟩
  obtain ⟨b, h1, h2, h3, h4⟩ := hk.b8 e
  exact ⟨b, h1, h2, h3, fun _ => by subst e; exact fun k => h.lt8 k.symm⟩
theorem TB.put10 (h : TB W N1 N2 true d7 true d9 false d11 v3 v7 v8 v9 w) : ∃ (b m d : Nat) (q p : Option Addr) (n c : Nat), v8 = .pointer (some ⟨b, 0, none⟩) ∧ v3 = .agg #[.slice p n c] ∧ NatBox w b (.slice q m d) ∧ TB W N1 N2 true d7 true d9 true d11 v3 v7 v8 v9 (w.setCell ⟨b, 0, none⟩ (.slice p n c)) := by
  obtain ⟨b, h1, h2, h3, h4⟩ := h.b8 rfl
  obtain ⟨p, n, c, e3, k1, k2⟩ := h.p3 rfl
  obtain ⟨q, m, d, k3, k4⟩ := h3.put k1
  refine ⟨b, m, d, q, p, n, c, h1, e3, k3, h.bel.setCell h2 _, fun _ => (show Fit 33 N1 v3 w from ⟨p, n, c, e3, k1, k2⟩).keep (Keep.store k3 h2 _), fun e => (h.p7 e).keep (Keep.store k3 h2 _), fun _ => ⟨b, h1, h2, k4, h4⟩, fun e => ?_, fun _ => rfl, h.o11⟩
  obtain ⟨b', g1, g2, g3, g4⟩ := h.b9 e
  exact ⟨b', g1, g2, g3.other k3 (fun x => g4 rfl (by rw [h1, g1, x])) _, g4⟩
theorem TB.put11 (h : TB W N1 N2 d3 true d8 true d10 false v3 v7 v8 v9 w) : ∃ (b m d : Nat) (q p : Option Addr) (n c : Nat), v9 = .pointer (some ⟨b, 0, none⟩) ∧ v7 = .agg #[.slice p n c] ∧ NatBox w b (.slice q m d) ∧ TB W N1 N2 d3 true d8 true d10 true v3 v7 v8 v9 (w.setCell ⟨b, 0, none⟩ (.slice p n c)) := by
  obtain ⟨b, h1, h2, h3, h4⟩ := h.b9 rfl
  obtain ⟨p, n, c, e3, k1, k2⟩ := h.p7 rfl
  obtain ⟨q, m, d, k3, k4⟩ := h3.put k1
  refine ⟨b, m, d, q, p, n, c, h1, e3, k3, h.bel.setCell h2 _, fun e => (h.p3 e).keep (Keep.store k3 h2 _), fun _ => (show Fit 33 N2 v7 w from ⟨p, n, c, e3, k1, k2⟩).keep (Keep.store k3 h2 _), fun e => ?_, fun _ => ⟨b, h1, h2, k4, h4⟩, h.o10, fun _ => rfl⟩
  obtain ⟨b', g1, g2, g3, g4⟩ := h.b8 e
  exact ⟨b', g1, g2, g3.other k3 (fun x => g4 rfl (by rw [h1, g1, x])) _, g4⟩
end

end Go.Proofs.YtdebccghjbfgdaaGreatDoor
