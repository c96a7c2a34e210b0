/- The insertion sort of slices.SortFunc, over numbers. -/
import Derived.Test.YtblaplcknhpjnaaGreatDoorCuA
import Derived.Test.YtblaplcknhpjnaaGreatDoorWeqM
import Derived.Test.YtblaplcknhpjnaaGreatDoorGrpN
import Derived.BigRegion
/-! slices.AppendSeq, Collect of the numbers of a row. -/
namespace Go.Proofs.YtblaplcknhpjnaaGreatDoor
open Go Go.RowKit Go.Proofs.YtblaplcknhpjnaaGreatDoor.Flow
set_option maxRecDepth 100000
attribute [local go_sem] Oper.semAt_some

theorem ownsRow_kept {W W' : World} {row : Option Nat} {B size n : Nat} {e : TypeId} {v : Value} {us : List Value} (h : W.ownsRow B e size v n us) (hg : W.grownBy W' row) (hr : Calm W row) : W'.ownsRow B e size v n us := by
  refine ⟨h.1, ?_⟩
  rcases h.2 with h4 | ⟨g, cap, cur, e', hbg, hgg, h5⟩
  · exact .inl h4
  · exact .inr ⟨g, cap, cur, e', hbg, block_kept hg hr hgg, h5⟩
theorem ownsRow_later {W W' : World} {B size n : Nat} {e : TypeId} {v : Value} {us : List Value} (h : W.ownsRow B e size v n us) (hb : Below W.heap.size W W') : W'.ownsRow B e size v n us := by
  refine ⟨h.1, ?_⟩
  rcases h.2 with h4 | ⟨g, cap, cur, e', hbg, hgg, h5⟩
  · exact .inl h4
  · exact .inr ⟨g, cap, cur, e', hbg, by rw [hb.block g (Array.getElem?_eq_some_iff.1 hgg).1]; exact hgg, h5⟩

theorem ownsRow_slice {W : World} {B size n : Nat} {e : TypeId} {v : Value} {us : List Value} (h : W.ownsRow B e size v n us) : ∃ p m c, v = .slice p m c := by
  rcases h.2 with ⟨h1, _⟩ | ⟨g, cap, cur, h1, _⟩
  · exact ⟨_, _, _, h1⟩
  · exact ⟨_, _, _, h1⟩

/-- How the row stands that AppendSeq lets grow. -/
structure ApSt (w : World) (B bx : Nat) (us : List (Option Addr × Nat × Nat)) (k : Nat) (W : World) : Prop where
  ex : ∃ v, W.heap[bx]? = some (.cells #[v] 32 (0, 0)) ∧ W.ownsRow B 36 1 v k ((us.take k).map sv)
  bel : Below w.heap.size w W
theorem ApSt.stable {w : World} {B bx k : Nat} {us : List (Option Addr × Nat × Nat)} {W W' : World} (h : ApSt w B bx us k W) (hb : Below W.heap.size W W') : ApSt w B bx us k W' := by
  obtain ⟨v, h1, h2⟩ := h.ex
  exact ⟨⟨v, by rw [hb.block bx (Array.getElem?_eq_some_iff.1 h1).1]; exact h1, ownsRow_later h2 hb⟩, bstep h.bel hb⟩
theorem ApSt.own {w : World} {B bx : Nat} {us : List (Option Addr × Nat × Nat)} {D : Nat} (hD : w.heap.size ≤ D) : OwnFrom D (fun k => ApSt w B bx us k) := fun k W W' row h hg hr => by
  have hc : Calm W row := fun j e => (hr j e).2
  obtain ⟨v, h1, h2⟩ := h.ex
  exact ⟨⟨v, block_kept hg hc h1, ownsRow_kept h2 hg hc⟩, h.bel.grown hg h.bel.size (fun j e => Nat.le_trans hD (hr j e).1)⟩

/-- A number more in the row: behind the append, and the store into its box. -/
theorem ApSt.grow {w : World} {B bx k D : Nat} {us : List (Option Addr × Nat × Nat)} {Wb W1 w' : World} {v v' : Value} {x : Option Addr × Nat × Nat} (h : ApSt w B bx us k Wb) (hv : Wb.heap[bx]? = some (.cells #[v] 32 (0, 0))) (hrow : Wb.ownsRow B 36 1 v k ((us.take k).map sv))
    (hx : us[k]? = some x) (hbw : Below Wb.heap.size Wb W1) (hg : W1.grownBy w' v.ownBlock) (hown : w'.ownsRow B 36 1 v' (k + 1) ((us.take k).map sv ++ [sv x])) (hB : w.heap.size ≤ B) (hbx : w.heap.size ≤ bx) :
    (w'.cell? ⟨bx, 0, none⟩ = some v ∧ w'.frozen? ⟨bx, 0, none⟩ = false) ∧ KeepsFrom D Wb (w'.setCell ⟨bx, 0, none⟩ v') ∧ Mid (fun j => j < w.heap.size) Wb (w'.setCell ⟨bx, 0, none⟩ v') ∧ ApSt w B bx us (k + 1) (w'.setCell ⟨bx, 0, none⟩ v') := by
  have hltx := (Array.getElem?_eq_some_iff.1 hv).1
  have hne : ∀ g, v.ownBlock = some g → (∃ cur, Wb.heap[g]? = some (.cells cur 36 (0, 0))) ∧ B ≤ g := fun g hg => by
    rcases hrow.2 with ⟨e, _⟩ | ⟨g', cap, cur, e, hbg, hgg, _⟩
    · rw [e] at hg; cases hg
    · rw [e] at hg
      simp [Value.ownBlock] at hg
      subst hg
      exact ⟨⟨cur, hgg⟩, hbg⟩
  have hother : ∀ j, j < Wb.heap.size → (∀ cur, Wb.heap[j]? ≠ some (.cells cur 36 (0, 0))) → w'.heap[j]? = Wb.heap[j]? := fun j hj hn => by
    rw [hg.block j (Nat.lt_of_lt_of_le hj hbw.size) (fun e => by obtain ⟨⟨cur, h1⟩, _⟩ := hne j e.symm; exact hn cur h1), hbw.block j hj]
  have hv' : w'.heap[bx]? = some (.cells #[v] 32 (0, 0)) := by
    rw [hother bx hltx (fun cur e => by rw [hv] at e; simp only [Option.some.injEq, Obj.cells.injEq] at e; exact absurd e.2.1 (by decide))]; exact hv
  have hsz : Wb.heap.size ≤ w'.heap.size := Nat.le_trans hbw.size hg.size
  have hset : ∀ j, j ≠ bx → (w'.setCell ⟨bx, 0, none⟩ v').heap[j]? = w'.heap[j]? := fun j hj => heap_setCell_other w' ⟨bx, 0, none⟩ j v' hj
  have hmid : Mid (fun j => j < w.heap.size) Wb (w'.setCell ⟨bx, 0, none⟩ v') := by
    refine ⟨hg.os.trans hbw.os, hg.tape.trans hbw.tape, hg.output.trans hbw.output, by simpa using hsz, fun j hj hp => ?_⟩
    rw [hset j (by omega), hg.block j (Nat.lt_of_lt_of_le hj hbw.size) (fun e => by obtain ⟨_, h1⟩ := hne j e.symm; omega), hbw.block j hj]
  refine ⟨⟨by simp [World.cell?, hv'], by simp [World.frozen?, hv']⟩, ⟨by simpa using hsz, fun j o _ hj ho => ?_⟩, hmid, ⟨⟨v', ?_, ?_⟩, ?_⟩⟩
  · have hjb : j ≠ bx := fun e => by subst e; rw [hv] at hj; cases hj; cases ho
    rw [hset j hjb, hother j (Array.getElem?_eq_some_iff.1 hj).1 (fun cur e => by rw [hj] at e; cases e; cases ho)]
    exact hj
  · simp [World.setCell, Array.getElem?_modify, hv']
  · rw [snoc_take hx, List.map_append, List.map_singleton]
    refine ⟨hown.1, ?_⟩
    rcases hown.2 with h4 | ⟨g, cap, cur, e', hbg, hgg, h5⟩
    · exact .inl h4
    · exact .inr ⟨g, cap, cur, e', hbg, by
        rw [hset g (fun e => by subst e; rw [hv'] at hgg; simp only [Option.some.injEq, Obj.cells.injEq] at hgg; exact absurd hgg.2.1 (by decide))]; exact hgg, h5⟩
  · exact h.bel.trans (hmid.below h.bel.size (fun j hj => hj))

set_option maxRecDepth 1000000 in
set_option maxHeartbeats 8000000 in
theorem appendseq_in (w : World) (b1 b off len cap : Nat) (p : Option Addr) (us : List (Option Addr × Nat × Nat)) (hr : RowAt w p len cap b off us) (hlen : len ≤ 1000000) (hc1 : w.cell? ⟨b1, 0, none⟩ = some (.slice p len cap)) (hb1 : b1 < w.heap.size) :
    CallsIn Fence.wide 10 Tryz.prog 154 #[.slice none 0 0, .func (.func 143) #[] #[.pointer (some ⟨b1, 0, none⟩)]] w fun e w' =>
      ∃ v, e = .returned v ∧ w'.ownsRow w.heap.size 36 1 v len (us.map sv) ∧ Below w.heap.size w w' := by
  have HR : Hold _ := ⟨hr⟩
  have HC1 : Hold _ := ⟨hc1⟩
  have HB1 : Hold _ := ⟨hb1⟩
  clear hr hc1 hb1
  refine callsIn_of_wp_marks Tryz.func154 rfl trivial ?_ rfl
  simp only [Tryz.ntmps154, List.size_toArray, List.length_cons, List.length_nil, Nat.reduceAdd, Nat.reduceSub, Array.replicate_succ, Array.replicate_zero, List.push_toArray, List.append_toArray, List.nil_append, List.cons_append]
  obtain ⟨bx, hbx⟩ : ∃ b, w.heap.size = b := ⟨_, rfl⟩
  obtain ⟨W0, hW0⟩ : ∃ W0, w.alloc (.cells #[.slice none 0 0] 32) = W0 := ⟨_, rfl⟩
  have hb0 : Below w.heap.size w W0 := by rw [← hW0]; exact (Below.refl _ _).alloc (Nat.le_refl _) _
  have hs0 : W0.heap.size = bx + 1 := by rw [← hW0, ← hbx]; simp
  have hx0 : W0.heap[bx]? = some (.cells #[.slice none 0 0] 32 (0, 0)) := by rw [← hW0, ← hbx]; exact heap_alloc_new w _
  have HS0 : Hold (ApSt w bx bx us 0 W0) := ⟨⟨⟨_, hx0, World.ownsRow_nil W0 bx _ 1⟩, hb0⟩⟩
  have HZ0 : Hold _ := ⟨hs0⟩
  have HBX : Hold _ := ⟨hbx⟩
  have HCW : Hold (W0.cell? ⟨b1, 0, none⟩ = some (.slice p len cap)) := ⟨(hb0.cell (p := ⟨b1, 0, none⟩) HB1.out).trans HC1.out⟩
  clear hb0 hs0 hx0
  gi_wp2_with fail
  clear hbx hW0
  refine wpIn_rangeFunc_tellsA rfl (by decide) (gf := 143) (lb := #[.pointer (some ⟨b1, 0, none⟩)]) rfl trivial (enters_of Tryz.func143 (by kernel_rfl) rfl)
    (N := len) (Kp := Mid (fun j => j < w.heap.size)) (Gd := fun k vs _ => ∃ x, us[k]? = some x ∧ vs = #[.agg #[sv x]]) (by rintro k vs W ⟨x, _, rfl⟩; rfl)
    (fun W5 hs5 hb5 => values1_tells (10 - 1) (W0.heap.size + 2) (W0.heap.size + 1) b1 b off len cap p us w W5 HR.out hlen _ (HS0.out.bel.trans (hb5.mono HS0.out.bel.size))
      ((hb5.cell (p := ⟨b1, 0, none⟩) (by have := HB1.out; have := HS0.out.bel.size; simp; omega)).trans HCW.out) (fun A C h hA => h.below hA (fun j hj => hj)))
    (fun h k => h.trans k) (fun W5 o => Mid.putObj _ _ _ (by have := HZ0.out; have := HBX.out; omega))
    (fun k => ApSt w bx bx us k) (ApSt.own (by have := HZ0.out; have := HBX.out; omega)) HS0.out
    (fun k a' W5 => ∃ (bv : Nat) (x : Option Addr × Nat × Nat), us[k]? = some x ∧ a' = { defers := [], tmps := #[.slice none 0 0, .func (.func 143) #[] #[.pointer (some ⟨b1, 0, none⟩)], .pointer (some ⟨bx, 0, none⟩), undef, .slice none 0 0, .pointer (some ⟨bv, 0, none⟩), .func (.func 143) #[] #[.pointer (some ⟨b1, 0, none⟩)], .agg #[.slice x.1 x.2.1 x.2.2], undef, undef, undef, undef, undef] } ∧ NatBox W5 bv (sv x) ∧ ApSt w bx bx us k W5)
    ?ax ?assign ?body ?done
  case ax =>
    rintro k a' _ X Y row ⟨bv, x, hx, e, h1, h2⟩ hg hr
    exact ⟨bv, x, hx, e, block_kept hg (fun j e => (hr j e).2) h1, ApSt.own (w := w) (B := bx) (bx := bx) (us := us) (D := W0.heap.size) (by have := HZ0.out; have := HBX.out; omega) k X Y row h2 hg hr⟩
  case assign =>
    rintro l2 k v W5 K hk hi ⟨x, hx, rfl⟩ hK
    obtain ⟨q, m, d⟩ := x
    have hbw : Below W5.heap.size W5 (W5.alloc (.cells #[.slice q m d] 36)) := (Below.refl _ _).alloc (Nat.le_refl _) _
    have HK : Hold _ := ⟨hK⟩
    have HI : Hold _ := ⟨hi⟩
    have HX : Hold _ := ⟨hx⟩
    clear hK hi hx
    unfold sv
    gi_wp2
    exact HK.out _ _ ((KeepsOthers.alloc _ _).from _) (Mid.of hbw) ⟨_, (q, m, d), HX.out, rfl, NatBox.made W5 _, HI.out.stable hbw⟩
  case body =>
    rintro l2 k a' Wb hk ⟨bv, ⟨q, m, d⟩, hx, rfl, hxn, hst⟩
    obtain ⟨v, hv, hrow⟩ := hst.ex
    have cb : Wb.cell? ⟨bx, 0, none⟩ = some v := by simp [World.cell?, hv]
    have cx := hxn.cell
    unfold sv at cx
    have HX : Hold _ := ⟨hx⟩
    have HV : Hold _ := ⟨hv⟩
    have HST : Hold _ := ⟨hst⟩
    have HROW : Hold _ := ⟨hrow⟩
    clear hx hv hst hxn hrow
    have hlk := HROW.out.1
    gi_wp2_with (gi_at_builtin; refine Paused.out ?_)
    refine ⟨?_⟩
    clear cx cb
    obtain ⟨i1, hi1, hz1, hs1, hbb1⟩ := info_parts Tryz.info_Nat
    have hbw : Below Wb.heap.size Wb (Wb.alloc (.cells #[.slice q m d] 36)) := (Below.refl _ _).alloc (Nat.le_refl _) _
    have hcn : (Wb.alloc (.cells #[.slice q m d] 36)).cell? ⟨Wb.heap.size, 0, none⟩ = some (.slice q m d) := (NatBox.made Wb (.slice q m d)).cell
    have hbsz : bx ≤ Wb.heap.size := Nat.le_of_lt (Array.getElem?_eq_some_iff.1 HV.out).1
    refine wpListIn_append_own _ rfl _ _ _ rfl bx _ i1 _ 1 _ Tryz.underlying32 hi1 hz1 hs1 rfl rfl (by decide) v k _ rfl (ownsRow_later HROW.out hbw) ⟨Wb.heap.size, 0, none⟩ 1 1 [.slice q m d] rfl rfl
      (fun j u hj => by
        cases j with
        | zero => simp at hj; subst hj; exact hcn
        | succ j => simp at hj)
      (fun u hj => by simp at hj; subst hj; rfl) (by simp only [maxLen]; omega) (Nat.le_trans (Nat.mul_le_mul (by omega : k + 1 ≤ 1000001) (hbb1 ▸ (by decide : (24 : Nat) ≤ 1000))) (by decide)) (Nat.le_trans hbsz hbw.size) ?_
    intro v' w' hown hgr _
    obtain ⟨pv, nv, cv, rfl⟩ := ownsRow_slice hown
    obtain ⟨⟨cb, fb⟩, hkf, hmd, hap⟩ := ApSt.grow (D := W0.heap.size) HST.out HV.out HROW.out HX.out hbw hgr hown (by have := HBX.out; omega) (by have := HBX.out; omega)
    have HKF : Hold _ := ⟨hkf⟩
    have HMD : Hold _ := ⟨hmd⟩
    have HAP : Hold _ := ⟨hap⟩
    clear hkf hmd hap hown hgr hbw hcn hbsz hi1 hz1 hs1 hbb1 hlk
    gi_wp2
    exact ⟨HKF.out, HMD.out, HAP.out⟩
  case done =>
    rintro D W5 hD hi hK
    obtain ⟨v, hv, hrow⟩ := hi.ex
    have cb : W5.cell? ⟨bx, 0, none⟩ = some v := by simp [World.cell?, hv]
    have HROW : Hold _ := ⟨hrow⟩
    have HK : Hold _ := ⟨hK⟩
    have HI : Hold _ := ⟨hi⟩
    clear hv hrow hK hi
    gi_wp2
    refine ⟨by simp, .inl ⟨_, _, rfl, run_takeDeferred HK.out, ?_⟩⟩
    have hgr := grownBy_putObj' W5 D (.deferred none)
    have hown := HROW.out
    rw [List.take_of_length_le (by rw [HR.out.len]; exact Nat.le_refl _)] at hown
    refine ⟨v, ?_, v, rfl, ?_, ?_⟩
    · simp [results, Tryz.f154, go_sem]
    · rw [HBX.out]
      exact ownsRow_kept hown hgr (fun j e => by cases e; exact ⟨_, HK.out, rfl⟩)
    · exact HI.out.bel.grown hgr HI.out.bel.size (fun j e => by cases e; have := HBX.out; have := HZ0.out; omega)

set_option maxHeartbeats 1000000 in
set_option maxRecDepth 100000 in
theorem collect_calls (w : World) (b1 b off len cap : Nat) (p : Option Addr) (us : List (Option Addr × Nat × Nat)) (hr : RowAt w p len cap b off us) (hlen : len ≤ 1000000) (hc1 : w.cell? ⟨b1, 0, none⟩ = some (.slice p len cap)) (hb1 : b1 < w.heap.size) :
    Calls Tryz.prog 141 #[.func (.func 143) #[] #[.pointer (some ⟨b1, 0, none⟩)]] w fun e w' =>
      ∃ v, e = .returned v ∧ w'.ownsRow w.heap.size 36 1 v len (us.map sv) ∧ Below w.heap.size w w' := by
  have HA : Hold _ := ⟨callsIn_wide.1 (appendseq_in w b1 b off len cap p us hr hlen hc1 hb1)⟩
  clear hr hc1 hb1
  go_enter Tryz.func141, Tryz.ntmps141
  go_wp2_with fail
  refine HA.out.mono ?_
  rintro en w1 ⟨v, rfl, hv, hb⟩
  have HV : Hold _ := ⟨hv⟩
  have HB : Hold _ := ⟨hb⟩
  clear hv hb HA
  go_wp2
  go_ret
  exact ⟨v, rfl, HV.out, HB.out⟩

end Go.Proofs.YtblaplcknhpjnaaGreatDoor

/-! Weights, all differences multiplied first; rows that are sorted; Newton's way: over numbers. Of no program (stage 10). -/
namespace Go.Proofs.YtblaplcknhpjnaaGreatDoor
set_option maxRecDepth 100000

theorem sub_is {q : Nat} (hq : 2 ≤ q) (x a : Nat) : Is q (subM x a q) ((x : Int) - a) := by
  have h0 : 0 < q := by omega
  have := (Is.of h0 x).sub hq (Is.of h0 a)
  have e : subM (x % q) (a % q) q = subM x a q := by unfold subM; rw [Nat.mod_mod, Nat.mod_mod]
  rwa [e] at this
/-- The product of all differences. -/
def diffs (q x : Nat) (o : Nat) : List Nat → Nat
  | [] => o
  | a :: l => diffs q x (o * subM x a q % q) l
theorem diffs_snoc (q x : Nat) : ∀ (l : List Nat) (o a : Nat), diffs q x o (l ++ [a]) = diffs q x o l * subM x a q % q
  | [], _, _ => rfl
  | _ :: l, _, a => diffs_snoc q x l _ a
theorem diffs_lt {q x : Nat} (hq : 2 ≤ q) : ∀ (l : List Nat) (o : Nat), o < q → diffs q x o l < q
  | [], _, h => h
  | _ :: l, _, _ => diffs_lt hq l _ (Nat.mod_lt _ (by omega))
def prodI : List Int → Int
  | [] => 1
  | a :: l => a * prodI l
theorem diffs_is {q x : Nat} (hq : 2 ≤ q) : ∀ (l : List Nat) (o : Nat) (z : Int), Is q o z → Is q (diffs q x o l) (z * prodI (l.map fun a : Nat => (x : Int) - a))
  | [], o, z, h => by
    show Is q o (z * 1)
    rw [Int.mul_one]; exact h
  | a :: l, o, z, h => by
    have h3 := diffs_is (x := x) hq l _ _ (h.mul (sub_is hq x a))
    show Is q (diffs q x (o * subM x a q % q) l) (z * (((x : Int) - a) * prodI (l.map fun a : Nat => (x : Int) - a)))
    rw [← Int.mul_assoc]; exact h3
theorem wval_prod (iv : Nat → Int) (x : Int) : ∀ l : List Nat, wval (l.map fun a : Nat => ((a : Int), iv a)) x = prodI (l.map fun a : Nat => x - a) * prodI (l.map iv)
  | [] => rfl
  | a :: l => by
    show (x - (a : Int)) * iv a * wval (l.map fun a : Nat => ((a : Int), iv a)) x = (x - (a : Int)) * prodI (l.map fun a : Nat => x - a) * (iv a * prodI (l.map iv))
    rw [wval_prod iv x l]
    generalize prodI (l.map fun a : Nat => x - a) = A
    generalize prodI (l.map iv) = B
    rw [Int.mul_assoc, Int.mul_assoc, ← Int.mul_assoc (iv a) A, Int.mul_comm (iv a) A, Int.mul_assoc]
theorem units_prod {q : Int} (iv : Nat → Int) (x : Int) : ∀ l : List Nat, (∀ a ∈ l, q ∣ (x - a) * iv a - 1) → q ∣ prodI (l.map fun a : Nat => x - a) * prodI (l.map iv) - 1
  | [], _ => by show q ∣ 1 * 1 - 1; simp
  | a :: l, h => by
    have h1 := h a List.mem_cons_self
    have h2 := units_prod iv x l fun b hb => h b (List.mem_cons_of_mem _ hb)
    show q ∣ (x - (a : Int)) * prodI (l.map fun a : Nat => x - a) * (iv a * prodI (l.map iv)) - 1
    generalize prodI (l.map fun a : Nat => x - a) = A at *
    generalize prodI (l.map iv) = B at *
    generalize x - (a : Int) = D at *
    generalize iv a = v at *
    have t : D * A * (v * B) = D * v * (A * B) := by rw [Int.mul_assoc, Int.mul_assoc, ← Int.mul_assoc A, Int.mul_comm A v, Int.mul_assoc v]
    have s : (D * v - 1) * (A * B) = D * v * (A * B) - A * B := by rw [Int.sub_mul, Int.one_mul]
    have e : D * A * (v * B) - 1 = (D * v - 1) * (A * B) + (A * B - 1) := by omega
    rw [e]
    exact Int.dvd_add (idvd_l h1 _) h2
theorem prod_unlike {q : Nat} (hq : Prime q) (x : Int) : ∀ l : List Nat, (∀ a ∈ l, ¬ (q : Int) ∣ x - a) → ¬ (q : Int) ∣ prodI (l.map fun a : Nat => x - a)
  | [], _, h => by
    have h2 := hq.two
    have h1 : (q : Int) ∣ 1 := h
    have := Int.le_of_dvd (by omega) h1
    omega
  | a :: l, h, k => by
    rcases hq.dvd_imul (a := x - a) (b := prodI (l.map fun a : Nat => x - a)) k with h1 | h1
    · exact h a List.mem_cons_self h1
    · exact prod_unlike hq x l (fun b hb => h b (List.mem_cons_of_mem _ hb)) h1
/-- The weight as the program makes it: one product by another one's inverse. -/
noncomputable def wprog (q x xi : Nat) (l : List Nat) : Nat := diffs q x 1 l * invQ q (diffs q xi 1 l) % q
theorem wprog_eq {q x xi : Nat} {l : List Nat} (hq : Prime q) (hu : ∀ a ∈ l, ¬ (q : Int) ∣ (xi : Int) - a) : wprog q x xi l = docW q x xi 1 l := by
  have h2 := hq.two
  have hA := diffs_is (x := x) h2 l 1 1 (Is.one h2)
  have hB := diffs_is (x := xi) h2 l 1 1 (Is.one h2)
  have hW := docW_is (x := x) (xi := xi) h2 l 1 1 (Is.one h2)
  rw [Int.one_mul] at hA hB hW
  have hN := prod_unlike hq (xi : Int) l hu
  have hI := Is.inv (N := diffs q xi 1 l) hq (by rw [Nat.mod_eq_of_lt hB.lt]; exact hB) (invQ_is h2 _) hN
  have hI2 : Is q (invQ q (diffs q xi 1 l)) (invQ q (diffs q xi 1 l) : Nat) := ⟨hI.2, by simp⟩
  refine (hA.mul hI2).uniq hW ?_
  rw [wval_prod (fun a => invZ q ((xi : Int) - a))]
  have hU := units_prod (q := q) (fun a => invZ q ((xi : Int) - a)) xi l fun a ha => invs_all hq ((xi : Int) :: ints l) _ _ List.mem_cons_self (List.mem_cons_of_mem _ (by
    rw [ints]; exact List.mem_map.2 ⟨a, ha, rfl⟩)) (hu a ha)
  have hI1 := hI.1
  generalize prodI (l.map fun a : Nat => (xi : Int) - a) = B at *
  generalize prodI (l.map fun a : Nat => invZ q ((xi : Int) - a)) = V at *
  generalize prodI (l.map fun a : Nat => (x : Int) - a) = A at *
  generalize ((invQ q (diffs q xi 1 l) : Nat) : Int) = I at *
  have h3 : (q : Int) ∣ B * (I - V) := by
    have := Int.dvd_sub hI1 hU
    rw [Int.mul_sub]
    rwa [show B * I - 1 - (B * V - 1) = B * I - B * V by omega] at this
  rcases hq.dvd_imul h3 with h | h
  · exact absurd h hN
  · rw [← Int.mul_sub]; exact idvd_r h _

/-! All but one. -/
def others (xs : List Nat) (i k : Nat) : List Nat := (xs.take k).take i ++ (xs.take k).drop (i + 1)
theorem others_zero (xs : List Nat) (i : Nat) : others xs i 0 = [] := by simp [others]
theorem others_same (xs : List Nat) (i : Nat) : others xs i (i + 1) = others xs i i := by
  unfold others
  have h1 : (xs.take (i + 1)).drop (i + 1) = [] := List.drop_eq_nil_of_le (by simp; omega)
  have h2 : (xs.take i).drop (i + 1) = [] := List.drop_eq_nil_of_le (by simp; omega)
  rw [h1, h2, List.take_take, List.take_take]
  simp
theorem others_snoc {xs : List Nat} {i k a : Nat} (hk : xs[k]? = some a) (hne : k ≠ i) : others xs i (k + 1) = others xs i k ++ [a] := by
  unfold others
  have hkl := (List.getElem?_eq_some_iff.1 hk).1
  have hl : (xs.take k).length = k := by rw [List.length_take]; omega
  have e : xs.take (k + 1) = xs.take k ++ [a] := snoc_take hk
  rw [e]
  rcases Nat.lt_or_ge k i with h | h
  · have e1 : (xs.take k ++ [a]).take i = xs.take k ++ [a] := List.take_of_length_le (by rw [List.length_append, hl, List.length_singleton]; omega)
    have e2 : (xs.take k ++ [a]).drop (i + 1) = [] := List.drop_eq_nil_of_le (by rw [List.length_append, hl, List.length_singleton]; omega)
    have e3 : (xs.take k).take i = xs.take k := List.take_of_length_le (by omega)
    have e4 : (xs.take k).drop (i + 1) = [] := List.drop_eq_nil_of_le (by omega)
    rw [e1, e2, e3, e4, List.append_nil, List.append_nil]
  · have e1 : (xs.take k ++ [a]).take i = (xs.take k).take i := List.take_append_of_le_length (by omega)
    have e2 : (xs.take k ++ [a]).drop (i + 1) = (xs.take k).drop (i + 1) ++ [a] := List.drop_append_of_le_length (by omega)
    rw [e1, e2, List.append_assoc]
theorem others_all (xs : List Nat) (i : Nat) : others xs i xs.length = xs.take i ++ xs.drop (i + 1) := by
  unfold others; rw [List.take_length]

/-! Unlike in a field. -/
theorem unlike_iff {q : Nat} (xs : List Nat) : Unlike q (ints xs) ↔ (xs.map fun x => x % q).Nodup := by
  unfold Unlike ints List.Nodup
  rw [List.pairwise_map, List.pairwise_map]
  constructor
  · intro h; exact h.imp fun {a b} hab e => hab (dvd_of_mod e)
  · intro h; exact h.imp fun {a b} hab e => hab (mod_of_dvd e)
theorem unlike_others {q : Nat} {xs : List Nat} (h : Unlike q (ints xs)) {i z : Nat} (hi : xs[i]? = some z) : ∀ a ∈ xs.take i ++ xs.drop (i + 1), ¬ (q : Int) ∣ (z : Int) - a := by
  have e : xs = xs.take i ++ z :: xs.drop (i + 1) := by
    obtain ⟨h1, h2⟩ := List.getElem?_eq_some_iff.1 hi
    rw [← h2, List.getElem_cons_drop, List.take_append_drop]
  rw [e] at h
  unfold Unlike ints at h
  rw [List.map_append, List.map_cons, List.pairwise_append, List.pairwise_cons] at h
  obtain ⟨_, ⟨h2, _⟩, h3⟩ := h
  intro a ha
  rcases List.mem_append.1 ha with k | k
  · exact Unlike.neg (h3 _ (List.mem_map.2 ⟨a, k, rfl⟩) _ List.mem_cons_self)
  · exact h2 _ (List.mem_map.2 ⟨a, k, rfl⟩)

/-! Rows that are sorted. -/
theorem adj_dup {l : List Nat} {i a : Nat} (h : l[i]? = some a) (k : l[i + 1]? = some a) : ¬ l.Nodup := by
  intro hn
  obtain ⟨h1, h2⟩ := List.getElem?_eq_some_iff.1 h
  obtain ⟨k1, k2⟩ := List.getElem?_eq_some_iff.1 k
  have := List.pairwise_iff_getElem.1 hn i (i + 1) h1 k1 (by omega)
  exact this (h2.trans k2.symm)
theorem no_adj : ∀ {l : List Nat}, l.Pairwise (fun a b => a ≤ b) → (∀ i a b, l[i]? = some a → l[i + 1]? = some b → a ≠ b) → l.Nodup
  | [], _, _ => List.Pairwise.nil
  | [a], _, _ => List.pairwise_singleton _ _
  | a :: b :: l, h, k => by
    obtain ⟨h1, h2⟩ := List.pairwise_cons.1 h
    refine List.pairwise_cons.2 ⟨fun c hc e => ?_, no_adj h2 fun i x y hx hy => k (i + 1) x y hx hy⟩
    subst e
    have hab := h1 b List.mem_cons_self
    have hne := k 0 a b rfl rfl
    rcases List.mem_cons.1 hc with e | hc
    · exact hne e
    · have := (List.pairwise_cons.1 h2).1 a hc
      omega
theorem swap_perm : ∀ {l : List Nat} {j a b : Nat}, l[j + 1]? = some a → l[j]? = some b → ((l.set (j + 1) b).set j a).Perm l
  | [], _, _, _, h, _ => by simp at h
  | [_], _, _, _, h, _ => by simp at h
  | x :: y :: l, 0, a, b, h, k => by
    simp at h k
    subst h k
    exact List.Perm.swap _ _ _
  | x :: y :: l, j + 1, a, b, h, k => List.Perm.cons x (swap_perm (l := y :: l) (j := j) h k)
/-- The first i + 1 are sorted, but for the one at j, which is on its way down. -/
structure Ins (i j : Nat) (l : List Nat) : Prop where
  le : j ≤ i
  rest : ∀ p r a b, p < r → r ≤ i → p ≠ j → r ≠ j → l[p]? = some a → l[r]? = some b → a ≤ b
  low : ∀ r a b, j < r → r ≤ i → l[j]? = some a → l[r]? = some b → a ≤ b
/-- The first i are sorted. -/
def Srt (i : Nat) (l : List Nat) : Prop := ∀ p r a b, p < r → r < i → l[p]? = some a → l[r]? = some b → a ≤ b
theorem Srt.ins {i : Nat} {l : List Nat} (h : Srt i l) : Ins i i l := ⟨Nat.le_refl _, fun p r a b h1 h2 _ h4 k1 k2 => h p r a b h1 (by omega) k1 k2, fun r _ _ h1 h2 => by omega⟩
theorem Ins.done {i j : Nat} {l : List Nat} (h : Ins i j l) (hj : j = 0 ∨ ∀ a b, l[j - 1]? = some b → l[j]? = some a → b ≤ a) (hl : i < l.length) : Srt (i + 1) l := by
  intro p r a b h1 h2 k1 k2
  by_cases e1 : p = j
  · subst e1; exact h.low r a b h1 (by omega) k1 k2
  by_cases e2 : r = j
  · subst e2
    rcases hj with h0 | hj
    · omega
    have hm : r - 1 < l.length := by omega
    have km : l[r - 1]? = some (l[r - 1]'hm) := List.getElem?_eq_getElem _
    have h5 := hj b _ km k2
    rcases Nat.lt_or_ge p (r - 1) with h6 | h6
    · exact Nat.le_trans (h.rest p (r - 1) a _ h6 (by omega) e1 (by omega) k1 km) h5
    · obtain rfl : p = r - 1 := by omega
      rw [k1] at km; cases km
      exact h5
  · exact h.rest p r a b h1 (by omega) e1 e2 k1 k2
theorem Ins.swap {i j x y : Nat} {l : List Nat} (h : Ins i (j + 1) l) (hx : l[j + 1]? = some x) (hy : l[j]? = some y) (hlt : x < y) : Ins i j ((l.set (j + 1) y).set j x) := by
  have hle := h.le
  obtain ⟨l1, _⟩ := List.getElem?_eq_some_iff.1 hx
  obtain ⟨l2, _⟩ := List.getElem?_eq_some_iff.1 hy
  have gj : ((l.set (j + 1) y).set j x)[j]? = some x := by rw [List.getElem?_set_self (by simpa using l2)]
  have gj1 : ((l.set (j + 1) y).set j x)[j + 1]? = some y := by rw [List.getElem?_set_ne (by omega), List.getElem?_set_self l1]
  have go : ∀ p, p ≠ j → p ≠ j + 1 → ((l.set (j + 1) y).set j x)[p]? = l[p]? := fun p h1 h2 => by rw [List.getElem?_set_ne (by omega), List.getElem?_set_ne (by omega)]
  refine ⟨by omega, fun p r a b h1 h2 h3 h4 k1 k2 => ?_, fun r a b h1 h2 k1 k2 => ?_⟩
  · by_cases e1 : p = j + 1
    · subst e1
      rw [gj1] at k1; cases k1
      rw [go r h4 (by omega)] at k2
      exact h.rest j r y b (by omega) h2 (by omega) (by omega) hy k2
    · rw [go p h3 e1] at k1
      by_cases e2 : r = j + 1
      · subst e2
        rw [gj1] at k2; cases k2
        exact h.rest p j a y (by omega) (by omega) e1 (by omega) k1 hy
      · rw [go r h4 e2] at k2
        exact h.rest p r a b h1 h2 e1 e2 k1 k2
  · rw [gj] at k1; cases k1
    by_cases e2 : r = j + 1
    · subst e2
      rw [gj1] at k2; cases k2
      omega
    · rw [go r (by omega) e2] at k2
      exact h.low r x b (by omega) h2 hx k2
theorem Srt.pairwise {l : List Nat} (h : Srt l.length l) : l.Pairwise fun a b => a ≤ b := by
  rw [List.pairwise_iff_getElem]
  intro i j hi hj hij
  exact h i j _ _ hij hj (List.getElem?_eq_getElem _) (List.getElem?_eq_getElem _)

end Go.Proofs.YtblaplcknhpjnaaGreatDoor

namespace Go.Proofs.YtblaplcknhpjnaaGreatDoor
open Go Go.RowKit Go.Proofs.YtblaplcknhpjnaaGreatDoor.Flow
set_option maxRecDepth 100000

/-- A row of the call's own, and what lies behind it. -/
def XRow (w : World) (g : Nat) (us : List (Option Addr × Nat × Nat)) (rest : List Value) : Prop := w.heap[g]? = some (.cells (us.map sv ++ rest).toArray 36 (0, 0))
theorem XRow.lt {w : World} {g : Nat} {us : List (Option Addr × Nat × Nat)} {rest : List Value} (h : XRow w g us rest) : g < w.heap.size := (Array.getElem?_eq_some_iff.1 h).1
theorem XRow.below {w w' : World} {g B : Nat} {us : List (Option Addr × Nat × Nat)} {rest : List Value} (h : XRow w g us rest) (hb : Below B w w') (hg : g < B) : XRow w' g us rest := by
  unfold XRow at *; rw [hb.block g hg]; exact h
theorem XRow.cell {w : World} {g j : Nat} {us : List (Option Addr × Nat × Nat)} {rest : List Value} {x : Option Addr × Nat × Nat} (h : XRow w g us rest) (hj : us[j]? = some x) : w.cell? ⟨g, j, none⟩ = some (.slice x.1 x.2.1 x.2.2) := by
  have hl : j < us.length := (List.getElem?_eq_some_iff.1 hj).1
  unfold XRow at h
  have : (us.map sv ++ rest)[j]? = some (sv x) := by rw [List.getElem?_append_left (by simpa using hl), List.getElem?_map, hj]; rfl
  simp [World.cell?, h, this, sv]
theorem XRow.free {w : World} {g : Nat} {us : List (Option Addr × Nat × Nat)} {rest : List Value} (h : XRow w g us rest) (j : Nat) : w.frozen? ⟨g, j, none⟩ = false := by
  unfold XRow at h; simp [World.frozen?, h]
theorem XRow.set {w : World} {g : Nat} {us : List (Option Addr × Nat × Nat)} {rest : List Value} (h : XRow w g us rest) {j : Nat} (hj : j < us.length) (x : Option Addr × Nat × Nat) : XRow (w.setCell ⟨g, j, none⟩ (.slice x.1 x.2.1 x.2.2)) g (us.set j x) rest := by
  unfold XRow at *
  have e : (us.set j x).map sv ++ rest = (us.map sv ++ rest).set j (sv x) := by
    rw [List.map_set, List.set_append_left _ _ (by simpa using hj)]
  rw [e]
  simp [World.setCell, Array.getElem?_modify, h, sv]
theorem trip_swap {w : World} {e j A B : Nat} {us : List (Option Addr × Nat × Nat)} {Ms : List Nat} {xa xb : Option Addr × Nat × Nat} (h : Trip w e us Ms) (ha : us[j + 1]? = some xa) (hb : us[j]? = some xb) (hA : Ms[j + 1]? = some A) (hB : Ms[j]? = some B) :
    Trip w e ((us.set (j + 1) xb).set j xa) ((Ms.set (j + 1) B).set j A) := by
  refine ⟨by simp [h.len], fun i N hN => ?_⟩
  obtain ⟨l1, _⟩ := List.getElem?_eq_some_iff.1 ha
  obtain ⟨m1, _⟩ := List.getElem?_eq_some_iff.1 hA
  by_cases e1 : i = j
  · subst e1
    rw [List.getElem?_set_self (by simp; omega)] at hN; cases hN
    obtain ⟨x, k1, k2⟩ := h.at_ _ _ hA
    rw [ha] at k1; cases k1
    exact ⟨xa, by rw [List.getElem?_set_self (by simp; omega)], k2⟩
  · rw [List.getElem?_set_ne (by omega)] at hN
    rw [List.getElem?_set_ne (by omega)]
    by_cases e2 : i = j + 1
    · subst e2
      rw [List.getElem?_set_self m1] at hN; cases hN
      obtain ⟨x, k1, k2⟩ := h.at_ _ _ hB
      rw [hb] at k1; cases k1
      exact ⟨xb, by rw [List.getElem?_set_self l1], k2⟩
    · rw [List.getElem?_set_ne (by omega)] at hN
      rw [List.getElem?_set_ne (by omega)]
      exact h.at_ i N hN
/-- How the row stands that is sorted. -/
structure SoSt (w0 : World) (e g : Nat) (rest : List Value) (Ns : List Nat) (us : List (Option Addr × Nat × Nat)) (Ms : List Nat) (w : World) : Prop where
  row : XRow w g us rest
  trip : Trip w0 e us Ms
  perm : Ms.Perm Ns
  bel : Below w0.heap.size w0 w
  own : w0.heap.size ≤ g
theorem SoSt.later {w0 w w' : World} {e g : Nat} {rest : List Value} {Ns Ms : List Nat} {us : List (Option Addr × Nat × Nat)} (h : SoSt w0 e g rest Ns us Ms w) (hb : Below w.heap.size w w') : SoSt w0 e g rest Ns us Ms w' :=
  ⟨h.row.below hb h.row.lt, h.trip, h.perm, bstep h.bel hb, h.own⟩
theorem SoSt.len {w0 w : World} {e g : Nat} {rest : List Value} {Ns Ms : List Nat} {us : List (Option Addr × Nat × Nat)} (h : SoSt w0 e g rest Ns us Ms w) : us.length = Ns.length := h.trip.len.trans h.perm.length_eq
theorem SoSt.swap {w0 w : World} {e g j A B : Nat} {rest : List Value} {Ns Ms : List Nat} {us : List (Option Addr × Nat × Nat)} {xa xb : Option Addr × Nat × Nat} (h : SoSt w0 e g rest Ns us Ms w) (ha : us[j + 1]? = some xa) (hb : us[j]? = some xb) (hA : Ms[j + 1]? = some A) (hB : Ms[j]? = some B) {w' : World}
    (hw : w' = (w.setCell ⟨g, j + 1, none⟩ (.slice xb.1 xb.2.1 xb.2.2)).setCell ⟨g, j, none⟩ (.slice xa.1 xa.2.1 xa.2.2)) : SoSt w0 e g rest Ns ((us.set (j + 1) xb).set j xa) ((Ms.set (j + 1) B).set j A) w' := by
  have l1 := (List.getElem?_eq_some_iff.1 ha).1
  subst hw
  exact ⟨(h.row.set l1 xb).set (by simp; omega) xa, trip_swap h.trip ha hb hA hB, (swap_perm hA hB).trans h.perm, (h.bel.setCell h.own _).setCell h.own _, h.own⟩
theorem cmpI_neg {N M : Nat} : cmpI N M < 0 ↔ N < M := by
  unfold cmpI
  split
  · omega
  · split <;> omega

set_option maxHeartbeats 8000000 in
set_option maxRecDepth 1000000 in
theorem ins_calls {w0 w : World} {e g n cap : Nat} {rest : List Value} {Ns Ms0 : List Nat} {us0 : List (Option Addr × Nat × Nat)} (h : SoSt w0 e g rest Ns us0 Ms0 w) (hn : Ns.length = n) (hn2 : n ≤ 1000000) (he : e ≤ 900000) :
    Calls Tryz.prog 164 #[.slice (some ⟨g, 0, none⟩) n cap, .int .i64 0, .int .i64 n, .func (.func 30) #[] #[]] w fun en w' => (∃ v, en = .returned v) ∧ ∃ us Ms, SoSt w0 e g rest Ns us Ms w' ∧ Srt n Ms := by
  have HS0 : Hold _ := ⟨h⟩
  have HN : Hold _ := ⟨hn⟩
  clear h hn
  go_enter Tryz.func164, Tryz.ntmps164
  go_wp2
  go_loopw [8, 9] (fun iv _ wr => ∃ (i : Nat) (us : List (Option Addr × Nat × Nat)) (Ms : List Nat), iv = .int .i64 i ∧ (i ≤ n ∨ i = 1) ∧ Hold (SoSt w0 e g rest Ns us Ms wr) ∧ Hold (Srt i Ms)) (fun iv _ _ => n - (intOf iv).toNat)
  case atStart => exact ⟨1, us0, Ms0, rfl, .inr rfl, HS0, ⟨fun p r a b h1 h2 => by omega⟩⟩
  case round =>
    obtain ⟨i, us, Ms, rfl, hi, HSo, HSr⟩ := hrel
    by_cases hin : i < n
    · have hin' : (i : Int) < n := by omega
      clear hi
      have HI0 : Hold (Ins i i Ms) := ⟨HSr.out.ins⟩
      clear HSr
      obtain ⟨wo, hwo⟩ : ∃ x, x = wr := ⟨_, rfl⟩
      subst hwo
      go_wp2
      go_loopw [9] (fun jv wr => ∃ (j : Nat) (us : List (Option Addr × Nat × Nat)) (Ms : List Nat), jv = .int .i64 j ∧ j ≤ i ∧ Hold (SoSt w0 e g rest Ns us Ms wr) ∧ Hold (Ins i j Ms)) (fun jv _ => (intOf jv).toNat)
      case atStart => exact ⟨i, us, Ms, rfl, Nat.le_refl _, HSo, HI0⟩
      case round =>
        clear HSo HI0
        obtain ⟨j', us, Ms, rfl, hj, HSO, HI⟩ := hrel
        rcases Nat.eq_zero_or_pos j' with h0 | h0
        · subst h0
          go_wp2
          refine wp_region_duties (by kernel_rfl) (by kernel_rfl)
            [some (.int .i64 0), some (.int .i64 0), some (.bool false), some (.bool false), some (undef), some (undef), some (undef), some (undef), some (undef), some (undef), some (undef), some (undef), some (undef), some (undef), some (undef), some (undef), some (.bool false)]
            [false, false, false, false, false, false, false, false, false, false, false, false, false, false, false, false, false] rfl
            (fun w1 w2 => Below w1.heap.size w1 w2)
            (fun _ w' => Below wr.heap.size wr w')
            (fun i v w' => match i with
              | _ => True)
            ?_ (Below.refl _ _).drew ?_ ?_
          · intro i v w1 w2 hf hb
            split at hf
            · trivial
          · simp only [Duties, Nat.reduceAdd]
            refine ⟨?_, ?_, ?_, ?_, ?_, ?_, ?_, ?_, ?_, ?_, ?_, ?_, ?_, ?_, ?_, ?_, ?_, trivial⟩
            case refine_1 =>
              intro D sp w' hD hW hdp hbx'
              (with_reducible refine asked_value (w1 := w') (v := .int .i64 0) ?_ ?_ ?_)
              · first | (simp only [Region.wanted]; done) | simp [Region.wanted, yielded, Act.put, go_sem]
              · simp [execOp, Act.eval, go_sem]
              · exact ⟨rfl, rfl⟩
            case refine_2 =>
              intro D sp w' hD hW hdp hbx'
              (with_reducible refine asked_value (w1 := w') (v := .int .i64 0) ?_ ?_ ?_)
              · first | (simp only [Region.wanted]; done) | simp [Region.wanted, yielded, Act.put, go_sem]
              · simp [execOp, Act.eval, Act.put, go_sem]
              · exact ⟨rfl, rfl⟩
            case refine_3 =>
              intro D sp w' hD hW hdp hbx'
              (with_reducible refine asked_value (w1 := w') (v := .bool false) ?_ ?_ ?_)
              · first | (simp only [Region.wanted]; done) | simp [Region.wanted, yielded, Act.put, go_sem]
              · simp [execOp, Act.eval, Act.put, go_sem]
              · exact ⟨rfl, rfl⟩
            case refine_4 =>
              intro D sp w' hD hW hdp hbx'
              (with_reducible refine asked_value (w1 := w') (v := .bool false) ?_ ?_ ?_)
              · first | (simp only [Region.wanted]; done) | simp [Region.wanted, yielded, Act.put, go_sem]
              · simp [execOp, Act.eval, Act.put, go_sem]
              · exact ⟨rfl, rfl⟩
            case refine_5 =>
              intro D sp w' hD hW hdp hbx'
              (with_reducible refine asked_not ?_ ?_)
              · (simp [Region.wanted, yielded, Act.put, go_sem] <;> exact fun h => by cases h)
              · exact ⟨rfl, rfl⟩
            case refine_6 =>
              intro D sp w' hD hW hdp hbx'
              (with_reducible refine asked_not ?_ ?_)
              · (simp [Region.wanted, yielded, Act.put, go_sem] <;> exact fun h => by cases h)
              · exact ⟨rfl, rfl⟩
            case refine_7 =>
              intro D sp w' hD hW hdp hbx'
              (with_reducible refine asked_not ?_ ?_)
              · (simp [Region.wanted, yielded, Act.put, go_sem] <;> exact fun h => by cases h)
              · exact ⟨rfl, rfl⟩
            case refine_8 =>
              intro D sp w' hD hW hdp hbx'
              (with_reducible refine asked_not ?_ ?_)
              · (simp [Region.wanted, yielded, Act.put, go_sem] <;> exact fun h => by cases h)
              · exact ⟨rfl, rfl⟩
            case refine_9 =>
              intro D sp w' hD hW hdp hbx'
              (with_reducible refine asked_not ?_ ?_)
              · (simp [Region.wanted, yielded, Act.put, go_sem] <;> exact fun h => by cases h)
              · exact ⟨rfl, rfl⟩
            case refine_10 =>
              intro D sp w' hD hW hdp hbx'
              (with_reducible refine asked_not ?_ ?_)
              · (simp [Region.wanted, yielded, Act.put, go_sem] <;> exact fun h => by cases h)
              · exact ⟨rfl, rfl⟩
            case refine_11 =>
              intro D sp w' hD hW hdp hbx'
              (with_reducible refine asked_not ?_ ?_)
              · (simp [Region.wanted, yielded, Act.put, go_sem] <;> exact fun h => by cases h)
              · exact ⟨rfl, rfl⟩
            case refine_12 =>
              intro D sp w' hD hW hdp hbx'
              (with_reducible refine asked_not ?_ ?_)
              · (simp [Region.wanted, yielded, Act.put, go_sem] <;> exact fun h => by cases h)
              · exact ⟨rfl, rfl⟩
            case refine_13 =>
              intro D sp w' hD hW hdp hbx'
              (with_reducible refine asked_not ?_ ?_)
              · (simp [Region.wanted, yielded, Act.put, go_sem] <;> exact fun h => by cases h)
              · exact ⟨rfl, rfl⟩
            case refine_14 =>
              intro D sp w' hD hW hdp hbx'
              (with_reducible refine asked_not ?_ ?_)
              · (simp [Region.wanted, yielded, Act.put, go_sem] <;> exact fun h => by cases h)
              · exact ⟨rfl, rfl⟩
            case refine_15 =>
              intro D sp w' hD hW hdp hbx'
              (with_reducible refine asked_not ?_ ?_)
              · (simp [Region.wanted, yielded, Act.put, go_sem] <;> exact fun h => by cases h)
              · exact ⟨rfl, rfl⟩
            case refine_16 =>
              intro D sp w' hD hW hdp hbx'
              (with_reducible refine asked_not ?_ ?_)
              · (simp [Region.wanted, yielded, Act.put, go_sem] <;> exact fun h => by cases h)
              · exact ⟨rfl, rfl⟩
            case refine_17 =>
              intro D sp w' hD hW hdp hbx'
              (with_reducible refine asked_value (w1 := w') (v := .bool false) ?_ ?_ ?_)
              · first | (simp only [Region.wanted]; done) | simp [Region.wanted, yielded, Act.put, go_sem]
              · simp [execOp, Act.eval, Act.put, go_sem]
              · exact ⟨rfl, rfl⟩
          · intro sp w7 hsp hbx'
            have HS7 : Hold _ := ⟨HSO.out.later hbx'⟩
            clear hsp hbx'
            simp only [frameOf]
            go_simp
            go_wp2
            have HSR : Hold _ := ⟨HI.out.done (.inl rfl) (by rw [HSO.out.perm.length_eq, HN.out]; exact hin)⟩
            go_roundw
            case rel => exact ⟨i + 1, us, Ms, by go_num, by omega, HS7, HSR⟩
            case measure => simp [intOf]; omega
        · obtain ⟨j, rfl⟩ : ∃ j, j' = j + 1 := ⟨j' - 1, by omega⟩
          clear h0
          have hlen : us.length = n := HSO.out.len.trans HN.out
          obtain ⟨xa, hxa⟩ : ∃ x, us[j + 1]? = some x := ⟨_, List.getElem?_eq_getElem (by omega)⟩
          obtain ⟨xb, hxb⟩ : ∃ x, us[j]? = some x := ⟨_, List.getElem?_eq_getElem (by omega)⟩
          obtain ⟨A, hA, ha2, ha3⟩ := HSO.out.trip.get hxa
          obtain ⟨B, hB, hb2, hb3⟩ := HSO.out.trip.get hxb
          have HXA : Hold _ := ⟨hxa⟩
          have HXB : Hold _ := ⟨hxb⟩
          have HA : Hold _ := ⟨hA⟩
          have HB : Hold _ := ⟨hB⟩
          have HFA : Hold (Fit e A (.agg #[.slice xa.1 xa.2.1 xa.2.2]) wr) := ⟨(Fit.of ha2 ha3).below HSO.out.bel⟩
          have HFB : Hold (Fit e B (.agg #[.slice xb.1 xb.2.1 xb.2.2]) wr) := ⟨(Fit.of hb2 hb3).below HSO.out.bel⟩
          obtain ⟨K, hKe⟩ : ∃ K, cmpI A B = K := ⟨_, rfl⟩
          have HK : Hold _ := ⟨hKe⟩
          have HKN : Hold (K < 0 ↔ A < B) := ⟨by rw [← hKe]; exact cmpI_neg⟩
          have hj0 : (0 : Int) < ((j + 1 : Nat) : Int) := by omega
          have hn1 : ¬ (n : Int) ≤ (j : Int) + 1 := by omega
          have hj9 : (0 : Int) ≤ (j : Int) + 1 := by omega
          have hwj : IntKind.i64.wrap (j : Int) = (j : Nat) := by rw [IntKind.wrap_i64]; omega
          have hn2 : ¬ n ≤ j := by omega
          clear hxa hxb hA hB ha2 ha3 hb2 hb3 hKe hlen
          by_cases hK : K < 0
          · go_wp2
            refine wp_region_duties (by kernel_rfl) (by kernel_rfl)
              [some (.int .i64 ((j + 1 : Nat) : Int)), some (.int .i64 0), some (.bool true), some (.bool true), some (.func (.func 30) #[] #[]), some (.slice (some ⟨g, 0, none⟩) n cap), some (.int .i64 ((j + 1 : Nat) : Int)), some (.pointer (some ⟨g, j + 1, none⟩)), some (.agg #[.slice xa.1 xa.2.1 xa.2.2]), some (.slice (some ⟨g, 0, none⟩) n cap), some (.int .i64 ((j + 1 : Nat) : Int)), some (.int .i64 (j : Nat)), some (.pointer (some ⟨g, j, none⟩)), some (.agg #[.slice xb.1 xb.2.1 xb.2.2]), none, some (.bool true), some (.bool true)]
              [false, false, false, false, false, false, false, false, false, false, false, false, false, false, true, false, false] rfl
              (fun w1 w2 => Below w1.heap.size w1 w2)
              (fun _ w' => Below wr.heap.size wr w')
              (fun i v w' => match i with
                | 14 => v = .int .i64 K
                | _ => True)
              ?_ (Below.refl _ _).drew ?_ ?_
            · intro i v w1 w2 hf hb
              split at hf
              · exact hf
              · trivial
            · simp only [Duties, Nat.reduceAdd]
              refine ⟨?_, ?_, ?_, ?_, ?_, ?_, ?_, ?_, ?_, ?_, ?_, ?_, ?_, ?_, ?_, ?_, ?_, trivial⟩
              case refine_1 =>
                intro D sp w' hD hW hdp hbx'
                (with_reducible refine asked_value (w1 := w') (v := .int .i64 ((j + 1 : Nat) : Int)) ?_ ?_ ?_)
                · first | (simp only [Region.wanted]; done) | simp [Region.wanted, yielded, Act.put, go_sem]
                · simp [execOp, Act.eval, go_sem]
                · exact ⟨rfl, rfl⟩
              case refine_2 =>
                intro D sp w' hD hW hdp hbx'
                (with_reducible refine asked_value (w1 := w') (v := .int .i64 0) ?_ ?_ ?_)
                · first | (simp only [Region.wanted]; done) | simp [Region.wanted, yielded, Act.put, go_sem]
                · simp [execOp, Act.eval, Act.put, go_sem]
                · exact ⟨rfl, rfl⟩
              case refine_3 =>
                intro D sp w' hD hW hdp hbx'
                (with_reducible refine asked_value (w1 := w') (v := .bool true) ?_ ?_ ?_)
                · first | (simp only [Region.wanted]; done) | simp [Region.wanted, yielded, Act.put, go_sem]
                · simp [execOp, Act.eval, Act.put, go_sem]
                · exact ⟨rfl, rfl⟩
              case refine_4 =>
                intro D sp w' hD hW hdp hbx'
                (with_reducible refine asked_value (w1 := w') (v := .bool true) ?_ ?_ ?_)
                · first | (simp only [Region.wanted]; done) | simp [Region.wanted, yielded, Act.put, go_sem]
                · simp [execOp, Act.eval, Act.put, go_sem]
                · exact ⟨rfl, rfl⟩
              case refine_5 =>
                intro D sp w' hD hW hdp hbx'
                (with_reducible refine asked_value (w1 := w') (v := .func (.func 30) #[] #[]) ?_ ?_ ?_)
                · first | (simp only [Region.wanted]; done) | simp [Region.wanted, yielded, Act.put, go_sem]
                · simp [execOp, Act.eval, Act.put, go_sem]
                · exact ⟨rfl, rfl⟩
              case refine_6 =>
                intro D sp w' hD hW hdp hbx'
                (with_reducible refine asked_value (w1 := w') (v := .slice (some ⟨g, 0, none⟩) n cap) ?_ ?_ ?_)
                · first | (simp only [Region.wanted]; done) | simp [Region.wanted, yielded, Act.put, go_sem]
                · simp [execOp, Act.eval, Act.put, go_sem]
                · exact ⟨rfl, rfl⟩
              case refine_7 =>
                intro D sp w' hD hW hdp hbx'
                (with_reducible refine asked_value (w1 := w') (v := .int .i64 ((j + 1 : Nat) : Int)) ?_ ?_ ?_)
                · first | (simp only [Region.wanted]; done) | simp [Region.wanted, yielded, Act.put, go_sem]
                · simp [execOp, Act.eval, Act.put, go_sem]
                · exact ⟨rfl, rfl⟩
              case refine_8 =>
                intro D sp w' hD hW hdp hbx'
                (with_reducible refine asked_value (w1 := w') (v := .pointer (some ⟨g, j + 1, none⟩)) ?_ ?_ ?_)
                · first | (simp only [Region.wanted]; done) | simp [Region.wanted, yielded, Act.put, go_sem]
                · simp [execOp, Act.eval, Act.put, go_sem, hn1, hj9]
                · exact ⟨rfl, rfl⟩
              case refine_9 =>
                intro D sp w' hD hW hdp hbx'
                have c0 := (HSO.out.row.below hbx' HSO.out.row.lt).cell HXA.out
                (with_reducible refine asked_value (w1 := w') (v := .agg #[.slice xa.1 xa.2.1 xa.2.2]) ?_ ?_ ?_)
                · first | (simp only [Region.wanted]; done) | simp [Region.wanted, yielded, Act.put, go_sem]
                · simp [execOp, Act.eval, Act.put, go_sem, c0]
                · exact ⟨rfl, rfl⟩
              case refine_10 =>
                intro D sp w' hD hW hdp hbx'
                (with_reducible refine asked_value (w1 := w') (v := .slice (some ⟨g, 0, none⟩) n cap) ?_ ?_ ?_)
                · first | (simp only [Region.wanted]; done) | simp [Region.wanted, yielded, Act.put, go_sem]
                · simp [execOp, Act.eval, Act.put, go_sem]
                · exact ⟨rfl, rfl⟩
              case refine_11 =>
                intro D sp w' hD hW hdp hbx'
                (with_reducible refine asked_value (w1 := w') (v := .int .i64 ((j + 1 : Nat) : Int)) ?_ ?_ ?_)
                · first | (simp only [Region.wanted]; done) | simp [Region.wanted, yielded, Act.put, go_sem]
                · simp [execOp, Act.eval, Act.put, go_sem]
                · exact ⟨rfl, rfl⟩
              case refine_12 =>
                intro D sp w' hD hW hdp hbx'
                (with_reducible refine asked_value (w1 := w') (v := .int .i64 (j : Nat)) ?_ ?_ ?_)
                · first | (simp only [Region.wanted]; done) | simp [Region.wanted, yielded, Act.put, go_sem]
                · simp [execOp, Act.eval, Act.put, go_sem, hwj]
                · exact ⟨rfl, rfl⟩
              case refine_13 =>
                intro D sp w' hD hW hdp hbx'
                (with_reducible refine asked_value (w1 := w') (v := .pointer (some ⟨g, j, none⟩)) ?_ ?_ ?_)
                · first | (simp only [Region.wanted]; done) | simp [Region.wanted, yielded, Act.put, go_sem]
                · simp [execOp, Act.eval, Act.put, go_sem, hn2]
                · exact ⟨rfl, rfl⟩
              case refine_14 =>
                intro D sp w' hD hW hdp hbx'
                have c0 := (HSO.out.row.below hbx' HSO.out.row.lt).cell HXB.out
                (with_reducible refine asked_value (w1 := w') (v := .agg #[.slice xb.1 xb.2.1 xb.2.2]) ?_ ?_ ?_)
                · first | (simp only [Region.wanted]; done) | simp [Region.wanted, yielded, Act.put, go_sem]
                · simp [execOp, Act.eval, Act.put, go_sem, c0]
                · exact ⟨rfl, rfl⟩
              case refine_15 =>
                intro D sp w' hD hW hdp hbx'
                (with_reducible refine asked_call (w1 := w') (f := 30) (args := #[.agg #[.slice xa.1 xa.2.1 xa.2.2], .agg #[.slice xb.1 xb.2.1 xb.2.2]]) ?_ ?_ ?_)
                · first | (simp only [Region.wanted]; done) | simp [Region.wanted, yielded, Act.put, go_sem]
                · simp [Act.eval, Act.put, go_sem]
                · refine (cmp_fit (HFA.out.below hbx') (HFB.out.below hbx') he he).mono ?_
                  rintro en w9 ⟨_, rfl, rfl, hb⟩
                  rw [HK.out]
                  exact ⟨_, rfl, hb, rfl, bstep hbx' hb⟩
              case refine_16 =>
                intro D sp w' hD hW hdp hbx'
                have k14 : (sp 14) = .int .i64 K := (hdp 14 (List.mem_of_elem_eq_true (by kernel_rfl))).2
                (with_reducible refine asked_value (w1 := w') (v := .bool true) ?_ ?_ ?_)
                · first | (simp only [Region.wanted]; done) | simp [Region.wanted, yielded, Act.put, go_sem, k14]
                · simp [execOp, Act.eval, Act.put, go_sem, k14, hK]
                · exact ⟨rfl, rfl⟩
              case refine_17 =>
                intro D sp w' hD hW hdp hbx'
                (with_reducible refine asked_value (w1 := w') (v := .bool true) ?_ ?_ ?_)
                · first | (simp only [Region.wanted]; done) | simp [Region.wanted, yielded, Act.put, go_sem]
                · simp [execOp, Act.eval, Act.put, go_sem]
                · exact ⟨rfl, rfl⟩
            · intro sp w7 hsp hbx'
              have HS7 : Hold _ := ⟨HSO.out.later hbx'⟩
              clear hsp hbx'
              simp only [frameOf, Nat.reduceAdd]
              generalize sp 14 = y14 at *
              go_simp
              have c1 := HS7.out.row.cell HXA.out
              have c2 := HS7.out.row.cell HXB.out
              have f1 := HS7.out.row.free (j + 1)
              have f2 := HS7.out.row.free j
              have HS8 : Hold (SoSt w0 e g rest Ns ((us.set (j + 1) xb).set j xa) ((Ms.set (j + 1) B).set j A) ((w7.setCell ⟨g, j + 1, none⟩ (.slice xb.1 xb.2.1 xb.2.2)).setCell ⟨g, j, none⟩ (.slice xa.1 xa.2.1 xa.2.2)).drew) := ⟨(HS7.out.swap HXA.out HXB.out HA.out HB.out rfl).later ((Below.refl _ _).drew)⟩
              have HI8 : Hold _ := ⟨HI.out.swap HA.out HB.out (HKN.out.1 hK)⟩
              go_wp2
              go_region
              clear c1 c2 f1 f2
              go_wp2
              go_roundw
              case rel => exact ⟨j, _, _, by go_num, by omega, HS8, HI8⟩
              case measure => simp [intOf]
          · go_wp2
            refine wp_region_duties (by kernel_rfl) (by kernel_rfl)
              [some (.int .i64 ((j + 1 : Nat) : Int)), some (.int .i64 0), some (.bool true), some (.bool true), some (.func (.func 30) #[] #[]), some (.slice (some ⟨g, 0, none⟩) n cap), some (.int .i64 ((j + 1 : Nat) : Int)), some (.pointer (some ⟨g, j + 1, none⟩)), some (.agg #[.slice xa.1 xa.2.1 xa.2.2]), some (.slice (some ⟨g, 0, none⟩) n cap), some (.int .i64 ((j + 1 : Nat) : Int)), some (.int .i64 (j : Nat)), some (.pointer (some ⟨g, j, none⟩)), some (.agg #[.slice xb.1 xb.2.1 xb.2.2]), none, some (.bool false), some (.bool false)]
              [false, false, false, false, false, false, false, false, false, false, false, false, false, false, true, false, false] rfl
              (fun w1 w2 => Below w1.heap.size w1 w2)
              (fun _ w' => Below wr.heap.size wr w')
              (fun i v w' => match i with
                | 14 => v = .int .i64 K
                | _ => True)
              ?_ (Below.refl _ _).drew ?_ ?_
            · intro i v w1 w2 hf hb
              split at hf
              · exact hf
              · trivial
            · simp only [Duties, Nat.reduceAdd]
              refine ⟨?_, ?_, ?_, ?_, ?_, ?_, ?_, ?_, ?_, ?_, ?_, ?_, ?_, ?_, ?_, ?_, ?_, trivial⟩
              case refine_1 =>
                intro D sp w' hD hW hdp hbx'
                (with_reducible refine asked_value (w1 := w') (v := .int .i64 ((j + 1 : Nat) : Int)) ?_ ?_ ?_)
                · first | (simp only [Region.wanted]; done) | simp [Region.wanted, yielded, Act.put, go_sem]
                · simp [execOp, Act.eval, go_sem]
                · exact ⟨rfl, rfl⟩
              case refine_2 =>
                intro D sp w' hD hW hdp hbx'
                (with_reducible refine asked_value (w1 := w') (v := .int .i64 0) ?_ ?_ ?_)
                · first | (simp only [Region.wanted]; done) | simp [Region.wanted, yielded, Act.put, go_sem]
                · simp [execOp, Act.eval, Act.put, go_sem]
                · exact ⟨rfl, rfl⟩
              case refine_3 =>
                intro D sp w' hD hW hdp hbx'
                (with_reducible refine asked_value (w1 := w') (v := .bool true) ?_ ?_ ?_)
                · first | (simp only [Region.wanted]; done) | simp [Region.wanted, yielded, Act.put, go_sem]
                · simp [execOp, Act.eval, Act.put, go_sem]
                · exact ⟨rfl, rfl⟩
              case refine_4 =>
                intro D sp w' hD hW hdp hbx'
                (with_reducible refine asked_value (w1 := w') (v := .bool true) ?_ ?_ ?_)
                · first | (simp only [Region.wanted]; done) | simp [Region.wanted, yielded, Act.put, go_sem]
                · simp [execOp, Act.eval, Act.put, go_sem]
                · exact ⟨rfl, rfl⟩
              case refine_5 =>
                intro D sp w' hD hW hdp hbx'
                (with_reducible refine asked_value (w1 := w') (v := .func (.func 30) #[] #[]) ?_ ?_ ?_)
                · first | (simp only [Region.wanted]; done) | simp [Region.wanted, yielded, Act.put, go_sem]
                · simp [execOp, Act.eval, Act.put, go_sem]
                · exact ⟨rfl, rfl⟩
              case refine_6 =>
                intro D sp w' hD hW hdp hbx'
                (with_reducible refine asked_value (w1 := w') (v := .slice (some ⟨g, 0, none⟩) n cap) ?_ ?_ ?_)
                · first | (simp only [Region.wanted]; done) | simp [Region.wanted, yielded, Act.put, go_sem]
                · simp [execOp, Act.eval, Act.put, go_sem]
                · exact ⟨rfl, rfl⟩
              case refine_7 =>
                intro D sp w' hD hW hdp hbx'
                (with_reducible refine asked_value (w1 := w') (v := .int .i64 ((j + 1 : Nat) : Int)) ?_ ?_ ?_)
                · first | (simp only [Region.wanted]; done) | simp [Region.wanted, yielded, Act.put, go_sem]
                · simp [execOp, Act.eval, Act.put, go_sem]
                · exact ⟨rfl, rfl⟩
              case refine_8 =>
                intro D sp w' hD hW hdp hbx'
                (with_reducible refine asked_value (w1 := w') (v := .pointer (some ⟨g, j + 1, none⟩)) ?_ ?_ ?_)
                · first | (simp only [Region.wanted]; done) | simp [Region.wanted, yielded, Act.put, go_sem]
                · simp [execOp, Act.eval, Act.put, go_sem, hn1, hj9]
                · exact ⟨rfl, rfl⟩
              case refine_9 =>
                intro D sp w' hD hW hdp hbx'
                have c0 := (HSO.out.row.below hbx' HSO.out.row.lt).cell HXA.out
                (with_reducible refine asked_value (w1 := w') (v := .agg #[.slice xa.1 xa.2.1 xa.2.2]) ?_ ?_ ?_)
                · first | (simp only [Region.wanted]; done) | simp [Region.wanted, yielded, Act.put, go_sem]
                · simp [execOp, Act.eval, Act.put, go_sem, c0]
                · exact ⟨rfl, rfl⟩
              case refine_10 =>
                intro D sp w' hD hW hdp hbx'
                (with_reducible refine asked_value (w1 := w') (v := .slice (some ⟨g, 0, none⟩) n cap) ?_ ?_ ?_)
                · first | (simp only [Region.wanted]; done) | simp [Region.wanted, yielded, Act.put, go_sem]
                · simp [execOp, Act.eval, Act.put, go_sem]
                · exact ⟨rfl, rfl⟩
              case refine_11 =>
                intro D sp w' hD hW hdp hbx'
                (with_reducible refine asked_value (w1 := w') (v := .int .i64 ((j + 1 : Nat) : Int)) ?_ ?_ ?_)
                · first | (simp only [Region.wanted]; done) | simp [Region.wanted, yielded, Act.put, go_sem]
                · simp [execOp, Act.eval, Act.put, go_sem]
                · exact ⟨rfl, rfl⟩
              case refine_12 =>
                intro D sp w' hD hW hdp hbx'
                (with_reducible refine asked_value (w1 := w') (v := .int .i64 (j : Nat)) ?_ ?_ ?_)
                · first | (simp only [Region.wanted]; done) | simp [Region.wanted, yielded, Act.put, go_sem]
                · simp [execOp, Act.eval, Act.put, go_sem, hwj]
                · exact ⟨rfl, rfl⟩
              case refine_13 =>
                intro D sp w' hD hW hdp hbx'
                (with_reducible refine asked_value (w1 := w') (v := .pointer (some ⟨g, j, none⟩)) ?_ ?_ ?_)
                · first | (simp only [Region.wanted]; done) | simp [Region.wanted, yielded, Act.put, go_sem]
                · simp [execOp, Act.eval, Act.put, go_sem, hn2]
                · exact ⟨rfl, rfl⟩
              case refine_14 =>
                intro D sp w' hD hW hdp hbx'
                have c0 := (HSO.out.row.below hbx' HSO.out.row.lt).cell HXB.out
                (with_reducible refine asked_value (w1 := w') (v := .agg #[.slice xb.1 xb.2.1 xb.2.2]) ?_ ?_ ?_)
                · first | (simp only [Region.wanted]; done) | simp [Region.wanted, yielded, Act.put, go_sem]
                · simp [execOp, Act.eval, Act.put, go_sem, c0]
                · exact ⟨rfl, rfl⟩
              case refine_15 =>
                intro D sp w' hD hW hdp hbx'
                (with_reducible refine asked_call (w1 := w') (f := 30) (args := #[.agg #[.slice xa.1 xa.2.1 xa.2.2], .agg #[.slice xb.1 xb.2.1 xb.2.2]]) ?_ ?_ ?_)
                · first | (simp only [Region.wanted]; done) | simp [Region.wanted, yielded, Act.put, go_sem]
                · simp [Act.eval, Act.put, go_sem]
                · refine (cmp_fit (HFA.out.below hbx') (HFB.out.below hbx') he he).mono ?_
                  rintro en w9 ⟨_, rfl, rfl, hb⟩
                  rw [HK.out]
                  exact ⟨_, rfl, hb, rfl, bstep hbx' hb⟩
              case refine_16 =>
                intro D sp w' hD hW hdp hbx'
                have k14 : (sp 14) = .int .i64 K := (hdp 14 (List.mem_of_elem_eq_true (by kernel_rfl))).2
                (with_reducible refine asked_value (w1 := w') (v := .bool false) ?_ ?_ ?_)
                · first | (simp only [Region.wanted]; done) | simp [Region.wanted, yielded, Act.put, go_sem, k14]
                · simp [execOp, Act.eval, Act.put, go_sem, k14, hK]
                · exact ⟨rfl, rfl⟩
              case refine_17 =>
                intro D sp w' hD hW hdp hbx'
                (with_reducible refine asked_value (w1 := w') (v := .bool false) ?_ ?_ ?_)
                · first | (simp only [Region.wanted]; done) | simp [Region.wanted, yielded, Act.put, go_sem]
                · simp [execOp, Act.eval, Act.put, go_sem]
                · exact ⟨rfl, rfl⟩
            · intro sp w7 hsp hbx'
              have HS7 : Hold _ := ⟨HSO.out.later hbx'⟩
              clear hsp hbx'
              simp only [frameOf, Nat.reduceAdd]
              generalize sp 14 = y14 at *
              go_simp
              go_wp2
              have HSR : Hold _ := ⟨HI.out.done (.inr fun a b hb ha => by
                have e1 := HA.out
                have e2 := HB.out
                rw [ha] at e1; cases e1
                have hb9 : Ms[j]? = some b := hb
                rw [hb9] at e2; cases e2
                have := HKN.out
                omega) (by rw [HSO.out.perm.length_eq, HN.out]; exact hin)⟩
              go_roundw
              case rel => exact ⟨i + 1, us, Ms, by go_num, by omega, HS7, HSR⟩
              case measure => simp [intOf]; omega
    · have hin' : ¬ (i : Int) < n := by omega
      have HSR : Hold (Srt n Ms) := ⟨fun p r a b h1 h2 => HSr.out p r a b h1 (by omega)⟩
      go_wp2
      go_end0
      exact ⟨⟨_, rfl⟩, us, Ms, HSo.out, HSR.out⟩

end Go.Proofs.YtblaplcknhpjnaaGreatDoor
