/- The document's rows joined, and its tag. -/
import Derived.Test.YtnpobaaaoelalaaDoorRefS
import Derived.Test.YtnpobaaaoelalaaDoorMacM
import Derived.Test.YtnpobaaaoelalaaDoorRowsIn
namespace Go.Proofs.YtnpobaaaoelalaaDoor
open Go Go.RowKit Go.Proofs.YtnpobaaaoelalaaDoor.Flow

/-- Where a grown slice lies: where it lay, or in new memory. -/
def Moved (w : World) (v v' : Value) : Prop := v'.ownBlock = v.ownBlock ∨ ∀ g, v'.ownBlock = some g → w.heap.size ≤ g

theorem run_appF {w : World} {B : Nat} {v : Value} {xs : List Nat} (h : Own w B v xs) {p : Option Addr} {m c : Nat} {bs : List Nat} (hr : RowIn w .u8 p m c bs) (hn : p = none → c = 0)
    (hmax : xs.length + m ≤ 140737488355328) (hB : B ≤ w.heap.size) (ty : TypeId) :
    ∃ v' w', (Builtin.append_ #[25, 25] ty #[v, .slice p m c]).run Tryd.prog w = .ok v' w' ∧ Own w' B v' (xs ++ bs) ∧ w.grownBy w' v.ownBlock ∧ Moved w v v' := by
  obtain ⟨v', w', h1, h2, h3⟩ := run_app h hr hn hmax hB ty
  refine ⟨v', w', h1, h2, h3, ?_⟩
  obtain ⟨i, hi, hz, hs, hb⟩ := info_parts Tryd.info_u8
  have hl := hr.len
  have hmx : xs.length + m ≤ maxLen := by simp only [maxLen]; omega
  cases p with
  | none =>
    obtain rfl := hn rfl
    have hc := hr.cap
    obtain rfl : m = 0 := by omega
    have h4 := run_append_owned_none (P := Tryd.prog) w B 25 ty 5 i 1 Tryd.underlying25 hi v xs.length _ h.owns
    rw [h1] at h4
    injection h4 with h5 _
    exact .inl (by rw [h5])
  | some a =>
    have hcell : ∀ j u, (bs.map fun (x : Nat) => Value.int .u8 (x : Int))[j]? = some u → w.cell? (a.add j) = some u := fun j u hu => by
      rw [List.getElem?_map] at hu
      obtain ⟨x, hx, rfl⟩ := Option.map_eq_some_iff.1 hu
      have h0 : 0 < m := by have := (List.getElem?_eq_some_iff.1 hx).1; omega
      obtain ⟨b, off, e, h2, h3⟩ := (hr.row h0).pos h0
      cases e
      rw [add_plain]
      exact h3 j x hx
    have hone : ∀ u ∈ (bs.map fun (x : Nat) => Value.int .u8 (x : Int)), u.oneCell' = true := fun u hu => by obtain ⟨x, _, rfl⟩ := List.mem_map.1 hu; rfl
    rcases h.owns.2 with ⟨rfl, h0⟩ | ⟨g, cap, cur, rfl, hbg, hg, hnc, hcm, hcs, ht⟩
    · obtain ⟨v2, w2, k1, k2, _, _⟩ := run_append_own (P := Tryd.prog) w w.heap.size 25 ty 5 i (.int .u8 0) 1 1 Tryd.underlying25 hi hz hs hb rfl (by decide) (.slice none 0 0) 0 [] (World.ownsRow_nil w _ _ _) a m c (bs.map fun (x : Nat) => Value.int .u8 (x : Int)) (by simp [hl]) hcell hone (by omega) (by omega) (Nat.le_refl _)
      rw [h1] at k1
      injection k1 with k3 k4
      subst k3
      refine .inr fun g hg => ?_
      rcases k2.2 with ⟨e, _⟩ | ⟨g', cap, cur, e, hb', _⟩
      · rw [e] at hg; cases hg
      · rw [e] at hg
        obtain rfl : g' = g := by simpa [Value.ownBlock] using hg
        exact hb'
    · by_cases hroom : xs.length + m ≤ cap
      · have hsz : i.size = 1 := hs
        have hfit : xs.length * i.size + (bs.map fun (x : Nat) => Value.int .u8 (x : Int)).length ≤ cur.size := by rw [hsz, hcs, List.length_map]; omega
        have k1 := run_append_room (P := Tryd.prog) w 25 ty 5 i Tryd.underlying25 hi g xs.length cap cur hg a m c (bs.map fun (x : Nat) => Value.int .u8 (x : Int)) (by rw [hsz]; simp [hl]) hcell hone hroom hfit
        rw [h1] at k1
        injection k1 with k2 _
        exact .inl (by rw [k2]; rfl)
      · obtain ⟨v2, w2, k1, k2, _⟩ := run_append_arg_grows (P := Tryd.prog) w 25 ty 5 i (.int .u8 0) 1 1 Tryd.underlying25 hi hz hs hb rfl (by decide) ⟨g, 0, none⟩ xs.length cap (xs.map fun (x : Nat) => Value.int .u8 (x : Int)) (by simp)
          (fun j u hu => World.ownsRow.cells h.owns rfl j u hu) a m c (bs.map fun (x : Nat) => Value.int .u8 (x : Int)) (by simp [hl]) hcell (by omega) hmx (by omega)
        rw [h1] at k1
        injection k1 with k3 k4
        subst k3
        refine .inr fun g hg => ?_
        rcases k2.2 with ⟨e, _⟩ | ⟨g', cap, cur, e, hb', _⟩
        · rw [e] at hg; cases hg
        · rw [e] at hg
          obtain rfl : g' = g := by simpa [Value.ownBlock] using hg
          exact hb'

theorem wpList_appF {w : World} {ops : Array Oper} {rest : List Oper} {o : Oper} {a : Act} {Q : Exit → Act → World → Prop} (hgd : o.guard = none) (s x : Operand)
    (ho : o.op = .call { callee := .builtin .append, args := #[s, x], argTypes := #[25, 25] })
    {B : Nat} {v : Value} {xs : List Nat} (hs : a.eval s = v) (h : Own w B v xs) {p : Option Addr} {m c : Nat} {bs : List Nat} (hx : a.eval x = .slice p m c) (hr : RowIn w .u8 p m c bs) (hn : p = none → c = 0)
    (hmax : xs.length + m ≤ 140737488355328) (hB : B ≤ w.heap.size)
    (hk : ∀ v' w', Own w' B v' (xs ++ bs) → w.grownBy w' v.ownBlock → Moved w v v' → wpList Tryd.prog ops Q rest (a.put o.dst v') w') : wpList Tryd.prog ops Q (o :: rest) a w := by
  obtain ⟨v', w', h1, h2, h3, h4⟩ := run_appF h hr hn hmax hB o.type
  refine wpList_plain hgd fun K hK => ?_
  unfold Oper.wp
  simp [execOp, ho, resolve, invoke, builtin, hs, hx, h1, Result.andThen]
  exact hK _ _ (hk v' w' h2 h3 h4)

theorem whole_take_le (L : List Part) (k : Nat) {P : Part} (hP : L[k]? = some P) : (whole (L.take k)).length + P.bs.length ≤ (whole L).length := by
  have h1 : whole L = whole (L.take (k + 1)) ++ whole (L.drop (k + 1)) := by
    unfold whole
    rw [← List.flatMap_append, List.take_append_drop]
  have h2 : whole (L.take (k + 1)) = whole (L.take k) ++ P.bs := by rw [List.take_add_one, hP]; exact whole_snoc _ _
  rw [h1, h2, List.length_append, List.length_append]
  omega

set_option maxHeartbeats 4000000 in
theorem join_calls (w : World) (p : Option Addr) (n c : Nat) (L : List Part) (hL : PartsIn w p n c L) (hz : Whole0 L) (hmax : (whole L).length ≤ 1000000) :
    Calls Tryd.prog 32 #[.slice p n c] w (GivesOwn (whole L) w) := by
  have HP : Hold (PartsIn w p n c L) := ⟨hL⟩
  have HZ : Hold (Whole0 L) := ⟨hz⟩
  have hpl : Hold (n = L.length) := ⟨hL.len⟩
  have HMx : Hold ((whole L).length ≤ 1000000) := ⟨hmax⟩
  have mp := hL.max
  have mcp := hL.cap
  clear hL hz hmax
  have HO0 : Hold (Own (w.alloc (.cells #[] 5)) w.heap.size (.slice (some ⟨w.heap.size, 0, none⟩) 0 0) []) := ⟨Own.lit w [] (by decide)⟩
  have HB0 : Hold (Below w.heap.size w (w.alloc (.cells #[] 5))) := ⟨(Below.refl _ _).alloc (Nat.le_refl _) _⟩
  go_enter Tryd.func32, Tryd.ntmps32
  go_wp2
  go_loopw [3, 9] (fun x i wr => ∃ (k : Nat) (v : Value), k ≤ n ∧ i = .int .i64 k ∧ v = x ∧ Hold (Below w.heap.size w wr) ∧ Hold (Own wr w.heap.size v (whole (L.take k)))) (fun _ i _ => n - (intOf i).toNat)
  case atStart => exact ⟨0, _, by omega, rfl, rfl, HB0, HO0⟩
  case round =>
    obtain ⟨k, v, hk, rfl, rfl, HB, HO⟩ := hrel
    have hzr := HB.out.size
    by_cases hkn : k < n
    · obtain ⟨b, off, rfl, hb, hc⟩ := HP.out.cells (by omega)
      obtain ⟨P, hP⟩ : ∃ P, L[k]? = some P := ⟨_, List.getElem?_eq_getElem (by have := hpl.out; omega)⟩
      have HOK : Hold (PartOk wr P) := ⟨(HP.out.ok k P hP).below HB.out⟩
      have HZP : Hold (P.p = none → P.c = 0) := ⟨HZ.out P (List.mem_of_getElem? hP)⟩
      have hck : wr.cell? ⟨b, off + k, none⟩ = some (.slice P.p P.n P.c) := by
        rw [(bcell HB.out).1 _ _ hb]; exact hc k P hP
      have htk : Hold (whole (L.take (k + 1)) = whole (L.take k) ++ P.bs) := ⟨by rw [List.take_add_one, hP]; exact whole_snoc _ _⟩
      have hlen : Hold ((whole (L.take k)).length + P.n ≤ 140737488355328) := ⟨by
        have h1 := whole_take_le L k hP
        have h2 := HMx.out
        have h3 := HOK.out.row.len
        omega⟩
      clear hc hP
      obtain ⟨qp, qn, qc, qb⟩ := P
      dsimp only at *
      go_wp2_with (at_builtin; refine wpList_app rfl _ _ rfl rfl HO.out rfl HOK.out.row HZP.out hlen.out hzr ?_; intro v1 w3 ho1 hg1; refine Paused.out ?_)
      refine ⟨?_⟩
      rw [← htk.out] at ho1
      have HB3 : Hold _ := ⟨HB.out.trans (grown_below hg1 hzr HO.out.ge)⟩
      have HO1 : Hold _ := ⟨ho1⟩
      clear ho1 hg1
      go_wp2
      go_roundw
      case rel => exact ⟨k + 1, _, by omega, by go_num, rfl, HB3, HO1⟩
      case measure => simp [intOf]; omega
    · obtain rfl : k = n := by omega
      have HF : Hold (Own wr w.heap.size v (whole L)) := ⟨by
        have h := HO.out
        rw [List.take_of_length_le (by have := hpl.out; omega)] at h
        exact h⟩
      go_wp2
      go_ret
      exact ⟨_, rfl, OwnIs.mk HF.out, HB.out⟩
end Go.Proofs.YtnpobaaaoelalaaDoor
