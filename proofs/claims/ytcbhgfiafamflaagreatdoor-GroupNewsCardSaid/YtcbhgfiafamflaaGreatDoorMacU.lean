/- The two sums under a key. -/
import Derived.Laws.OwnMore
import Derived.ArgAppend
import Derived.Laws.CopyOwn
import Derived.Tactics
import Derived.Test.YtcbhgfiafamflaaGreatDoorGrpM
import Derived.Laws.Rows
set_option maxRecDepth 1000000
set_option maxHeartbeats 16000000
namespace Go.Proofs.YtcbhgfiafamflaaGreatDoor
open Go Go.RowKit
structure Own (w : World) (B : Nat) (v : Value) (bs : List Nat) : Prop where
 owns : w.ownsRow B 5 1 v bs.length (bs.map fun (x : Nat) => Value.int .u8 (x : Int))
theorem Own.elim {w : World} {B : Nat} {v : Value} {bs : List Nat} (h : Own w B v bs) :
  ∃ p c, v = .slice p bs.length c ∧ RowIn w .u8 p bs.length c bs ∧ New B p ∧ (p = none → c = 0) ∧ (∀ q, p = some q → q.block < w.heap.size) := by
 obtain ⟨h1, h2⟩ := h.owns
 rcases h2 with ⟨rfl, h0⟩ | ⟨g, cap, cur, rfl, hb, hg, hnc, hcm, hcs, ht⟩
 ·refine ⟨none, 0, by rw [h0], ⟨rfl, by omega, by omega, fun h => absurd h (by omega)⟩, New.none _, fun _ => rfl, fun q hq => (by cases hq)⟩
 ·have hlt : g < w.heap.size := (Array.getElem?_eq_some_iff.1 hg).1
  have hcm' : cap ≤ 9223372036854775807 := by simpa [maxLen] using hcm
  refine ⟨some ⟨g, 0, none⟩, cap, rfl, ⟨rfl, hnc, hcm', fun _ => ⟨rfl, hnc, hcm', .inr ⟨g, 0, rfl, hlt, fun i x hx => ?_⟩⟩⟩, fun q hq => (by cases hq; exact hb), fun h => (by cases h), fun q hq => (by cases hq; exact hlt)⟩
  have hi : i < bs.length := (List.getElem?_eq_some_iff.1 hx).1
  have hx2 : (bs.map fun (x : Nat) => Value.int .u8 (x : Int))[i]? = some (.int .u8 (x : Int)) := by rw [List.getElem?_map, hx]; rfl
  rw [← ht, List.getElem?_take] at hx2
  split at hx2
  ·unfold World.cell?
   dsimp only
   rw [hg]
   simp only [Nat.zero_add]
   rw [Array.getElem?_toList] at hx2
   exact hx2
  ·cases hx2
theorem Own.below {w w' : World} {B C : Nat} {v : Value} {bs : List Nat} (h : Own w B v bs) (hb : Below C w w') (hc : ∀ g, v.ownBlock = some g → g < C) : Own w' B v bs := by
 refine ⟨⟨h.owns.1, ?_⟩⟩
 rcases h.owns.2 with h2 | ⟨g, cap, cur, rfl, hbg, hg, h3⟩
 ·exact .inl h2
 ·refine .inr ⟨g, cap, cur, rfl, hbg, ?_, h3⟩
  rw [hb.block g (hc g rfl)]; exact hg
theorem Own.lt {w : World} {B : Nat} {v : Value} {bs : List Nat} (h : Own w B v bs) : ∀ g, v.ownBlock = some g → g < w.heap.size := by
 intro g hg
 rcases h.owns.2 with ⟨rfl, _⟩ | ⟨g', cap, cur, rfl, hbg, hg', h3⟩
 ·cases hg
 ·obtain rfl : g' = g := by simpa [Value.ownBlock] using hg
  exact (Array.getElem?_eq_some_iff.1 hg').1
theorem Own.ge {w : World} {B : Nat} {v : Value} {bs : List Nat} (h : Own w B v bs) : ∀ g, v.ownBlock = some g → B ≤ g := by
 intro g hg
 rcases h.owns.2 with ⟨rfl, _⟩ | ⟨g', cap, cur, rfl, hbg, hg', h3⟩
 ·cases hg
 ·obtain rfl : g' = g := by simpa [Value.ownBlock] using hg
  exact hbg
theorem Own.belowS {w w' : World} {B : Nat} {v : Value} {bs : List Nat} (h : Own w B v bs) (hb : Below w.heap.size w w') : Own w' B v bs := h.below hb h.lt
theorem Own.mono {w : World} {B B' : Nat} {v : Value} {bs : List Nat} (h : Own w B v bs) (hb : B' ≤ B) : Own w B' v bs := by
 refine ⟨⟨h.owns.1, ?_⟩⟩
 rcases h.owns.2 with h2 | ⟨g, cap, cur, h1, hbg, h3⟩
 ·exact .inl h2
 ·exact .inr ⟨g, cap, cur, h1, by omega, h3⟩
theorem grown_below {w w' : World} {g : Option Nat} (h : w.grownBy w' g) {B : Nat} (hB : B ≤ w.heap.size) (hg : ∀ b, g = some b → B ≤ b) : Below B w w' :=
 ⟨h.os, h.tape, h.output, h.size, fun k hk => h.block k (by omega) (fun e => by have := hg k e.symm; omega)⟩
theorem Own.lit (w : World) (bs : List Nat) (hm : bs.length ≤ 9223372036854775807) : Own (w.alloc (.cells (bs.map fun (x : Nat) => Value.int .u8 (x : Int)).toArray 5)) w.heap.size (.slice (some ⟨w.heap.size, 0, none⟩) bs.length bs.length) bs := by
 refine ⟨⟨by simp, .inr ⟨w.heap.size, bs.length, _, rfl, Nat.le_refl _, heap_alloc_new w _, Nat.le_refl _, by simpa [maxLen] using hm, by simp, ?_⟩⟩⟩
 rw [List.take_of_length_le (by simp)]
theorem run_app {w : World} {B : Nat} {v : Value} {xs : List Nat} (h : Own w B v xs) {p : Option Addr} {m c : Nat} {bs : List Nat} (hr : RowIn w .u8 p m c bs) (hn : p = none → c = 0)
  (hmax : xs.length + m ≤ 140737488355328) (hB : B ≤ w.heap.size) (ty : TypeId) :
  ∃ v' w', (Builtin.append_ #[23, 23] ty #[v, .slice p m c]).run Tryz.prog w = .ok v' w' ∧ Own w' B v' (xs ++ bs) ∧ w.grownBy w' v.ownBlock := by
 obtain ⟨i, hi, hz, hs, hb⟩ := info_parts Tryz.info_u8
 have hl := hr.len
 cases p with
 | none =>
  obtain rfl := hn rfl
  have hc := hr.cap
  obtain rfl : m = 0 := by omega
  have hbs : bs = [] := List.eq_nil_of_length_eq_zero hl.symm
  refine ⟨v, w, run_append_owned_none (P := Tryz.prog) w B 23 ty 5 i 1 Tryz.underlying23 hi v xs.length _ h.owns, ?_, ⟨rfl, rfl, rfl, Nat.le_refl _, fun _ _ _ => rfl⟩⟩
  rw [hbs, List.append_nil]; exact h
 | some a =>
  have hmx : xs.length + m ≤ maxLen := by simp only [maxLen]; omega
  obtain ⟨v', w', h1, h2, h3, _⟩ := run_append_own (P := Tryz.prog) w B 23 ty 5 i (.int .u8 0) 1 1 Tryz.underlying23 hi hz hs hb (by rfl) (by decide) v xs.length _ h.owns a m c (bs.map fun (x : Nat) => Value.int .u8 (x : Int)) (by simp [hl])
   (fun j u hu => by
    rw [List.getElem?_map] at hu
    obtain ⟨x, hx, rfl⟩ := Option.map_eq_some_iff.1 hu
    have h0 : 0 < m := by have := (List.getElem?_eq_some_iff.1 hx).1; omega
    obtain ⟨b, off, e, h2, h3⟩ := (hr.row h0).pos h0
    cases e
    rw [add_plain]
    exact h3 j x hx)
   (fun u hu => by obtain ⟨x, _, rfl⟩ := List.mem_map.1 hu; rfl) hmx (by omega) hB
  refine ⟨v', w', h1, ⟨?_⟩, h3⟩
  rw [← List.map_append, hl, ← List.length_append] at h2
  exact h2
theorem wpList_app {w : World} {ops : Array Oper} {rest : List Oper} {o : Oper} {a : Act} {Q : Exit → Act → World → Prop} (hgd : o.guard = none) (s x : Operand)
  (ho : o.op = .call { callee := .builtin .append, args := #[s, x], argTypes := #[23, 23] })
  {B : Nat} {v : Value} {xs : List Nat} (hs : a.eval s = v) (h : Own w B v xs) {p : Option Addr} {m c : Nat} {bs : List Nat} (hx : a.eval x = .slice p m c) (hr : RowIn w .u8 p m c bs) (hn : p = none → c = 0)
  (hmax : xs.length + m ≤ 140737488355328) (hB : B ≤ w.heap.size)
  (hk : ∀ v' w', Own w' B v' (xs ++ bs) → w.grownBy w' v.ownBlock → wpList Tryz.prog ops Q rest (a.put o.dst v') w') : wpList Tryz.prog ops Q (o :: rest) a w := by
 obtain ⟨v', w', h1, h2, h3⟩ := run_app h hr hn hmax hB o.type
 refine wpList_plain hgd fun K hK => ?_
 unfold Oper.wp
 simp [execOp, ho, resolve, invoke, builtin, hs, hx, h1, Result.andThen]
 exact hK _ _ (hk v' w' h2 h3)
theorem run_app0 {w : World} {g B : Nat} (hg : w.heap[g]? = some (.cells #[] 5 (0, 0))) (hBg : B ≤ g) {p : Option Addr} {m c : Nat} {bs : List Nat} (hr : RowIn w .u8 p m c bs) (hn : p = none → c = 0)
  (hmax : m ≤ 140737488355328) (ty : TypeId) :
  ∃ v' w', (Builtin.append_ #[23, 23] ty #[.slice (some ⟨g, 0, none⟩) 0 0, .slice p m c]).run Tryz.prog w = .ok v' w' ∧ Own w' B v' bs ∧ Below w.heap.size w w' := by
 obtain ⟨i, hi, hz, hs, hb⟩ := info_parts Tryz.info_u8
 have hl := hr.len
 have hlt : g < w.heap.size := (Array.getElem?_eq_some_iff.1 hg).1
 have own0 : Own w B (.slice (some ⟨g, 0, none⟩) 0 0) [] := ⟨rfl, .inr ⟨g, 0, #[], rfl, hBg, hg, Nat.le_refl _, by simp [maxLen], rfl, rfl⟩⟩
 cases p with
 | none =>
  obtain rfl := hn rfl
  have hc := hr.cap
  obtain rfl : m = 0 := by omega
  have hbs : bs = [] := List.eq_nil_of_length_eq_zero hl.symm
  refine ⟨_, w, run_append_owned_none (P := Tryz.prog) w B 23 ty 5 i 1 Tryz.underlying23 hi _ 0 [] own0.owns, ?_, Below.refl _ _⟩
  rw [hbs]; exact own0
 | some a =>
  rcases Nat.eq_zero_or_pos m with rfl | h0
  ·have hbs : bs = [] := List.eq_nil_of_length_eq_zero hl.symm
   have h1 : (Builtin.append_ #[23, 23] ty #[.slice (some ⟨g, 0, none⟩) 0 0, .slice (some a) 0 c]).run Tryz.prog w = .ok (.slice (some ⟨g, 0, none⟩) 0 0) (w.setRow g #[]) := by
    have h := run_append_room (P := Tryz.prog) w 23 ty 5 i Tryz.underlying23 hi g 0 0 #[] hg a 0 c [] (by simp) (fun j u hu => by simp at hu) (fun u hu => by simp at hu) (Nat.le_refl _) (by simp)
    simpa using h
   have hset : (w.setRow g #[]).heap[g]? = some (.cells #[] 5 (0, 0)) := setRow_heap w g #[] #[] _ _ hg
   refine ⟨_, _, h1, ?_, ⟨rfl, rfl, rfl, by simp [World.setRow], fun k hk => ?_⟩⟩
   ·rw [hbs]
    exact ⟨rfl, .inr ⟨g, 0, #[], rfl, hBg, hset, Nat.le_refl _, by simp [maxLen], rfl, rfl⟩⟩
   ·rcases Nat.lt_trichotomy k g with h | rfl | h
    ·exact setRow_other w g k _ (by omega)
    ·exact hset.trans hg.symm
    ·exact setRow_other w g k _ (by omega)
  ·obtain ⟨b, off, e, h2, h3⟩ := (hr.row h0).pos h0
   cases e
   obtain ⟨v', w', h1, h4, h5⟩ := run_append_arg_grows (P := Tryz.prog) w 23 ty 5 i (.int .u8 0) 1 1 Tryz.underlying23 hi hz hs hb rfl (by decide) ⟨g, 0, none⟩ 0 0 [] rfl (fun j u hu => by simp at hu)
    ⟨b, off, none⟩ m c (bs.map fun (x : Nat) => Value.int .u8 (x : Int)) (by simp [hl])
    (fun j u hu => by
     rw [List.getElem?_map] at hu
     obtain ⟨x, hx, rfl⟩ := Option.map_eq_some_iff.1 hu
     rw [add_plain]
     exact h3 j x hx) (by omega) (by simp only [maxLen]; omega) (by omega)
   refine ⟨v', w', h1, ?_, ⟨h5.os, h5.tape, h5.output, h5.size, fun k hk => h5.block k hk (by simp)⟩⟩
   have h6 : Own w' w.heap.size v' bs := ⟨by
    rw [Nat.zero_add, List.nil_append, hl] at h4; exact h4⟩
   exact h6.mono (by omega)
inductive OwnIs (lo : Nat) (bs : List Nat) : Value → World → Prop where
 | of (p : Option Addr) (c : Nat) (w : World) (h : RowIn w .u8 p bs.length c bs) (hn : New lo p) (hz : p = none → c = 0) (hp : ∀ q, p = some q → q.block < w.heap.size) : OwnIs lo bs (.slice p bs.length c) w
theorem OwnIs.mk {w : World} {B : Nat} {v : Value} {bs : List Nat} (h : Own w B v bs) : OwnIs B bs v w := by
 obtain ⟨p, c, rfl, h1, h2, h3, h4⟩ := h.elim
 exact .of p c w h1 h2 h3 h4
theorem OwnIs.elim {lo : Nat} {bs : List Nat} {v : Value} {w : World} (h : OwnIs lo bs v w) {C : Prop} (k : ∀ p c, v = .slice p bs.length c → RowIn w .u8 p bs.length c bs → New lo p → (p = none → c = 0) → C) : C := by
 cases h with
 | of p c _ h hn hz hp => exact k p c rfl h hn hz
theorem OwnIs.mono {lo lo' : Nat} {bs : List Nat} {v : Value} {w : World} (h : OwnIs lo bs v w) (hl : lo' ≤ lo) : OwnIs lo' bs v w := by
 cases h with
 | of p c _ h hn hz hp => exact .of p c w h (hn.mono hl) hz hp
def GivesOwn (bs : List Nat) (w : World) (e : Ending) (w' : World) : Prop := ∃ v, e = .returned v ∧ OwnIs w.heap.size bs v w' ∧ Below w.heap.size w w'
theorem lit_row (w : World) (bs : List Nat) (hm : bs.length ≤ 9223372036854775807) : RowIn (w.alloc (.cells (bs.map fun (x : Nat) => Value.int .u8 (x : Int)).toArray 5)) .u8 (some ⟨w.heap.size, 0, none⟩) bs.length bs.length bs := by
 have h := Blk.row (w := w.alloc (.cells (bs.map fun (x : Nat) => Value.int .u8 (x : Int)).toArray 5)) (g := w.heap.size) (e := 5) (k := .u8) (xs := bs) (heap_alloc_new w _) (n := bs.length) (c := bs.length) rfl (Nat.le_refl _) hm
 exact ⟨rfl, Nat.le_refl _, hm, fun _ => h⟩
end Go.Proofs.YtcbhgfiafamflaaGreatDoor
namespace Go.Proofs.YtcbhgfiafamflaaGreatDoor
open Go Go.RowKit Go.Proofs.YtcbhgfiafamflaaGreatDoor.Flow
theorem slice_keyBlock (w : World) (b off : Nat) :
  (Instr.sliceAt 190 (.pointer (some ⟨b, off, none⟩)) none none none).run Tryz.prog w = .ok (.slice (some ⟨b, off, none⟩) 64 64) w := by
 have hlen : Tryz.prog.arrayLen 190 = 64 := by kernel_rfl
 rw [run_sliceAt_array_all w 190 ⟨b, off, none⟩ Tryz.underlying190, hlen]
 have hs : (sizeOf (Tryz.prog.elem 190)).run Tryz.prog w = .ok 1 w := by
  have : Tryz.prog.elem 190 = 5 := by kernel_rfl
  rw [this]
  simp [go_sem]
 rw [hs]
 simp [slicedAt, Addr.add]
theorem infoKey (b : List Nat) (h : b.length = 64) : (Tryz.prog.info? 190).map (·.size) = some (b.map fun (x : Nat) => Value.int .u8 x).toArray.size := by
 rw [show (b.map fun (x : Nat) => Value.int .u8 x).toArray.size = 64 by simp [h]]; kernel_rfl
theorem splice_noughts {kk : List Nat} (_h : kk.length ≤ 64) :
  splice ((List.replicate 64 0).map fun (x : Nat) => Value.int .u8 x) 0 (kk.map fun (x : Nat) => Value.int .u8 x) = (kk ++ List.replicate (64 - kk.length) 0).map fun (x : Nat) => Value.int .u8 x := by
 unfold splice
 rw [List.take_zero, List.nil_append, List.length_map, Nat.zero_add, ← List.map_drop, List.drop_replicate, List.map_append]
theorem rowin_src {w : World} {p : Option Addr} {n c : Nat} {bs : List Nat} (h : RowIn w .u8 p n c bs) (hn : 0 < n) : ∃ ad, p = some ad ∧ ad.block < w.heap.size ∧ ∀ (j : Nat) (v : Value), (bs.map fun (x : Nat) => Value.int .u8 (x : Int))[j]? = some v → w.cell? (ad.add j) = some v := by
 obtain ⟨b, off, rfl, hb, h3⟩ := (h.row hn).pos hn
 refine ⟨_, rfl, hb, fun j v hv => ?_⟩
 rw [List.getElem?_map] at hv
 obtain ⟨x, hx, rfl⟩ := Option.map_eq_some_iff.1 hv
 rw [add_plain]
 exact h3 j x hx
def box2 (w : World) : World := (w.alloc (.cells (zeros .u8 64) 190)).alloc (.cells (zeros .u8 64) 190)
theorem box2_below (w : World) : Below w.heap.size w (box2 w) := ((Below.refl _ _).alloc (Nat.le_refl _) _).alloc (by simp) _
theorem box2_new (w : World) : Blk (box2 w) (w.heap.size + 1) 190 .u8 (List.replicate 64 0) := by
 have := Blk.zeros (w.alloc (.cells (zeros .u8 64) 190)) 190 .u8 64
 rw [show (w.alloc (.cells (zeros .u8 64) 190)).heap.size = w.heap.size + 1 by simp] at this
 exact this
theorem box2_old (w : World) : Blk (box2 w) w.heap.size 190 .u8 (List.replicate 64 0) := (Blk.zeros w 190 .u8 64).alloc _
theorem copy_src {w : World} {p : Option Addr} {n c : Nat} {key : List Nat} (hr : RowIn w .u8 p n c key) :
  0 < (key.map fun (x : Nat) => Value.int .u8 (x : Int)).length → ∃ ad, p = some ad ∧ ∀ (j : Nat) (v : Value), (key.map fun (x : Nat) => Value.int .u8 (x : Int))[j]? = some v → w.cell? (ad.add j) = some v := fun h => by
 obtain ⟨ad, h1, _, h2⟩ := rowin_src hr (by have := hr.len; simpa [this] using h)
 exact ⟨ad, h1, h2⟩
theorem u8_one (key : List Nat) : ∀ v ∈ (key.map fun (x : Nat) => Value.int .u8 (x : Int)), v.oneCell' = true := fun v hv => by
 obtain ⟨x, _, rfl⟩ := List.mem_map.1 hv
 rfl
theorem block_calls (w : World) (p : Option Addr) (n c : Nat) (key : List Nat) (hT : Tabs w) (hr : RowIn w .u8 p n c key) (h8 : Bytes8 key) :
  Calls Tryz.prog 160 #[.slice p n c] w fun e w' => e = .returned (.agg ((kblock key).map fun (x : Nat) => Value.int .u8 (x : Int)).toArray) ∧ Below w.heap.size w w' := by
 have hm := hr.max
 have hcap := hr.cap
 have hsl := slice_keyBlock
 have HI := Lib.hid (infoKey (kblock key) (kblock_length key))
 have H1 := Lib.hid (ints_one .u8 (kblock key))
 have HS : Hid (((List.replicate 64 0).map fun (x : Nat) => Value.int .u8 x).toArray.size = ((kblock key).map fun (x : Nat) => Value.int .u8 x).toArray.size) := Lib.hid (by simp [kblock_length])
 have HSp : Hid (splice ((List.replicate 64 0).map fun (x : Nat) => Value.int .u8 x) 0 ((kkey key).map fun (x : Nat) => Value.int .u8 x) = (kblock key).map fun (x : Nat) => Value.int .u8 x) := Lib.hid (splice_noughts (kk := kkey key) (kkey_length key))
 have HG := Lib.hid (box2_new w)
 have HW := Lib.hid (box2_below w)
 have HO := Lib.hid (box2_old w)
 obtain ⟨Z, hZ⟩ : ∃ Z, ((List.replicate 64 0).map fun (x : Nat) => Value.int .u8 x) = Z := ⟨_, rfl⟩
 have HZ := Lib.hid hZ
 have HFit : Hid (0 + ((kkey key).map fun (x : Nat) => Value.int .u8 (x : Int)).length ≤ ((List.replicate 64 0).map fun (x : Nat) => Value.int .u8 (x : Int)).length) := Lib.hid (by have := kkey_length key; simp; omega)
 simp only [Blk, hZ] at HG HSp HFit HS HO
 clear hZ
 by_cases hn : n ≤ 64
 ·have HKK : Hid (kkey key = key) := by
   show kkey key = _
   unfold kkey
   rw [if_neg (by have := hr.len; omega)]
  rw [HKK.out] at HSp HFit
  have HSrc : Hold _ := ⟨copy_src (hr.below (box2_below w))⟩
  have HN : Hid ((key.map fun (x : Nat) => Value.int .u8 (x : Int)).length = Nat.min n 64) := by
   show List.length _ = _
   rw [List.length_map, ← hr.len]
   exact (Nat.min_eq_left hn).symm
  generalize kblock key = B at *
  go_enter Tryz.func160, Tryz.ntmps160
  go_wp2_with (refine wpList_copy_splice rfl (.tmp 10) (.tmp 11) 23 23 rfl 5 Tryz.underlying23 (by kernel_rfl) (some ⟨w.heap.size + 1, 0, none⟩) p 64 64 n c rfl rfl (w.heap.size + 1) 0 Z 190 HG.out (key.map fun (x : Nat) => Value.int .u8 (x : Int)) HN.out (fun h => ⟨rfl, HSrc.out h⟩) HFit.out (u8_one key) (w.heap.size + 1) (box2 w) (Below.refl _ _) (Nat.le_refl _) ?_)
  intro w2 hg2 hb2
  have hg3 : Hid (Blk w2 (w.heap.size + 1) 190 .u8 B) := by
   show w2.heap[_]? = _
   rw [hg2.out, HSp.out]
  have ho3 : Hid (w2.heap[w.heap.size]? = some (.cells Z.toArray 190 (0, 0))) := (hb2.block w.heap.size (by omega)).trans HO.out
  have hb3 : Hid (Below w.heap.size w w2) := HW.out.trans (hb2.mono (by omega))
  clear hg2 hb2 HSp HFit HSrc HN HO HG HW
  go_wp2_with (first | (refine wpList_load_row rfl 190 _ rfl (w.heap.size + 1) rfl 190 (B.map fun (x : Nat) => Value.int .u8 x).toArray (0, 0) _ hg3.out Tryz.underlying190 rfl HI.out ?_) | (refine wpList_store_row rfl 190 _ _ rfl w.heap.size (B.map fun (x : Nat) => Value.int .u8 x).toArray rfl rfl 190 Z.toArray ho3.out HI.out HS.out H1.out ?_))
  have hend := setRow_heap w2 w.heap.size Z.toArray (B.map fun (x : Nat) => Value.int .u8 x).toArray 190 (0, 0) ho3.out
  exact bodyPost_ret (v := .agg (B.map fun (x : Nat) => Value.int .u8 x).toArray) (results_cell_row Tryz.results160 _ _ w.heap.size 190 _ (0, 0) _ rfl hend Tryz.underlying190 rfl HI.out) rfl ⟨rfl, below_setRow hb3.out (Nat.le_refl _) _⟩
 ·have HKK : Hid (kkey key = sha key) := by
   show kkey key = _
   unfold kkey
   rw [if_pos (by have := hr.len; omega)]
  rw [HKK.out] at HSp HFit
  have hz : (box2 w).heap.size = w.heap.size + 1 + 1 := by simp [box2]
  have hP := parts1 (box2 w) ⟨p, n, c, key⟩ ⟨hr.below (box2_below w), h8⟩
  rw [hz] at hP
  have HP := Lib.hid hP
  clear hP
  have HT2 := Lib.hid (hT.below (box2_below w) hT.size)
  have HN : Hid (((sha key).map fun (x : Nat) => Value.int .u8 (x : Int)).length = Nat.min 32 64) := by
   show List.length _ = _
   rw [List.length_map, sha_length]; rfl
  generalize kblock key = B at *
  have HW1 : Hid (Below (box2 w).heap.size (box2 w) ((box2 w).alloc (.cells #[.slice p n c] 23))) := Lib.hid ((Below.refl _ _).alloc (Nat.le_refl _) _)
  go_enter Tryz.func160, Tryz.ntmps160
  go_wp2_with fail
  refine calls_at (w1 := (box2 w).alloc (.cells #[.slice p n c] 23)) (by kernel_rfl) ?_
  refine (sum_calls ((box2 w).alloc (.cells #[.slice p n c] 23)) (some ⟨w.heap.size + 1 + 1, 0, none⟩) 1 1 [⟨p, n, c, key⟩] (HT2.out.below HW1.out HT2.out.size) HP.out).mono ?_
  rintro e w1 ⟨q, rfl, hq, hb1, hk1⟩
  rw [whole_one] at hk1
  dsimp only at hk1
  have hb2 : Below (box2 w).heap.size (box2 w) w1 := HW1.out.trans (hb1.mono HW1.out.size)
  have hrow : RowIn w1 .u8 (some ⟨q, 0, none⟩) 32 32 (sha key) := ⟨(sha_length _).symm, Nat.le_refl _, by omega, fun _ => hk1.row (sha_length _).symm (Nat.le_refl _) (by omega)⟩
  have HSrc : Hold _ := ⟨copy_src hrow⟩
  have HG1 : Hid (w1.heap[w.heap.size + 1]? = some (.cells Z.toArray 190 (0, 0))) := (hb2.block (w.heap.size + 1) (by omega)).trans HG.out
  have HO1 : Hid (w1.heap[w.heap.size]? = some (.cells Z.toArray 190 (0, 0))) := (hb2.block w.heap.size (by omega)).trans HO.out
  have HW2 : Hid (Below w.heap.size w w1) := HW.out.trans (hb2.mono (by omega))
  clear hrow hk1 hb1 hb2 HG HO HW HP HT2 HW1 hq
  go_wp2_with (refine wpList_copy_splice rfl (.tmp 10) (.tmp 11) 23 23 rfl 5 Tryz.underlying23 (by kernel_rfl) (some ⟨w.heap.size + 1, 0, none⟩) (some ⟨q, 0, none⟩) 64 64 32 32 rfl rfl (w.heap.size + 1) 0 Z 190 HG1.out ((sha key).map fun (x : Nat) => Value.int .u8 (x : Int)) HN.out (fun h => ⟨rfl, HSrc.out h⟩) HFit.out (u8_one _) (w.heap.size + 1) w1 (Below.refl _ _) (Nat.le_refl _) ?_)
  intro w2 hg2 hb2
  have hg3 : Hid (Blk w2 (w.heap.size + 1) 190 .u8 B) := by
   show w2.heap[_]? = _
   rw [hg2.out, HSp.out]
  have ho3 : Hid (w2.heap[w.heap.size]? = some (.cells Z.toArray 190 (0, 0))) := (hb2.block w.heap.size (by omega)).trans HO1.out
  have hb3 : Hid (Below w.heap.size w w2) := HW2.out.trans (hb2.mono (by omega))
  clear hg2 hb2 HSp HFit HSrc HN HO1 HG1 HW2
  go_wp2_with (first | (refine wpList_load_row rfl 190 _ rfl (w.heap.size + 1) rfl 190 (B.map fun (x : Nat) => Value.int .u8 x).toArray (0, 0) _ hg3.out Tryz.underlying190 rfl HI.out ?_) | (refine wpList_store_row rfl 190 _ _ rfl w.heap.size (B.map fun (x : Nat) => Value.int .u8 x).toArray rfl rfl 190 Z.toArray ho3.out HI.out HS.out H1.out ?_))
  have hend := setRow_heap w2 w.heap.size Z.toArray (B.map fun (x : Nat) => Value.int .u8 x).toArray 190 (0, 0) ho3.out
  exact bodyPost_ret (v := .agg (B.map fun (x : Nat) => Value.int .u8 x).toArray) (results_cell_row Tryz.results160 _ _ w.heap.size 190 _ (0, 0) _ rfl hend Tryz.underlying190 rfl HI.out) rfl ⟨rfl, below_setRow hb3.out (Nat.le_refl _) _⟩
end Go.Proofs.YtcbhgfiafamflaaGreatDoor
namespace Go.Proofs.YtcbhgfiafamflaaGreatDoor
open Go Go.RowKit Go.Proofs.YtcbhgfiafamflaaGreatDoor.Flow
def mpart (b : List Nat) (x k : Nat) : List Nat := (masked b x).take k ++ b.drop k
theorem mpart_zero (b : List Nat) (x : Nat) : mpart b x 0 = b := by simp [mpart]
theorem mpart_all {b : List Nat} (x : Nat) (h : b.length = 64) : mpart b x 64 = masked b x := by
 unfold mpart
 rw [List.take_of_length_le (by rw [masked_length]; omega), List.drop_of_length_le (by omega), List.append_nil]
theorem mpart_get {b : List Nat} (x : Nat) {k : Nat} (h : b.length = 64) (hk : k < 64) : (mpart b x k)[k]? = some (b.getD k 0) := by
 unfold mpart
 have hl : ((masked b x).take k).length = k := by simp [masked_length]; omega
 rw [List.getElem?_append_right (by omega), hl, Nat.sub_self, List.getElem?_drop, Nat.add_zero, List.getD_eq_getElem?_getD]
 simp [show k < b.length by omega]
theorem mpart_set {b : List Nat} (x : Nat) {k : Nat} (h : b.length = 64) (hk : k < 64) : (mpart b x k).set k (b.getD k 0 ^^^ x) = mpart b x (k + 1) := by
 unfold mpart
 have hl : ((masked b x).take k).length = k := by simp [masked_length]; omega
 have e1 : (masked b x)[k]? = some (b.getD k 0 ^^^ x) := by
  unfold masked
  rw [List.getElem?_map, List.getD_eq_getElem?_getD, List.getElem?_eq_getElem (by omega)]; rfl
 rw [List.set_append_right _ _ (by omega), hl, Nat.sub_self, List.take_add_one, e1, List.drop_eq_getElem_cons (show k < b.length by omega), List.set_cons_zero]
 simp
theorem masked_calls (w : World) (b : List Nat) (x : Nat) (hT : Tabs w) (hb : b.length = 64) (h8 : Bytes8 b) (hx : x < 256) :
  Calls Tryz.prog 161 #[.agg (b.map fun (x : Nat) => Value.int .u8 (x : Int)).toArray, .int .u8 x] w (GivesHash (masked b x) w) := by
 have HBl : Hold (b.length = 64) := ⟨hb⟩
 have HB8 : Hold (Bytes8 b) := ⟨h8⟩
 have hi64 : Hold ((Tryz.prog.info? 190).map (·.size) = some (b.map fun (x : Nat) => Value.int .u8 x).toArray.size) := ⟨infoKey b hb⟩
 have hsl := slice_keyBlock
 have HT : Hold (Tabs w) := ⟨hT⟩
 have H0 : Hold (Blk (w.alloc (.cells (b.map fun (x : Nat) => Value.int .u8 x).toArray 190)) w.heap.size 190 .u8 (mpart b x 0)) := ⟨by rw [mpart_zero]; exact heap_alloc_new w _⟩
 clear hb h8 hT
 go_enter Tryz.func161, Tryz.ntmps161
 go_wp2
 go_loopw [7] (fun i wr => ∃ k : Nat, k ≤ 64 ∧ i = .int .i64 k ∧ w.heap.size < wr.heap.size ∧ Below w.heap.size w wr ∧ Blk wr w.heap.size 190 .u8 (mpart b x k)) (fun i _ => 64 - (intOf i).toNat)
 case atStart => exact ⟨0, by omega, rfl, by simp, (Below.refl _ _).alloc (Nat.le_refl _) _, H0.out⟩
 case round =>
  obtain ⟨k, hk, rfl, hsz, hbel, hblk⟩ := hrel
  by_cases hk64 : k < 64
  ·have e0 := hblk.cell (mpart_get x HBl.out hk64)
   have e1 := hblk.free k
   have hset : Hold _ := ⟨mpart_set x HBl.out hk64⟩
   have hbk := HB8.out.get k
   have hxor := u8_xor_nat (b.getD k 0) x hbk hx
   generalize b.getD k 0 = y at *
   go_wp2
   go_roundw
   case rel =>
    refine ⟨k + 1, by omega, by go_num, by simpa using hsz, hbel.setCell (by simp) _, ?_⟩
    rw [← hset.out]
    exact hblk.set k _
   case measure => simp [intOf]; omega
  ·obtain rfl : k = 64 := by omega
   have hl64 : (mpart b x 64).length = 64 := by rw [mpart_all x HBl.out, masked_length]; exact HBl.out
   have h8b : Bytes8 (masked b x) := masked_bytes HB8.out hx
   rw [mpart_all x HBl.out] at hblk hl64
   have HBk : Hold (Blk wr w.heap.size 190 .u8 (masked b x)) := ⟨hblk⟩
   have hTr := HT.out.below hbel HT.out.size
   have hz := hbel.size
   clear hblk
   go_wp2_with fail
   refine (shanew_calls wr hTr).mono ?_
   rintro e w1 ⟨g, rfl, hg, hb1, hh1⟩
   have hz1 := hb1.size
   have hb01 := hbel.trans (hb1.mono hz)
   have hT1 := hTr.below hb1 hTr.size
   have hblk1 := HBk.out.below hb1 hsz
   have hrow : RowIn w1 .u8 (some ⟨w.heap.size, 0, none⟩) 64 64 (masked b x) := ⟨hl64.symm, Nat.le_refl _, by omega, fun _ => hblk1.row hl64.symm (Nat.le_refl _) (by omega)⟩
   have hg2 : (max (0 : Nat) 1 + 1) ≤ g := by have := HT.out.size; omega
   clear hblk1
   go_wp2_with fail
   refine (shaadd_calls w1 g [] _ _ _ _ hT1 hh1 hg2 hrow h8b (fun _ q hq => by cases hq; show w.heap.size ≠ g; omega)).mono ?_
   rintro e w2 ⟨rfl, hb2, hh2⟩
   rw [List.nil_append] at hh2
   go_wp2
   go_ret
   exact ⟨g, rfl, by omega, hb01.trans (hb2.below (by omega) (by omega)), hh2⟩
inductive HashIs (lo : Nat) (m : List Nat) : Value → World → Prop where
 | of (g : Nat) (w : World) (h : HashAt w g m) (hg : lo ≤ g) : HashIs lo m (.pointer (some ⟨g, 0, none⟩)) w
theorem HashIs.elim {lo : Nat} {m : List Nat} {v : Value} {w : World} (h : HashIs lo m v w) {C : Prop} (k : ∀ g, v = .pointer (some ⟨g, 0, none⟩) → HashAt w g m → lo ≤ g → C) : C := by
 cases h with
 | of g _ h hg => exact k g rfl h hg
theorem HashIs.but {lo : Nat} {m : List Nat} {v : Value} {w w' : World} (h : HashIs lo m v w) {b : Nat} (hb : But b w w') (hl : b < lo) : HashIs lo m v w' := by
 cases h with
 | of g _ h hg => exact .of g w' (h.but hb (by omega)) hg
inductive SumsIs (lo : Nat) (m1 m2 : List Nat) : Value → World → Prop where
 | of (g1 g2 : Nat) (w : World) (h1 : HashAt w g1 m1) (h2 : HashAt w g2 m2) (hg1 : lo ≤ g1) (hg2 : lo ≤ g2) : SumsIs lo m1 m2 (.agg #[.pointer (some ⟨g1, 0, none⟩), .pointer (some ⟨g2, 0, none⟩)]) w
theorem SumsIs.elim {lo : Nat} {m1 m2 : List Nat} {v : Value} {w : World} (h : SumsIs lo m1 m2 v w) {C : Prop} (k : ∀ g1 g2, v = .agg #[.pointer (some ⟨g1, 0, none⟩), .pointer (some ⟨g2, 0, none⟩)] → HashAt w g1 m1 → HashAt w g2 m2 → lo ≤ g1 → lo ≤ g2 → C) : C := by
 cases h with
 | of g1 g2 _ h1 h2 hg1 hg2 => exact k g1 g2 rfl h1 h2 hg1 hg2
theorem SumsIs.but {lo : Nat} {m1 m2 : List Nat} {v : Value} {w w' : World} (h : SumsIs lo m1 m2 v w) {b : Nat} (hb : But b w w') (hl : b < lo) : SumsIs lo m1 m2 v w' := by
 cases h with
 | of g1 g2 _ h1 h2 hg1 hg2 => exact .of g1 g2 w' (h1.but hb (by omega)) (h2.but hb (by omega)) hg1 hg2
def GivesSums (key : List Nat) (w : World) (e : Ending) (w' : World) : Prop :=
 ∃ g1 g2, e = .returned (.agg #[.pointer (some ⟨g1, 0, none⟩), .pointer (some ⟨g2, 0, none⟩)]) ∧ w.heap.size ≤ g1 ∧ w.heap.size ≤ g2 ∧ Below w.heap.size w w' ∧ HashAt w' g1 (ipad key) ∧ HashAt w' g2 (opad key)
def SumsBox (b lo : Nat) (m1 m2 : List Nat) (w : World) : Prop :=
 ∃ g1 g2, w.heap[b]? = some (.cells #[.pointer (some ⟨g1, 0, none⟩), .pointer (some ⟨g2, 0, none⟩)] 185 (0, 0)) ∧ HashAt w g1 m1 ∧ HashAt w g2 m2 ∧ lo ≤ g1 ∧ lo ≤ g2
structure UG (w2 : World) (b lo : Nat) (m1 m2 : List Nat) (d4 d5 : Bool) (w' : World) : Prop where
 but : But b w2 w'
 ord : d5 = true → d4 = true
 old : d5 = false → w'.heap[b]? = some (.cells #[.pointer none, .pointer none] 185 (0, 0))
 new : d5 = true → SumsBox b lo m1 m2 w'
theorem UG.open {w2 w' : World} {b lo : Nat} {m1 m2 : List Nat} {d5 : Bool} (h : UG w2 b lo m1 m2 false d5 w') : d5 = false := by
 cases d5 with
 | false => rfl
 | true => exact absurd (h.ord rfl) (by simp)
theorem UG.step {w2 w' w5 : World} {b lo : Nat} {m1 m2 : List Nat} {d4 d5 : Bool} (h : UG w2 b lo m1 m2 d4 d5 w') (hd : d5 = false) (hb : Below w'.heap.size w' w5) (d4' : Bool) : UG w2 b lo m1 m2 d4' false w5 :=
 ⟨h.but.trans (But.of hb), fun e => (by cases e), fun _ => (by
  have h1 := h.old hd
  rw [hb.block b (Array.getElem?_eq_some_iff.1 h1).1]; exact h1), fun e => (by cases e)⟩
theorem store_sums {w : World} {b : Nat} {v1 v2 : Value} (h : w.heap[b]? = some (.cells #[.pointer none, .pointer none] 185 (0, 0))) (h1 : v1.oneCell' = true) (h2 : v2.oneCell' = true) :
  (storeVar 185 ⟨b, 0, none⟩ (.agg #[v1, v2])).run Tryz.prog w = .ok () (w.setRow b #[v1, v2]) :=
 run_storeVar_row w b 185 185 #[.pointer none, .pointer none] #[v1, v2] h (by kernel_rfl) rfl (by simp [h1, h2])
theorem load_key {w : World} {g : Nat} {b : List Nat} (hb : b.length = 64) (h : Blk w g 190 .u8 b) :
  (loadVar 190 ⟨g, 0, none⟩).run Tryz.prog w = .ok (.agg (b.map fun (x : Nat) => Value.int .u8 (x : Int)).toArray) w :=
 run_loadVar_row w g 190 190 _ (0, 0) _ h Tryz.underlying190 rfl (infoKey b hb)
theorem under_calls (w : World) (p : Option Addr) (n c : Nat) (key : List Nat) (hT : Tabs w) (hr : RowIn w .u8 p n c key) (h8 : Bytes8 key) :
  Calls Tryz.prog 152 #[.slice p n c] w (GivesSums key w) := by
 have HO : Hold ((w.alloc (.cells #[.pointer none, .pointer none] 185)).heap[w.heap.size]? = some (.cells #[.pointer none, .pointer none] 185 (0, 0))) := ⟨heap_alloc_new w _⟩
 have HB0 : Hold (Below w.heap.size w (w.alloc (.cells #[.pointer none, .pointer none] 185))) := ⟨(Below.refl _ _).alloc (Nat.le_refl _) _⟩
 have HZ0 : Hold ((w.alloc (.cells #[.pointer none, .pointer none] 185)).heap.size = w.heap.size + 1) := ⟨by simp⟩
 go_enter Tryz.func152, Tryz.ntmps152
 go_wp2_with fail
 generalize w.alloc (.cells #[.pointer none, .pointer none] 185) = w0 at *
 refine (block_calls w0 p n c key (hT.below HB0.out hT.size) (hr.below HB0.out) h8).mono ?_
 rintro e w1 ⟨rfl, hb1⟩
 have hkl := kblock_length key
 have hk8 := kblock_bytes h8
 have HI : Hold (masked (kblock key) 54 = ipad key ∧ masked (kblock key) 92 = opad key) := ⟨rfl, rfl⟩
 generalize kblock key = B at *
 have hi64 : Hold ((Tryz.prog.info? 190).map (·.size) = some (B.map fun (x : Nat) => Value.int .u8 x).toArray.size) := ⟨infoKey B hkl⟩
 have hnew : Hold _ := ⟨Blk.zeros w1 190 .u8 64⟩
 have H1 : Hold _ := ⟨ints_one .u8 B⟩
 have HS : Hold (((List.replicate 64 0).map fun (x : Nat) => Value.int .u8 x).toArray.size = (B.map fun (x : Nat) => Value.int .u8 x).toArray.size) := ⟨by simp [hkl]⟩
 go_wp2_with (refine wpList_store_row rfl 190 _ _ rfl w1.heap.size (B.map fun (x : Nat) => Value.int .u8 x).toArray rfl rfl 190 ((List.replicate 64 0).map fun (x : Nat) => Value.int .u8 x).toArray hnew.out hi64.out HS.out H1.out ?_)
 generalize hw2 : World.setRow _ _ _ = w2
 have hz1 := hb1.size
 have hz0 := HZ0.out
 have hb2 : Below w0.heap.size w0 w2 := by
  rw [← hw2]
  exact below_setRow (hb1.alloc hz1 _) hz1 _
 have hblk : Blk w2 w1.heap.size 190 .u8 B := by
  rw [← hw2]
  exact setRow_heap _ w1.heap.size _ _ 190 (0, 0) hnew.out
 have hold : w2.heap[w.heap.size]? = some (.cells #[.pointer none, .pointer none] 185 (0, 0)) := (hb2.block w.heap.size (by omega)).trans HO.out
 have hbw : Below w.heap.size w w2 := HB0.out.trans (hb2.mono (by omega))
 have hT2 := hT.below hbw hT.size
 have hlt2 := hblk.lt
 have hw2z : (max (0 : Nat) 1 + 1) ≤ w.heap.size := hT.size
 have HBk : Hold (∀ w', But w.heap.size w2 w' → Blk w' w1.heap.size 190 .u8 B) := ⟨fun w' h => (h.block w1.heap.size hlt2 (by omega)).trans hblk⟩
 obtain ⟨m1, hm1⟩ : ∃ m, ipad key = m := ⟨_, rfl⟩
 obtain ⟨m2, hm2⟩ : ∃ m, opad key = m := ⟨_, rfl⟩
 have HM1 : Hold (masked B 54 = m1) := ⟨HI.out.1.trans hm1⟩
 have HM2 : Hold (masked B 92 = m2) := ⟨HI.out.2.trans hm2⟩
 have HM : Hold (ipad key = m1 ∧ opad key = m2) := ⟨hm1, hm2⟩
 have HT2 : Hold (Tabs w2) := ⟨hT2⟩
 have HK8 : Hold (Bytes8 B) := ⟨hk8⟩
 have HKL : Hold (B.length = 64) := ⟨hkl⟩
 clear hw2 hnew H1 HS hi64 hblk HI hm1 hm2 hT2 hk8 hkl hb2 hb1 HO HB0 HZ0
 refine wp_region_duties (by kernel_rfl) (by kernel_rfl)
  [some (.agg (B.map fun (x : Nat) => Value.int .u8 (x : Int)).toArray), none, some (.agg (B.map fun (x : Nat) => Value.int .u8 (x : Int)).toArray), none, none, none]
  [false, true, false, true, true, true] rfl
  (fun w1 w2 => But w.heap.size w1 w2) (fun D w' => UG w2 w.heap.size w2.heap.size m1 m2 (D 4) (D 5) w')
  (fun i v w' => match i with
   | 1 => HashIs w2.heap.size m1 v w'
   | 3 => HashIs w2.heap.size m2 v w'
   | 4 => SumsIs w2.heap.size m1 m2 v w'
   | _ => True)
  ?_ ⟨But.drew (But.refl _ _), (fun e => by cases e), fun _ => hold, fun e => by cases e⟩ ?_ ?_
 ·intro i v w1 w2 hf hb
  split at hf
  ·exact hf.but hb (by omega)
  ·exact hf.but hb (by omega)
  ·exact hf.but hb (by omega)
  ·trivial
 ·simp only [Duties, Nat.reduceAdd]
  refine ⟨?_, ?_, ?_, ?_, ?_, ?_, trivial⟩
  case refine_2 =>
   intro D sp w' hD hW hdp hG
   have h4 : D 4 = false := hW 4 (mq (by kernel_rfl))
   rw [h4] at hG
   have h5 := hG.open
   (with_reducible refine asked_call (w1 := w') (f := 161) (args := #[.agg (B.map fun (x : Nat) => Value.int .u8 (x : Int)).toArray, .int .u8 54]) ?_ ?_ ?_)
   ·simp [Region.wanted, go_sem]
   ·simp [Act.eval, Act.put, go_sem]
   ·refine (masked_calls w' B 54 (HT2.out.but hG.but hw2z) HKL.out HK8.out (by omega)).mono ?_
    rintro e w5 ⟨g, rfl, hg, hb, hh⟩
    rw [HM1.out] at hh
    refine ⟨_, rfl, But.of hb, HashIs.of g w5 hh (Nat.le_trans hG.but.size hg), ?_⟩
    have := hG.step h5 hb false
    simpa [h4, h5] using this
  case refine_4 =>
   intro D sp w' hD hW hdp hG
   have h4 : D 4 = false := hW 4 (mq (by kernel_rfl))
   rw [h4] at hG
   have h5 := hG.open
   (with_reducible refine asked_call (w1 := w') (f := 161) (args := #[.agg (B.map fun (x : Nat) => Value.int .u8 (x : Int)).toArray, .int .u8 92]) ?_ ?_ ?_)
   ·simp [Region.wanted, go_sem]
   ·simp [Act.eval, Act.put, go_sem]
   ·refine (masked_calls w' B 92 (HT2.out.but hG.but hw2z) HKL.out HK8.out (by omega)).mono ?_
    rintro e w5 ⟨g, rfl, hg, hb, hh⟩
    rw [HM2.out] at hh
    refine ⟨_, rfl, But.of hb, HashIs.of g w5 hh (Nat.le_trans hG.but.size hg), ?_⟩
    have := hG.step h5 hb false
    simpa [h4, h5] using this
  case refine_5 =>
   intro D sp w' hD hW hdp hG
   have h5 : D 5 = false := hW 5 (mq (by kernel_rfl))
   have f1 : HashIs w2.heap.size m1 (sp 1) w' := (hdp 1 (mq (by kernel_rfl))).2
   have f3 : HashIs w2.heap.size m2 (sp 3) w' := (hdp 3 (mq (by kernel_rfl))).2
   (with_reducible refine f1.elim (fun g1 hv1 hh1 hg1 => ?_))
   (with_reducible refine f3.elim (fun g2 hv2 hh2 hg2 => ?_))
   clear f1 f3
   (with_reducible refine asked_value (v := .agg #[.pointer (some ⟨g1, 0, none⟩), .pointer (some ⟨g2, 0, none⟩)]) (w1 := w') ?_ ?_ ?_)
   ·simp [Region.wanted, go_sem]
   ·simp [execOp, Act.eval, Act.put, go_sem, hv1, hv2]
   ·refine ⟨But.refl _ _, SumsIs.of g1 g2 w' hh1 hh2 hg1 hg2, ?_⟩
    have := hG.step h5 (Below.refl _ _) true
    simpa [h5] using this
  case refine_6 =>
   intro D sp w' hD hW hdp hG
   have h4 : D 4 = true := (hdp 4 (mq (by kernel_rfl))).1
   have f4 : SumsIs w2.heap.size m1 m2 (sp 4) w' := (hdp 4 (mq (by kernel_rfl))).2
   (with_reducible refine f4.elim (fun g1 g2 hv hh1 hh2 hg1 hg2 => ?_))
   clear f4
   have ho := hG.old hD
   have hst := store_sums (v1 := .pointer (some ⟨g1, 0, none⟩)) (v2 := .pointer (some ⟨g2, 0, none⟩)) ho rfl rfl
   have hb5 : But w.heap.size w' (w'.setRow w.heap.size #[.pointer (some ⟨g1, 0, none⟩), .pointer (some ⟨g2, 0, none⟩)]) := But.setRow _ _
   (with_reducible refine asked_skip (w1 := w'.setRow w.heap.size #[.pointer (some ⟨g1, 0, none⟩), .pointer (some ⟨g2, 0, none⟩)]) ?_ ?_ ?_)
   ·simp [Region.wanted, go_sem]
   ·simp [execOp, Act.eval, Act.put, hv, Instr.storeAt, Instr.sureAddr, Result.andThen_ok, hst]
   ·refine ⟨hb5, trivial, hG.but.trans hb5, fun _ => by simp [h4], fun e => by simp at e, fun _ => ⟨g1, g2, setRow_heap _ _ _ _ _ _ ho, hh1.but hb5 (by omega), hh2.but hb5 (by omega), hg1, hg2⟩⟩
  all_goals
   intro D sp w' hD hW hdp hG
   have hk := load_key HKL.out (HBk.out w' hG.but)
   (with_reducible refine asked_value (v := .agg (B.map fun (x : Nat) => Value.int .u8 (x : Int)).toArray) (w1 := w') ?_ ?_ ⟨rfl, rfl⟩)
   ·simp [Region.wanted, go_sem]
   ·simp [execOp, Act.eval, Act.put, Instr.loadAt, Instr.sureAddr, Result.andThen_ok, hk]
 ·intro sp w5 hsp hG
  obtain ⟨g1, g2, hbx, hh1, hh2, hg1, hg2⟩ := hG.new rfl
  have hbut := hG.but
  clear hsp hG
  simp only [frameOf, Nat.reduceAdd]
  generalize sp 1 = u1
  generalize sp 3 = u3
  generalize sp 4 = u4
  generalize sp 5 = u5
  go_simp
  go_wp2
  refine bodyPost_ret (v := .agg #[.pointer (some ⟨g1, 0, none⟩), .pointer (some ⟨g2, 0, none⟩)]) (results_cell_row Tryz.results152 _ _ w.heap.size 185 _ (0, 0) _ rfl hbx Tryz.underlying185 rfl (by kernel_rfl)) rfl ⟨g1, g2, rfl, by have := hbw.size; omega, by have := hbw.size; omega, hbw.trans (hbut.below (Nat.le_refl _) hbw.size), ?_, ?_⟩
  ·rw [HM.out.1]; exact hh1
  ·rw [HM.out.2]; exact hh2
end Go.Proofs.YtcbhgfiafamflaaGreatDoor
