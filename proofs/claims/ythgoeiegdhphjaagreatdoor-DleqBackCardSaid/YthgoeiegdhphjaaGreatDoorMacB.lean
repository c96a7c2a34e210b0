/- A key's block, and the two sums under a key. -/
import Derived.Laws.OwnMore
import Derived.ArgAppend
import Derived.Laws.CopyOwn
import Derived.Tactics
import Derived.Lib.AppendZeros
import Derived.Lib.Walk
import Derived.BigRegion
import Derived.Test.YthgoeiegdhphjaaGreatDoorFit
import Derived.Laws.Rows
set_option maxRecDepth 1000000
set_option maxHeartbeats 16000000
set_option linter.unusedSimpArgs false
set_option linter.unusedVariables false
namespace Go.Proofs.YthgoeiegdhphjaaGreatDoor
open Go Go.RowKit
structure Own (w : World) (B : Nat) (v : Value) (bs : List Nat) : Prop where
 owns : w.ownsRow B 5 1 v bs.length (bs.map fun (x : Nat) => Value.int .u8 (x : Int))
theorem Own.nil (w : World) (B : Nat) : Own w B (.slice none 0 0) [] := ⟨World.ownsRow_nil w B 5 1⟩
theorem Own.elim {w : World} {B : Nat} {v : Value} {bs : List Nat} (h : Own w B v bs) :
  ∃ p c, v = .slice p bs.length c /\ RowIn w .u8 p bs.length c bs /\ New B p /\ (p = none -> c = 0) /\ (∀ q, p = some q -> q.block < w.heap.size) := by
 obtain ⟨h1, h2⟩ := h.owns
 rcases h2 with ⟨rfl, h0⟩ | ⟨g, cap, cur, rfl, hb, hg, hnc, hcm, hcs, ht⟩
 ·refine ⟨none, 0, by rw [h0], ⟨rfl, by omega, by omega, fun h => absurd h (by omega)⟩, New.none _, fun _ => rfl, fun q hq => (by cases hq)⟩
 ·have hlt : g < w.heap.size := (Array.getElem?_eq_some_iff.1 hg).1
  have hcm' : cap <= 9223372036854775807 := by simpa [maxLen] using hcm
  refine ⟨some ⟨g, 0, none⟩, cap, rfl, ⟨rfl, hnc, hcm', fun _ => ⟨rfl, hnc, hcm', .inr ⟨g, 0, rfl, hlt, fun i x hx => ?_⟩⟩⟩, fun q hq => (by cases hq; exact hb), fun h => (by cases h), fun q hq => (by cases hq; exact hlt)⟩
  have hi : i < bs.length := (List.getElem?_eq_some_iff.1 hx).1
  have hx2 : (bs.map fun (x : Nat) => Value.int .u8 (x : Int))[i]? = some (.int .u8 (x : Int)) := by rw [List.getElem?_map, hx]; rfl
  rw [<- ht, List.getElem?_take] at hx2
  split at hx2
  ·unfold World.cell?
   dsimp only
   rw [hg]
   simp only [Nat.zero_add]
   rw [Array.getElem?_toList] at hx2
   exact hx2
  ·cases hx2
theorem Own.below {w w' : World} {B C : Nat} {v : Value} {bs : List Nat} (h : Own w B v bs) (hb : Below C w w') (hc : ∀ g, v.ownBlock = some g -> g < C) : Own w' B v bs := by
 refine ⟨⟨h.owns.1, ?_⟩⟩
 rcases h.owns.2 with h2 | ⟨g, cap, cur, rfl, hbg, hg, h3⟩
 ·exact .inl h2
 ·refine .inr ⟨g, cap, cur, rfl, hbg, ?_, h3⟩
  rw [hb.block g (hc g rfl)]; exact hg
theorem Own.lt {w : World} {B : Nat} {v : Value} {bs : List Nat} (h : Own w B v bs) : ∀ g, v.ownBlock = some g -> g < w.heap.size := by
 intro g hg
 rcases h.owns.2 with ⟨rfl, _⟩ | ⟨g', cap, cur, rfl, hbg, hg', h3⟩
 ·cases hg
 ·obtain rfl : g' = g := by simpa [Value.ownBlock] using hg
  exact (Array.getElem?_eq_some_iff.1 hg').1
theorem Own.ge {w : World} {B : Nat} {v : Value} {bs : List Nat} (h : Own w B v bs) : ∀ g, v.ownBlock = some g -> B <= g := by
 intro g hg
 rcases h.owns.2 with ⟨rfl, _⟩ | ⟨g', cap, cur, rfl, hbg, hg', h3⟩
 ·cases hg
 ·obtain rfl : g' = g := by simpa [Value.ownBlock] using hg
  exact hbg
theorem Own.belowS {w w' : World} {B : Nat} {v : Value} {bs : List Nat} (h : Own w B v bs) (hb : Below w.heap.size w w') : Own w' B v bs := h.below hb h.lt
theorem Own.mono {w : World} {B B' : Nat} {v : Value} {bs : List Nat} (h : Own w B v bs) (hb : B' <= B) : Own w B' v bs := by
 refine ⟨⟨h.owns.1, ?_⟩⟩
 rcases h.owns.2 with h2 | ⟨g, cap, cur, h1, hbg, h3⟩
 ·exact .inl h2
 ·exact .inr ⟨g, cap, cur, h1, by omega, h3⟩
theorem grown_below {w w' : World} {g : Option Nat} (h : w.grownBy w' g) {B : Nat} (hB : B <= w.heap.size) (hg : ∀ b, g = some b -> B <= b) : Below B w w' :=
 ⟨h.os, h.tape, h.output, h.size, fun k hk => h.block k (by omega) (fun e => by have := hg k e.symm; omega)⟩
theorem run_app {w : World} {B : Nat} {v : Value} {xs : List Nat} (h : Own w B v xs) {p : Option Addr} {m c : Nat} {bs : List Nat} (hr : RowIn w .u8 p m c bs) (hn : p = none -> c = 0)
  (hmax : xs.length + m <= 140737488355328) (hB : B <= w.heap.size) (ty : TypeId) :
  ∃ v' w', (Builtin.append_ #[60, 60] ty #[v, .slice p m c]).run Tryz.prog w = .ok v' w' /\ Own w' B v' (xs ++ bs) /\ w.grownBy w' v.ownBlock := by
 obtain ⟨i, hi, hz, hs, hb⟩ := info_parts Tryz.info_u8
 have hl := hr.len
 cases p with
 | none =>
  obtain rfl := hn rfl
  have hc := hr.cap
  obtain rfl : m = 0 := by omega
  have hbs : bs = [] := List.eq_nil_of_length_eq_zero hl.symm
  refine ⟨v, w, run_append_owned_none (P := Tryz.prog) w B 60 ty 5 i 1 Tryz.underlying60 hi v xs.length _ h.owns, ?_, ⟨rfl, rfl, rfl, Nat.le_refl _, fun _ _ _ => rfl⟩⟩
  rw [hbs, List.append_nil]; exact h
 | some a =>
  have hmx : xs.length + m <= maxLen := by simp only [maxLen]; omega
  obtain ⟨v', w', h1, h2, h3, _⟩ := run_append_own (P := Tryz.prog) w B 60 ty 5 i (.int .u8 0) 1 1 Tryz.underlying60 hi hz hs hb (by rfl) (by decide) v xs.length _ h.owns a m c (bs.map fun (x : Nat) => Value.int .u8 (x : Int)) (by simp [hl])
   (fun j u hu => by
    rw [List.getElem?_map] at hu
    obtain ⟨x, hx, rfl⟩ := Option.map_eq_some_iff.1 hu
    have h0 : 0 < m := by have := (List.getElem?_eq_some_iff.1 hx).1; omega
    obtain ⟨b, off, e, h2, h3⟩ := (hr.row h0).pos h0
    cases e
    rw [add_plain]
    exact h3 j x hx)
   (fun u hu => by obtain ⟨x, _, rfl⟩ := List.mem_map.1 hu; rfl) hmx (by omega) hB
  refine ⟨v', w', h1, ⟨?_⟩, h3⟩
  rw [<- List.map_append, hl, <- List.length_append] at h2
  exact h2
theorem wpList_app {w : World} {ops : Array Oper} {rest : List Oper} {o : Oper} {a : Act} {Q : Exit -> Act -> World -> Prop} (hgd : o.guard = none) (s x : Operand)
  (ho : o.op = .call { callee := .builtin .append, args := #[s, x], argTypes := #[60, 60] })
  {B : Nat} {v : Value} {xs : List Nat} (hs : a.eval s = v) (h : Own w B v xs) {p : Option Addr} {m c : Nat} {bs : List Nat} (hx : a.eval x = .slice p m c) (hr : RowIn w .u8 p m c bs) (hn : p = none -> c = 0)
  (hmax : xs.length + m <= 140737488355328) (hB : B <= w.heap.size)
  (hk : ∀ v' w', Own w' B v' (xs ++ bs) -> w.grownBy w' v.ownBlock -> wpList Tryz.prog ops Q rest (a.put o.dst v') w') : wpList Tryz.prog ops Q (o :: rest) a w := by
 obtain ⟨v', w', h1, h2, h3⟩ := run_app h hr hn hmax hB o.type
 refine wpList_plain hgd fun K hK => ?_
 unfold Oper.wp
 simp [execOp, ho, resolve, invoke, builtin, hs, hx, h1, Result.andThen]
 exact hK _ _ (hk v' w' h2 h3)
theorem run_app0 {w : World} {g B : Nat} (hg : w.heap[g]? = some (.cells #[] 5 (0, 0))) (hBg : B <= g) {p : Option Addr} {m c : Nat} {bs : List Nat} (hr : RowIn w .u8 p m c bs) (hn : p = none -> c = 0)
  (hmax : m <= 140737488355328) (ty : TypeId) :
  ∃ v' w', (Builtin.append_ #[60, 60] ty #[.slice (some ⟨g, 0, none⟩) 0 0, .slice p m c]).run Tryz.prog w = .ok v' w' /\ Own w' B v' bs /\ Below w.heap.size w w' := by
 obtain ⟨i, hi, hz, hs, hb⟩ := info_parts Tryz.info_u8
 have hl := hr.len
 have hlt : g < w.heap.size := (Array.getElem?_eq_some_iff.1 hg).1
 have own0 : Own w B (.slice (some ⟨g, 0, none⟩) 0 0) [] := ⟨rfl, .inr ⟨g, 0, #[], rfl, hBg, hg, Nat.le_refl _, by simp [maxLen], rfl, rfl⟩⟩
 cases p with
 | none =>
  obtain rfl := hn rfl
  have hc := hr.cap
  obtain rfl : m = 0 := by omega
  have hbs : bs = [] := List.eq_nil_of_length_eq_zero hl.symm
  refine ⟨_, w, run_append_owned_none (P := Tryz.prog) w B 60 ty 5 i 1 Tryz.underlying60 hi _ 0 [] own0.owns, ?_, Below.refl _ _⟩
  rw [hbs]; exact own0
 | some a =>
  rcases Nat.eq_zero_or_pos m with rfl | h0
  ·have hbs : bs = [] := List.eq_nil_of_length_eq_zero hl.symm
   have h1 : (Builtin.append_ #[60, 60] ty #[.slice (some ⟨g, 0, none⟩) 0 0, .slice (some a) 0 c]).run Tryz.prog w = .ok (.slice (some ⟨g, 0, none⟩) 0 0) (w.setRow g #[]) := by
    have h := run_append_room (P := Tryz.prog) w 60 ty 5 i Tryz.underlying60 hi g 0 0 #[] hg a 0 c [] (by simp) (fun j u hu => by simp at hu) (fun u hu => by simp at hu) (Nat.le_refl _) (by simp)
    simpa using h
   have hset : (w.setRow g #[]).heap[g]? = some (.cells #[] 5 (0, 0)) := setRow_heap w g #[] #[] _ _ hg
   refine ⟨_, _, h1, ?_, ⟨rfl, rfl, rfl, by simp [World.setRow], fun k hk => ?_⟩⟩
   ·rw [hbs]
    exact ⟨rfl, .inr ⟨g, 0, #[], rfl, hBg, hset, Nat.le_refl _, by simp [maxLen], rfl, rfl⟩⟩
   ·rcases Nat.lt_trichotomy k g with h | rfl | h
    ·exact setRow_other w g k _ (by omega)
    ·exact hset.trans hg.symm
    ·exact setRow_other w g k _ (by omega)
  ·obtain ⟨b, off, e, h2, h3⟩ := (hr.row h0).pos h0
   cases e
   obtain ⟨v', w', h1, h4, h5⟩ := run_append_arg_grows (P := Tryz.prog) w 60 ty 5 i (.int .u8 0) 1 1 Tryz.underlying60 hi hz hs hb rfl (by decide) ⟨g, 0, none⟩ 0 0 [] rfl (fun j u hu => by simp at hu)
    ⟨b, off, none⟩ m c (bs.map fun (x : Nat) => Value.int .u8 (x : Int)) (by simp [hl])
    (fun j u hu => by
     rw [List.getElem?_map] at hu
     obtain ⟨x, hx, rfl⟩ := Option.map_eq_some_iff.1 hu
     rw [add_plain]
     exact h3 j x hx) (by omega) (by simp only [maxLen]; omega) (by omega)
   refine ⟨v', w', h1, ?_, ⟨h5.os, h5.tape, h5.output, h5.size, fun k hk => h5.block k hk (by simp)⟩⟩
   have h6 : Own w' w.heap.size v' bs := ⟨by
    rw [Nat.zero_add, List.nil_append, hl] at h4; exact h4⟩
   exact h6.mono (by omega)
theorem run_app0E {w : World} {g B : Nat} (hg : w.heap[g]? = some (.cells #[] 5 (0, 0))) (hBg : B <= g) {p : Option Addr} {m c : Nat} {bs : List Nat} (hr : RowIn w .u8 p m c bs) (hn : p = none -> c = 0)
  (hmax : m <= 140737488355328) (ty : TypeId) {C : Prop}
  (k : ∀ v' w', (Builtin.append_ #[60, 60] ty #[.slice (some ⟨g, 0, none⟩) 0 0, .slice p m c]).run Tryz.prog w = .ok v' w' -> Own w' B v' bs -> Below w.heap.size w w' -> C) : C := by
 obtain ⟨v', w', h1, h2, h3⟩ := run_app0 hg hBg hr hn hmax ty
 exact k v' w' h1 h2 h3
inductive OwnIs (lo : Nat) (bs : List Nat) : Value -> World -> Prop where
 | of (p : Option Addr) (c : Nat) (w : World) (h : RowIn w .u8 p bs.length c bs) (hn : New lo p) (hz : p = none -> c = 0) (hp : ∀ q, p = some q -> q.block < w.heap.size) : OwnIs lo bs (.slice p bs.length c) w
theorem OwnIs.mk {w : World} {B : Nat} {v : Value} {bs : List Nat} (h : Own w B v bs) : OwnIs B bs v w := by
 obtain ⟨p, c, rfl, h1, h2, h3, h4⟩ := h.elim
 exact .of p c w h1 h2 h3 h4
theorem OwnIs.elim {lo : Nat} {bs : List Nat} {v : Value} {w : World} (h : OwnIs lo bs v w) {C : Prop} (k : ∀ p c, v = .slice p bs.length c -> RowIn w .u8 p bs.length c bs -> New lo p -> (p = none -> c = 0) -> C) : C := by
 cases h with
 | of p c _ h hn hz hp => exact k p c rfl h hn hz
theorem OwnIs.below {lo : Nat} {bs : List Nat} {v : Value} {w w' : World} (h : OwnIs lo bs v w) (hb : Below w.heap.size w w') : OwnIs lo bs v w' := by
 cases h with
 | of p c _ h hn hz hp => exact .of p c w' (h.below hb) hn hz (fun q hq => Nat.lt_of_lt_of_le (hp q hq) hb.size)
theorem OwnIs.zero {lo : Nat} {bs : List Nat} {v : Value} {w : World} (h : OwnIs lo bs v w) : OwnIs 0 bs v w := by
 cases h with
 | of p c _ h hn hz hp => exact .of p c w h (fun _ _ => Nat.zero_le _) hz hp
def GivesOwn (bs : List Nat) (w : World) (e : Ending) (w' : World) : Prop := ∃ v, e = .returned v /\ OwnIs w.heap.size bs v w' /\ Below w.heap.size w w'
theorem lit_row (w : World) (bs : List Nat) (hm : bs.length <= 9223372036854775807) : RowIn (w.alloc (.cells (bs.map fun (x : Nat) => Value.int .u8 (x : Int)).toArray 5)) .u8 (some ⟨w.heap.size, 0, none⟩) bs.length bs.length bs := by
 have h := Blk.row (w := w.alloc (.cells (bs.map fun (x : Nat) => Value.int .u8 (x : Int)).toArray 5)) (g := w.heap.size) (e := 5) (k := .u8) (xs := bs) (heap_alloc_new w _) (n := bs.length) (c := bs.length) rfl (Nat.le_refl _) hm
 exact ⟨rfl, Nat.le_refl _, hm, fun _ => h⟩
theorem grow8_calls (w : World) (n : Nat) (hn : n <= 1000000) :
  Calls Tryz.prog 200 #[.slice none 0 0, .int .i64 n] w fun e w' => ∃ v, e = .returned v /\ Own w' w.heap.size v [] /\ Below w.heap.size w w' := by
 rcases Nat.eq_zero_or_pos n with rfl | h0
 ·go_enter Tryz.func200, Tryz.ntmps200
  go_wp2
  go_ret
  exact ⟨_, rfl, Own.nil _ _, Below.refl _ _⟩
 ·obtain ⟨i, hi, hz, hs, hb⟩ := info_parts Tryz.info_u8
  have happ := Lib.run_append_nil_zeros (P := Tryz.prog) w 60 3 60 5 i (.int .u8 0) .i64 .i64 Tryz.underlying60 Tryz.underlying3 hi hz n h0 (by omega) (by omega) (by rw [hb]; omega)
  have hcap := grownCap_le_maxLen w n 0 5 (by unfold maxLen; omega)
  have hge := grownCap_ge w n 0 5
  generalize grownCap w n 0 5 = cap at happ hcap hge
  generalize hZ : (Builtin.zeroCells (Value.int .u8 0).cells n ++ Builtin.zeroCells (Value.int .u8 0).cells (cap - n)) = Z at happ
  have hZs : Z.size = cap := by rw [<- hZ]; simp [size_zeroCells, Value.cells]; omega
  have HO : Hold (Own (w.drew.alloc (.cells Z 5)) w.heap.size (.slice (some ⟨w.heap.size, 0, none⟩) 0 cap) []) :=
   ⟨⟨⟨by simp, .inr ⟨w.heap.size, cap, Z, rfl, Nat.le_refl _, heap_alloc_new w.drew _, Nat.zero_le _, hcap, by simpa using hZs, by simp⟩⟩⟩⟩
  have HB : Hold (Below w.heap.size w (w.drew.alloc (.cells Z 5))) := ⟨(Below.refl _ _).drew.alloc (Nat.le_refl _) _⟩
  have hc9 : cap <= 9223372036854775807 := by simpa [maxLen] using hcap
  clear hZ hcap hi hz hs hb
  generalize w.drew.alloc (.cells Z 5) = w1 at happ HO HB
  go_enter Tryz.func200, Tryz.ntmps200
  go_wp2_with (at_builtin; refine Lib.wpList_append_run _ rfl _ _ _ _ rfl _ _ rfl rfl _ _ happ ?_; refine Paused.out ?_)
  refine ⟨?_⟩
  go_wp2
  go_ret
  exact ⟨_, rfl, HO.out, HB.out⟩
open Go
def kkey (key : List Nat) : List Nat := if 64 < key.length then sha key else key
def kblock (key : List Nat) : List Nat := kkey key ++ List.replicate (64 - (kkey key).length) 0
def masked (b : List Nat) (x : Nat) : List Nat := b.map (· ^^^ x)
def ipad (key : List Nat) : List Nat := masked (kblock key) 54
def opad (key : List Nat) : List Nat := masked (kblock key) 92
def tagged (key m : List Nat) : List Nat := opad key ++ sha (ipad key ++ m)
def hmac (key m : List Nat) : List Nat := sha (tagged key m)
theorem kkey_length (key : List Nat) : (kkey key).length <= 64 := by
 unfold kkey
 split
 ·rw [sha_length]; omega
 ·omega
theorem kblock_length (key : List Nat) : (kblock key).length = 64 := by have := kkey_length key; simp [kblock]; omega
theorem kkey_bytes {key : List Nat} (h : Bytes8 key) : Bytes8 (kkey key) := by
 unfold kkey
 split
 ·exact sha_bytes _
 ·exact h
theorem kblock_bytes {key : List Nat} (h : Bytes8 key) : Bytes8 (kblock key) := by
 intro x hx
 rcases List.mem_append.1 hx with h1 | h1
 ·exact kkey_bytes h x h1
 ·have := (List.mem_replicate.1 h1).2; omega
theorem masked_length (b : List Nat) (x : Nat) : (masked b x).length = b.length := by simp [masked]
theorem masked_bytes {b : List Nat} (h : Bytes8 b) {x : Nat} (hx : x < 256) : Bytes8 (masked b x) := by
 intro y hy
 obtain ⟨z, hz, rfl⟩ := List.mem_map.1 hy
 exact Nat.xor_lt_two_pow (n := 8) (h z hz) hx
theorem hmac_length (key m : List Nat) : (hmac key m).length = 32 := sha_length _
theorem hmac_bytes (key m : List Nat) : Bytes8 (hmac key m) := sha_bytes _
def Whole0 (L : List Part) : Prop := ∀ P ∈ L, P.p = none -> P.c = 0
open Go Go.RowKit Go.Proofs.YthgoeiegdhphjaaGreatDoor.Flow
theorem whole_take_le (L : List Part) (k : Nat) {P : Part} (hP : L[k]? = some P) : (whole (L.take k)).length + P.bs.length <= (whole L).length := by
 have h1 : whole L = whole (L.take (k + 1)) ++ whole (L.drop (k + 1)) := by
  unfold whole
  rw [<- List.flatMap_append, List.take_append_drop]
 have h2 : whole (L.take (k + 1)) = whole (L.take k) ++ P.bs := by rw [List.take_add_one, hP]; exact whole_snoc _ _
 rw [h1, h2, List.length_append, List.length_append]
 omega
theorem concatp_calls (w : World) (p : Option Addr) (n c : Nat) (L : List Part) (hL : PartsIn w p n c L) (hz : Whole0 L) (hmax : (whole L).length <= 100000) :
  Calls Tryz.prog 164 #[.slice p n c] w (GivesOwn (whole L) w) := by
 have HP : Hold (PartsIn w p n c L) := ⟨hL⟩
 have HZ : Hold (Whole0 L) := ⟨hz⟩
 have hpl : Hold (n = L.length) := ⟨hL.len⟩
 have HMx : Hold ((whole L).length <= 100000) := ⟨hmax⟩
 have mp := hL.max
 have mcp := hL.cap
 clear hL hz hmax
 go_enter Tryz.func164, Tryz.ntmps164
 go_wp2
 go_loopw [3, 11] (fun sv iv wr => w = wr /\ ∃ k S : Nat, k <= n /\ iv = .int .i64 k /\ sv = .int .i64 (S : Nat) /\ Hold ((whole (L.take k)).length = S)) (fun _ iv _ => n - (intOf iv).toNat)
 case atStart => exact ⟨rfl, 0, 0, by omega, rfl, rfl, ⟨rfl⟩⟩
 case round =>
  obtain ⟨rfl, k, S, hk, rfl, rfl, HS⟩ := hrel
  by_cases hkn : k < n
  ·obtain ⟨b, off, rfl, hb, hc⟩ := HP.out.cells (by omega)
   obtain ⟨P, hP⟩ : ∃ P, L[k]? = some P := ⟨_, List.getElem?_eq_getElem (by have := hpl.out; omega)⟩
   have hck : w.cell? ⟨b, off + k, none⟩ = some (.slice P.p P.n P.c) := hc k P hP
   have hlen : S + P.n <= 100000 := by
    have h1 := whole_take_le L k hP
    have h2 := HMx.out
    have h3 := (HP.out.ok k P hP).row.len
    have h4 := HS.out
    omega
   have HS2 : Hold ((whole (L.take (k + 1))).length = S + P.n) := ⟨by
    rw [List.take_add_one, hP]
    show (whole (L.take k ++ [P])).length = S + P.n
    rw [whole_snoc, List.length_append, HS.out, (HP.out.ok k P hP).row.len]⟩
   clear hc hP
   obtain ⟨qp, qn, qc, qb⟩ := P
   dsimp only at *
   have h0 : ¬ ((S : Int) + (qn : Int) < 0) := by omega
   go_wp2
   go_roundw
   case rel => exact ⟨trivial, k + 1, S + qn, by omega, by go_num, by go_num, HS2⟩
   case measure => simp [intOf]; omega
  ·obtain rfl : k = n := by omega
   have hkn' : ¬ (k : Int) < k := by omega
   have hSl : S <= 100000 := by
    have h2 := HMx.out
    have h4 := HS.out
    rw [List.take_of_length_le (by have := hpl.out; omega)] at h4
    omega
   clear HS
   go_wp2_with fail
   refine (grow8_calls w S (by omega)).mono ?_
   rintro e w1 ⟨v1, rfl, ho1, hb1⟩
   have HO1 := hol ho1
   have HB1 := hol hb1
   clear ho1 hb1
   go_wp2
   go_loopw [6, 27] (fun ov iv wq => ∃ j : Nat, j <= k /\ iv = .int .i64 j /\ Hold (Own wq w.heap.size ov (whole (L.take j))) /\ Hold (Below w.heap.size w wq)) (fun _ iv _ => k - (intOf iv).toNat)
   case atStart => exact ⟨0, by omega, rfl, HO1, HB1⟩
   case round =>
    obtain ⟨j, hj, rfl, HO, HB⟩ := hrel
    have hsz := HB.out.size
    have HGe := hol HO.out.ge
    by_cases hjk : j < k
    ·obtain ⟨b, off, rfl, hb, hc⟩ := HP.out.cells (by omega)
     obtain ⟨P, hP⟩ : ∃ P, L[j]? = some P := ⟨_, List.getElem?_eq_getElem (by have := hpl.out; omega)⟩
     have HOK : Hold (PartOk _ P) := ⟨(HP.out.ok j P hP).below HB.out⟩
     have HZP : Hold (P.p = none -> P.c = 0) := ⟨HZ.out P (List.mem_of_getElem? hP)⟩
     have hck := ((bcell HB.out).1 _ _ hb).trans (hc j P hP)
     have htk : Hold (whole (L.take (j + 1)) = whole (L.take j) ++ P.bs) := ⟨by rw [List.take_add_one, hP]; exact whole_snoc _ _⟩
     have hlen : Hold ((whole (L.take j)).length + P.n <= 140737488355328) := ⟨by
      have h1 := whole_take_le L j hP
      have h2 := HMx.out
      have h3 := HOK.out.row.len
      omega⟩
     clear hc hP
     obtain ⟨qp, qn, qc, qb⟩ := P
     dsimp only at *
     go_wp2_with (at_builtin; refine wpList_app rfl _ _ rfl rfl HO.out rfl HOK.out.row HZP.out hlen.out hsz ?_; intro v2 w3 ho1 hg1; refine Paused.out ?_)
     refine ⟨?_⟩
     rw [<- htk.out] at ho1
     have HB3 := hol (HB.out.trans (grown_below hg1 hsz HGe.out))
     have HO3 := hol ho1
     clear ho1 hg1
     go_wp2
     go_roundw
     case rel => exact ⟨j + 1, by omega, by go_num, HO3, HB3⟩
     case measure => simp [intOf]; omega
    ·obtain rfl : j = k := by omega
     have hjk' : ¬ (j : Int) < j := by omega
     have hf := HO.out
     rw [List.take_of_length_le (by have := hpl.out; omega)] at hf
     have HF := hol hf
     clear hf
     go_wp2
     go_ret
     exact ⟨_, rfl, OwnIs.mk HF.out, HB.out⟩
theorem slice_keyBlock (w : World) (b off : Nat) :
  (Instr.sliceAt 249 (.pointer (some ⟨b, off, none⟩)) none none none).run Tryz.prog w = .ok (.slice (some ⟨b, off, none⟩) 64 64) w := by
 have hlen : Tryz.prog.arrayLen 249 = 64 := by kernel_rfl
 rw [run_sliceAt_array_all w 249 ⟨b, off, none⟩ Tryz.underlying249, hlen]
 have hs : (sizeOf (Tryz.prog.elem 249)).run Tryz.prog w = .ok 1 w := by
  have : Tryz.prog.elem 249 = 5 := by kernel_rfl
  rw [this]
  simp [go_sem]
 rw [hs]
 simp [slicedAt, Addr.add]
theorem infoKey (b : List Nat) (h : b.length = 64) : (Tryz.prog.info? 249).map (·.size) = some (b.map fun (x : Nat) => Value.int .u8 x).toArray.size := by
 rw [show (b.map fun (x : Nat) => Value.int .u8 x).toArray.size = 64 by simp [h]]; kernel_rfl
theorem splice_noughts {kk : List Nat} (_h : kk.length <= 64) :
  splice ((List.replicate 64 0).map fun (x : Nat) => Value.int .u8 x) 0 (kk.map fun (x : Nat) => Value.int .u8 x) = (kk ++ List.replicate (64 - kk.length) 0).map fun (x : Nat) => Value.int .u8 x := by
 unfold splice
 rw [List.take_zero, List.nil_append, List.length_map, Nat.zero_add, <- List.map_drop, List.drop_replicate, List.map_append]
theorem rowin_src {w : World} {p : Option Addr} {n c : Nat} {bs : List Nat} (h : RowIn w .u8 p n c bs) (hn : 0 < n) : ∃ ad, p = some ad /\ ad.block < w.heap.size /\ ∀ (j : Nat) (v : Value), (bs.map fun (x : Nat) => Value.int .u8 (x : Int))[j]? = some v -> w.cell? (ad.add j) = some v := by
 obtain ⟨b, off, rfl, hb, h3⟩ := (h.row hn).pos hn
 refine ⟨_, rfl, hb, fun j v hv => ?_⟩
 rw [List.getElem?_map] at hv
 obtain ⟨x, hx, rfl⟩ := Option.map_eq_some_iff.1 hv
 rw [add_plain]
 exact h3 j x hx
def box2 (w : World) : World := (w.alloc (.cells (zeros .u8 64) 249)).alloc (.cells (zeros .u8 64) 249)
theorem box2_below (w : World) : Below w.heap.size w (box2 w) := ((Below.refl _ _).alloc (Nat.le_refl _) _).alloc (by simp) _
theorem box2_new (w : World) : Blk (box2 w) (w.heap.size + 1) 249 .u8 (List.replicate 64 0) := by
 have := Blk.zeros (w.alloc (.cells (zeros .u8 64) 249)) 249 .u8 64
 rw [show (w.alloc (.cells (zeros .u8 64) 249)).heap.size = w.heap.size + 1 by simp] at this
 exact this
theorem box2_old (w : World) : Blk (box2 w) w.heap.size 249 .u8 (List.replicate 64 0) := (Blk.zeros w 249 .u8 64).alloc _
theorem copy_src {w : World} {p : Option Addr} {n c : Nat} {key : List Nat} (hr : RowIn w .u8 p n c key) :
  0 < (key.map fun (x : Nat) => Value.int .u8 (x : Int)).length -> ∃ ad, p = some ad /\ ∀ (j : Nat) (v : Value), (key.map fun (x : Nat) => Value.int .u8 (x : Int))[j]? = some v -> w.cell? (ad.add j) = some v := fun h => by
 obtain ⟨ad, h1, _, h2⟩ := rowin_src hr (by have := hr.len; simpa [this] using h)
 exact ⟨ad, h1, h2⟩
theorem u8_one (key : List Nat) : ∀ v ∈ (key.map fun (x : Nat) => Value.int .u8 (x : Int)), v.oneCell' = true := fun v hv => by
 obtain ⟨x, _, rfl⟩ := List.mem_map.1 hv
 rfl
theorem block_calls (w : World) (p : Option Addr) (n c : Nat) (key : List Nat) (hT : Tabs w) (hr : RowIn w .u8 p n c key) (h8 : Bytes8 key) :
  Calls Tryz.prog 213 #[.slice p n c] w fun e w' => e = .returned (.agg ((kblock key).map fun (x : Nat) => Value.int .u8 (x : Int)).toArray) /\ Below w.heap.size w w' := by
 have hm := hr.max
 have hcap := hr.cap
 have hsl := slice_keyBlock
 have HI := Lib.hid (infoKey (kblock key) (kblock_length key))
 have H1 := Lib.hid (ints_one .u8 (kblock key))
 have HS : Hid (((List.replicate 64 0).map fun (x : Nat) => Value.int .u8 x).toArray.size = ((kblock key).map fun (x : Nat) => Value.int .u8 x).toArray.size) := Lib.hid (by simp [kblock_length])
 have HSp : Hid (splice ((List.replicate 64 0).map fun (x : Nat) => Value.int .u8 x) 0 ((kkey key).map fun (x : Nat) => Value.int .u8 x) = (kblock key).map fun (x : Nat) => Value.int .u8 x) := Lib.hid (splice_noughts (kk := kkey key) (kkey_length key))
 have HG := Lib.hid (box2_new w)
 have HW := Lib.hid (box2_below w)
 have HO := Lib.hid (box2_old w)
 obtain ⟨Z, hZ⟩ : ∃ Z, ((List.replicate 64 0).map fun (x : Nat) => Value.int .u8 x) = Z := ⟨_, rfl⟩
 have HZ := Lib.hid hZ
 have HFit : Hid (0 + ((kkey key).map fun (x : Nat) => Value.int .u8 (x : Int)).length <= ((List.replicate 64 0).map fun (x : Nat) => Value.int .u8 (x : Int)).length) := Lib.hid (by have := kkey_length key; simp; omega)
 simp only [Blk, hZ] at HG HSp HFit HS HO
 clear hZ
 by_cases hn : n <= 64
 ·have HKK : Hid (kkey key = key) := by
   show kkey key = _
   unfold kkey
   rw [if_neg (by have := hr.len; omega)]
  rw [HKK.out] at HSp HFit
  have HSrc := hol (copy_src (hr.below (box2_below w)))
  have HN : Hid ((key.map fun (x : Nat) => Value.int .u8 (x : Int)).length = Nat.min n 64) := by
   show List.length _ = _
   rw [List.length_map, <- hr.len]
   exact (Nat.min_eq_left hn).symm
  generalize kblock key = B at *
  go_enter Tryz.func213, Tryz.ntmps213
  go_wp2_with (refine wpList_copy_splice rfl (.tmp 10) (.tmp 11) 60 60 rfl 5 Tryz.underlying60 (by kernel_rfl) (some ⟨w.heap.size + 1, 0, none⟩) p 64 64 n c rfl rfl (w.heap.size + 1) 0 Z 249 HG.out (key.map fun (x : Nat) => Value.int .u8 (x : Int)) HN.out (fun h => ⟨rfl, HSrc.out h⟩) HFit.out (u8_one key) (w.heap.size + 1) (box2 w) (Below.refl _ _) (Nat.le_refl _) ?_)
  intro w2 hg2 hb2
  have hg3 : Hid (Blk w2 (w.heap.size + 1) 249 .u8 B) := by
   show w2.heap[_]? = _
   rw [hg2.out, HSp.out]
  have ho3 : Hid (w2.heap[w.heap.size]? = some (.cells Z.toArray 249 (0, 0))) := (hb2.block w.heap.size (by omega)).trans HO.out
  have hb3 : Hid (Below w.heap.size w w2) := HW.out.trans (hb2.mono (by omega))
  clear hg2 hb2 HSp HFit HSrc HN HO HG HW
  go_wp2_with (first | (refine wpList_load_row rfl 249 _ rfl (w.heap.size + 1) rfl 249 (B.map fun (x : Nat) => Value.int .u8 x).toArray (0, 0) _ hg3.out Tryz.underlying249 rfl HI.out ?_) | (refine wpList_store_row rfl 249 _ _ rfl w.heap.size (B.map fun (x : Nat) => Value.int .u8 x).toArray rfl rfl 249 Z.toArray ho3.out HI.out HS.out H1.out ?_))
  have hend := setRow_heap w2 w.heap.size Z.toArray (B.map fun (x : Nat) => Value.int .u8 x).toArray 249 (0, 0) ho3.out
  exact bodyPost_ret (v := .agg (B.map fun (x : Nat) => Value.int .u8 x).toArray) (results_cell_row Tryz.results213 _ _ w.heap.size 249 _ (0, 0) _ rfl hend Tryz.underlying249 rfl HI.out) rfl ⟨rfl, below_setRow hb3.out (Nat.le_refl _) _⟩
 ·have HKK : Hid (kkey key = sha key) := by
   show kkey key = _
   unfold kkey
   rw [if_pos (by have := hr.len; omega)]
  rw [HKK.out] at HSp HFit
  have hz : (box2 w).heap.size = w.heap.size + 1 + 1 := by simp [box2]
  have hP := parts1 (box2 w) ⟨p, n, c, key⟩ ⟨hr.below (box2_below w), h8⟩
  rw [hz] at hP
  have HP := Lib.hid hP
  clear hP
  have HT2 := Lib.hid (hT.below (box2_below w) hT.size)
  have HN : Hid (((sha key).map fun (x : Nat) => Value.int .u8 (x : Int)).length = Nat.min 32 64) := by
   show List.length _ = _
   rw [List.length_map, sha_length]; rfl
  generalize kblock key = B at *
  have HW1 : Hid (Below (box2 w).heap.size (box2 w) ((box2 w).alloc (.cells #[.slice p n c] 60))) := Lib.hid ((Below.refl _ _).alloc (Nat.le_refl _) _)
  go_enter Tryz.func213, Tryz.ntmps213
  go_wp2_with fail
  refine calls_at (w1 := (box2 w).alloc (.cells #[.slice p n c] 60)) (by kernel_rfl) ?_
  refine (sum_calls ((box2 w).alloc (.cells #[.slice p n c] 60)) (some ⟨w.heap.size + 1 + 1, 0, none⟩) 1 1 [⟨p, n, c, key⟩] (HT2.out.below HW1.out HT2.out.size) HP.out).mono ?_
  rintro e w1 ⟨q, rfl, hq, hb1, hk1⟩
  rw [whole_one] at hk1
  dsimp only at hk1
  have hb2 : Below (box2 w).heap.size (box2 w) w1 := HW1.out.trans (hb1.mono HW1.out.size)
  have hrow : RowIn w1 .u8 (some ⟨q, 0, none⟩) 32 32 (sha key) := ⟨(sha_length _).symm, Nat.le_refl _, by omega, fun _ => hk1.row (sha_length _).symm (Nat.le_refl _) (by omega)⟩
  have HSrc := hol (copy_src hrow)
  have HG1 : Hid (w1.heap[w.heap.size + 1]? = some (.cells Z.toArray 249 (0, 0))) := (hb2.block (w.heap.size + 1) (by omega)).trans HG.out
  have HO1 : Hid (w1.heap[w.heap.size]? = some (.cells Z.toArray 249 (0, 0))) := (hb2.block w.heap.size (by omega)).trans HO.out
  have HW2 : Hid (Below w.heap.size w w1) := HW.out.trans (hb2.mono (by omega))
  clear hrow hk1 hb1 hb2 HG HO HW HP HT2 HW1 hq
  go_wp2_with (refine wpList_copy_splice rfl (.tmp 10) (.tmp 11) 60 60 rfl 5 Tryz.underlying60 (by kernel_rfl) (some ⟨w.heap.size + 1, 0, none⟩) (some ⟨q, 0, none⟩) 64 64 32 32 rfl rfl (w.heap.size + 1) 0 Z 249 HG1.out ((sha key).map fun (x : Nat) => Value.int .u8 (x : Int)) HN.out (fun h => ⟨rfl, HSrc.out h⟩) HFit.out (u8_one _) (w.heap.size + 1) w1 (Below.refl _ _) (Nat.le_refl _) ?_)
  intro w2 hg2 hb2
  have hg3 : Hid (Blk w2 (w.heap.size + 1) 249 .u8 B) := by
   show w2.heap[_]? = _
   rw [hg2.out, HSp.out]
  have ho3 : Hid (w2.heap[w.heap.size]? = some (.cells Z.toArray 249 (0, 0))) := (hb2.block w.heap.size (by omega)).trans HO1.out
  have hb3 : Hid (Below w.heap.size w w2) := HW2.out.trans (hb2.mono (by omega))
  clear hg2 hb2 HSp HFit HSrc HN HO1 HG1 HW2
  go_wp2_with (first | (refine wpList_load_row rfl 249 _ rfl (w.heap.size + 1) rfl 249 (B.map fun (x : Nat) => Value.int .u8 x).toArray (0, 0) _ hg3.out Tryz.underlying249 rfl HI.out ?_) | (refine wpList_store_row rfl 249 _ _ rfl w.heap.size (B.map fun (x : Nat) => Value.int .u8 x).toArray rfl rfl 249 Z.toArray ho3.out HI.out HS.out H1.out ?_))
  have hend := setRow_heap w2 w.heap.size Z.toArray (B.map fun (x : Nat) => Value.int .u8 x).toArray 249 (0, 0) ho3.out
  exact bodyPost_ret (v := .agg (B.map fun (x : Nat) => Value.int .u8 x).toArray) (results_cell_row Tryz.results213 _ _ w.heap.size 249 _ (0, 0) _ rfl hend Tryz.underlying249 rfl HI.out) rfl ⟨rfl, below_setRow hb3.out (Nat.le_refl _) _⟩
end Go.Proofs.YthgoeiegdhphjaaGreatDoor
