/- Rows of numbers that a call has laid, and that grow: the program's and the document's; where a grown row lies. -/
import Derived.Test.YtcbhgfiafamflaaGreatDoorGrpM
import Derived.Deep.Slices
import Derived.ChangeSame
import Derived.ChangeSlices
import Derived.ChangeArms
import Derived.Laws.OwnMore
import Derived.ArgAppend
import Derived.Laws.CopyOwn
set_option maxRecDepth 1000000
set_option maxHeartbeats 16000000
namespace Go.Proofs.YtcbhgfiafamflaaGreatDoor
open Go Go.RowKit Go.Proofs.YtcbhgfiafamflaaGreatDoor.Flow
def U64 (n : Nat) : Prop := n < 18446744073709551616
structure ClaimsIn (w : World) (p : Option Addr) (n c : Nat) (l : List StepN) : Prop where
 len : n = l.length
 cap : n ≤ c
 max : c ≤ 9223372036854775807
 u64 : ∀ s ∈ l, U64 s.n ∧ U64 s.base ∧ ∀ x ∈ s.ps, U64 x
 at_ : 0 < n → ∃ b off, p = some ⟨b, off, none⟩ ∧ b < w.heap.size ∧ ∀ i s, l[i]? = some s → ∃ q m d,
  w.cell? ⟨b, off + i * 3, none⟩ = some (.int .u64 (s.n : Nat)) ∧ w.cell? ⟨b, off + i * 3 + 1, none⟩ = some (.int .u64 (s.base : Nat)) ∧ w.cell? ⟨b, off + i * 3 + 2, none⟩ = some (.slice q m d) ∧ RowIn w .u64 q m d s.ps
theorem ClaimsIn.below {w w' : World} {p : Option Addr} {n c : Nat} {l : List StepN} (h : ClaimsIn w p n c l) (hb : Below w.heap.size w w') : ClaimsIn w' p n c l := by
 refine ⟨h.len, h.cap, h.max, h.u64, fun h0 => ?_⟩
 obtain ⟨b, off, h1, h2, h3⟩ := h.at_ h0
 refine ⟨b, off, h1, Nat.lt_of_lt_of_le h2 hb.size, fun i s hs => ?_⟩
 obtain ⟨q, m, d, k0, k1, k2, k3⟩ := h3 i s hs
 have hc : ∀ o, w'.cell? ⟨b, o, none⟩ = w.cell? ⟨b, o, none⟩ := fun o => hb.cell (p := ⟨b, o, none⟩) h2
 exact ⟨q, m, d, by rw [hc]; exact k0, by rw [hc]; exact k1, by rw [hc]; exact k2, k3.below hb⟩
end Go.Proofs.YtcbhgfiafamflaaGreatDoor
namespace Go.Proofs.YtcbhgfiafamflaaGreatDoor
open Go Go.RowKit Go.Deep Go.ChangeShapes Go.WideShapes
theorem rowIn_of64 {w : World} {a : Option Addr} {len cap : Nat} {zs : List Int}
  (h : (a = none ∧ len = 0 ∧ cap = 0 ∧ zs = []) ∨ ∃ x, a = some x ∧ len ≤ cap ∧ cap ≤ maxLen ∧ zs.length = cap ∧ (∀ i, i < zs.length → w.cell? (x.add i) = some (.int .u64 (zs.getD i 0))) ∧ ∀ n ∈ zs, (Lit.int .u64 n).wf = true) :
  RowIn w .u64 a len cap (bytesIn zs len) ∧ ∀ x ∈ bytesIn zs len, U64 x := by
 rcases h with ⟨rfl, rfl, rfl, rfl⟩ | ⟨x, rfl, hl, hm, hz, hc, hw⟩
 ·exact ⟨⟨by simp [bytesIn], Nat.le_refl _, by omega, fun h => absurd h (by omega)⟩, by simp [bytesIn]⟩
 ·have hm' : cap ≤ 9223372036854775807 := by simpa [maxLen] using hm
  have hlen : len = (bytesIn zs len).length := by simp [bytesIn]; omega
  refine ⟨⟨hlen, hl, hm', fun h0 => ?_⟩, ?_⟩
  ·obtain ⟨b, off, spot⟩ := x
   have h1 := hc 0 (by omega)
   have hspot : spot = none := by simpa [Addr.add] using World.cell?_spot h1
   subst hspot
   have hadd : ∀ i, (⟨b, off, none⟩ : Addr).add i = ⟨b, off + i, none⟩ := add_plain b off
   refine ⟨hlen, hl, hm', .inr ⟨b, off, rfl, ?_, fun i y hy => ?_⟩⟩
   ·rw [hadd] at h1
    unfold World.cell? at h1
    rcases Nat.lt_or_ge b w.heap.size with k | k
    ·exact k
    ·simp [Array.getElem?_eq_none k] at h1
   ·simp only [bytesIn, List.getElem?_map, List.getElem?_take] at hy
    split at hy
    ·rename_i hi
     have hi2 : i < zs.length := by omega
     rw [List.getElem?_eq_getElem hi2] at hy
     simp only [Option.map_some, Option.some.injEq] at hy
     have := wf_u64 (hw zs[i] (List.getElem_mem _))
     rw [← hadd, hc i hi2, ← hy, List.getD_eq_getElem?_getD, List.getElem?_eq_getElem hi2]
     simp only [Option.getD_some]
     congr 2
     omega
    ·simp at hy
  ·intro y hy
   simp only [bytesIn, List.mem_map] at hy
   obtain ⟨z, hz', rfl⟩ := hy
   have := wf_u64 (hw z (List.mem_of_mem_take hz'))
   unfold U64
   omega
instance : Inhabited StepN := ⟨⟨0, 0, []⟩⟩
end Go.Proofs.YtcbhgfiafamflaaGreatDoor
namespace Go.Proofs.YtcbhgfiafamflaaGreatDoor
open Go Go.RowKit Go.Proofs.YtcbhgfiafamflaaGreatDoor.Flow
structure KeptS (w w' : World) : Prop where
 size : w'.heap.size = w.heap.size
 cell : ∀ a v, w.cell? a = some v → (∀ p n c, v ≠ .slice p n c) → w'.cell? a = some v
theorem KeptS.trans {a b c : World} (h : KeptS a b) (k : KeptS b c) : KeptS a c := ⟨k.size.trans h.size, fun x v hx hn => k.cell x v (h.cell x v hx hn) hn⟩
theorem KeptS.set {w : World} {a : Addr} {p : Option Addr} {n c : Nat} (h : w.cell? a = some (.slice p n c)) (u : Value) : KeptS w (w.setCell a u) :=
 ⟨by simp, fun x v hx hn => by
  rw [World.cell?_setCell_other w a x u (fun e => by subst e; rw [h] at hx; cases hx; exact hn _ _ _ rfl)]; exact hx⟩
structure NumLike (At : World → Option Addr → Nat → Nat → Nat → Prop) : Prop where
 below : ∀ {w w' p n c N}, At w p n c N → Below w.heap.size w w' → At w' p n c N
 kept : ∀ {w w' p n c N}, At w p n c N → KeptS w w' → At w' p n c N
theorem natLike : NumLike NatAt := ⟨fun h hb => h.below hb, fun {w w' p n c N} h hk => by
 obtain ⟨ws, r1, r2, r3, r4⟩ := h.ex
 refine ⟨ws, ⟨r1.len, r1.cap, r1.max, ?_⟩, r2, r3, r4⟩
 rcases r1.at_ with k | ⟨b, off, k1, k2, k3⟩
 ·exact .inl k
 ·exact .inr ⟨b, off, k1, by rw [hk.size]; exact k2, fun i x hx => hk.cell _ _ (k3 i x hx) (fun _ _ _ e => by cases e)⟩⟩
theorem bitsLike : NumLike BitsAt := ⟨fun h hb => h.below hb, fun {w w' p n c N} h hk => by
 refine ⟨h.len, h.cap, h.max, ?_⟩
 rcases h.at_ with k | ⟨b, off, k1, k2, k3⟩
 ·exact .inl k
 ·exact .inr ⟨b, off, k1, by rw [hk.size]; exact k2, fun i x hx => hk.cell _ _ (k3 i x hx) (fun _ _ _ e => by cases e)⟩⟩
structure Box3 (t : TypeId) (w : World) (b : Nat) (v0 v1 v2 : Value) : Prop where
 at_ : w.heap[b]? = some (.cells #[v0, v1, v2] t (0, 0))
theorem Box3.lt {t : TypeId} {w : World} {b : Nat} {v0 v1 v2 : Value} (h : Box3 t w b v0 v1 v2) : b < w.heap.size := (Array.getElem?_eq_some_iff.1 h.at_).1
theorem Box3.below {t : TypeId} {w w' : World} {B b : Nat} {v0 v1 v2 : Value} (h : Box3 t w b v0 v1 v2) (hb : Below B w w') (hB : b < B) : Box3 t w' b v0 v1 v2 := ⟨by rw [hb.block b hB]; exact h.at_⟩
theorem Box3.cells {t : TypeId} {w : World} {b : Nat} {v0 v1 v2 : Value} (h : Box3 t w b v0 v1 v2) : w.cell? ⟨b, 0, none⟩ = some v0 ∧ w.cell? ⟨b, 1, none⟩ = some v1 ∧ w.cell? ⟨b, 2, none⟩ = some v2 := by
 have := h.at_
 simp [World.cell?, this]
theorem Box3.free {t : TypeId} {w : World} {b : Nat} {v0 v1 v2 : Value} (h : Box3 t w b v0 v1 v2) (j : Nat) : w.frozen? ⟨b, j, none⟩ = false := by
 have := h.at_
 simp [World.frozen?, this]
theorem Box3.set0 {t : TypeId} {w : World} {b : Nat} {v0 v1 v2 : Value} (h : Box3 t w b v0 v1 v2) (u : Value) : Box3 t (w.setCell ⟨b, 0, none⟩ u) b u v1 v2 := ⟨by
 have := h.at_
 simp [World.setCell, Array.getElem?_modify, this]⟩
theorem Box3.set1 {t : TypeId} {w : World} {b : Nat} {v0 v1 v2 : Value} (h : Box3 t w b v0 v1 v2) (u : Value) : Box3 t (w.setCell ⟨b, 1, none⟩ u) b v0 u v2 := ⟨by
 have := h.at_
 simp [World.setCell, Array.getElem?_modify, this]⟩
theorem Box3.set2 {t : TypeId} {w : World} {b : Nat} {v0 v1 v2 : Value} (h : Box3 t w b v0 v1 v2) (u : Value) : Box3 t (w.setCell ⟨b, 2, none⟩ u) b v0 v1 u := ⟨by
 have := h.at_
 simp [World.setCell, Array.getElem?_modify, this]⟩
theorem Box3.made (t : TypeId) (w : World) (v0 v1 v2 : Value) : Box3 t (w.alloc (.cells #[v0, v1, v2] t)) w.heap.size v0 v1 v2 := ⟨heap_alloc_new w _⟩
abbrev StepBox (At : World → Option Addr → Nat → Nat → Nat → Prop) (t : TypeId) (B0 N B : Nat) (v : Value) (w : World) : Prop :=
 ∃ (b : Nat) (x y : Option Addr × Nat × Nat), v = .pointer (some ⟨b, 0, none⟩) ∧ B0 ≤ b ∧ Box3 t w b (.slice x.1 x.2.1 x.2.2) (.slice y.1 y.2.1 y.2.2) (.slice none 0 0) ∧ At w x.1 x.2.1 x.2.2 N ∧ At w y.1 y.2.1 y.2.2 B
abbrev NumIs (At : World → Option Addr → Nat → Nat → Nat → Prop) (mk : Option Addr → Nat → Nat → Value) (N : Nat) (v : Value) (w : World) : Prop :=
 ∃ x : Option Addr × Nat × Nat, v = mk x.1 x.2.1 x.2.2 ∧ At w x.1 x.2.1 x.2.2 N
structure StepG (At : World → Option Addr → Nat → Nat → Nat → Prop) (mk : Option Addr → Nat → Nat → Value) (t : TypeId) (w0 : World) (N B : Nat) (d2 d5 d6 d7 d8 : Bool) (v2 v5 v6 v7 : Value) (w : World) : Prop where
 bel : Below w0.heap.size w0 w
 one : d2 = true → NumIs At mk N v2 w
 two : d5 = true → NumIs At mk B v5 w
 agg : d6 = true → ∃ x y : Option Addr × Nat × Nat, v6 = .agg #[.slice x.1 x.2.1 x.2.2, .slice y.1 y.2.1 y.2.2, .slice none 0 0] ∧ At w x.1 x.2.1 x.2.2 N ∧ At w y.1 y.2.1 y.2.2 B
 box : d7 = true → d8 = false → ∃ b, v7 = .pointer (some ⟨b, 0, none⟩) ∧ w0.heap.size ≤ b ∧ Box3 t w b (.slice none 0 0) (.slice none 0 0) (.slice none 0 0)
 full : d8 = true → StepBox At t w0.heap.size N B v7 w
section
variable {At : World → Option Addr → Nat → Nat → Nat → Prop} {mk : Option Addr → Nat → Nat → Value} {t : TypeId} {w0 : World} {N B : Nat} {d2 d5 d6 d7 : Bool} {v2 v5 v6 v7 : Value} {w : World}
theorem StepG.start : StepG At mk t w0 N B false false false false false v2 v5 v6 v7 w0.drew :=
 ⟨(Below.refl _ _).drew, (fun e => by cases e), (fun e => by cases e), (fun e => by cases e), (fun e => by cases e), (fun e => by cases e)⟩
theorem StepG.later (L : NumLike At) (h : StepG At mk t w0 N B d2 d5 d6 d7 false v2 v5 v6 v7 w) {w' : World} (hb : Below w.heap.size w w') : StepG At mk t w0 N B d2 d5 d6 d7 false v2 v5 v6 v7 w' :=
 ⟨bstepS h.bel hb, fun e => let ⟨x, h1, h2⟩ := h.one e; ⟨x, h1, L.below h2 hb⟩, fun e => let ⟨x, h1, h2⟩ := h.two e; ⟨x, h1, L.below h2 hb⟩,
 fun e => let ⟨x, y, h1, h2, h3⟩ := h.agg e; ⟨x, y, h1, L.below h2 hb, L.below h3 hb⟩, fun e e' => let ⟨b, h1, h2, h3⟩ := h.box e e'; ⟨b, h1, h2, h3.below hb h3.lt⟩, fun e => by cases e⟩
theorem StepG.put2 (h : StepG At mk t w0 N B false d5 d6 d7 false v2 v5 v6 v7 w) {v : Value} (hv : NumIs At mk N v w) : StepG At mk t w0 N B true d5 d6 d7 false v v5 v6 v7 w :=
 ⟨h.bel, fun _ => hv, h.two, h.agg, h.box, h.full⟩
theorem StepG.put5 (h : StepG At mk t w0 N B d2 false d6 d7 false v2 v5 v6 v7 w) {v : Value} (hv : NumIs At mk B v w) : StepG At mk t w0 N B d2 true d6 d7 false v2 v v6 v7 w :=
 ⟨h.bel, h.one, fun _ => hv, h.agg, h.box, h.full⟩
theorem StepG.put6 (h : StepG At mk t w0 N B d2 d5 false d7 false v2 v5 v6 v7 w) {x y : Option Addr × Nat × Nat} (hx : At w x.1 x.2.1 x.2.2 N) (hy : At w y.1 y.2.1 y.2.2 B) :
  StepG At mk t w0 N B d2 d5 true d7 false v2 v5 (.agg #[.slice x.1 x.2.1 x.2.2, .slice y.1 y.2.1 y.2.2, .slice none 0 0]) v7 w :=
 ⟨h.bel, h.one, h.two, fun _ => ⟨x, y, rfl, hx, hy⟩, h.box, h.full⟩
theorem StepG.put7 (L : NumLike At) (h : StepG At mk t w0 N B d2 d5 d6 false false v2 v5 v6 v7 w) :
  StepG At mk t w0 N B d2 d5 d6 true false v2 v5 v6 (.pointer (some ⟨w.heap.size, 0, none⟩)) (w.alloc (.cells #[.slice none 0 0, .slice none 0 0, .slice none 0 0] t)) := by
 have hb : Below w.heap.size w (w.alloc (.cells #[.slice none 0 0, .slice none 0 0, .slice none 0 0] t)) := bal
 have k := h.later L hb
 exact ⟨k.bel, k.one, k.two, k.agg, fun _ _ => ⟨_, rfl, h.bel.size, Box3.made t w _ _ _⟩, fun e => by cases e⟩
theorem StepG.put8 (L : NumLike At) (h : StepG At mk t w0 N B d2 d5 d6 d7 false v2 v5 v6 v7 w) {b : Nat} (hv : v7 = .pointer (some ⟨b, 0, none⟩)) (hB : w0.heap.size ≤ b) (hbx : Box3 t w b (.slice none 0 0) (.slice none 0 0) (.slice none 0 0))
  {x y : Option Addr × Nat × Nat} (hx : At w x.1 x.2.1 x.2.2 N) (hy : At w y.1 y.2.1 y.2.2 B) :
  StepG At mk t w0 N B d2 d5 d6 d7 true v2 v5 v6 v7 (((w.setCell ⟨b, 0, none⟩ (.slice x.1 x.2.1 x.2.2)).setCell ⟨b, 1, none⟩ (.slice y.1 y.2.1 y.2.2)).setCell ⟨b, 2, none⟩ (.slice none 0 0)) := by
 have b1 := hbx.set0 (.slice x.1 x.2.1 x.2.2)
 have b2 := b1.set1 (.slice y.1 y.2.1 y.2.2)
 have b3 := b2.set2 (.slice none 0 0)
 have hk := ((KeptS.set hbx.cells.1 (.slice x.1 x.2.1 x.2.2)).trans (KeptS.set b1.cells.2.1 (.slice y.1 y.2.1 y.2.2))).trans (KeptS.set b2.cells.2.2 (.slice none 0 0))
 refine ⟨((h.bel.setCell hB _).setCell hB _).setCell hB _, fun e => ?_, fun e => ?_, fun e => ?_, (fun _ e => by cases e), fun _ => ⟨b, x, y, hv, hB, b3, L.kept hx hk, L.kept hy hk⟩⟩
 ·obtain ⟨z, h1, h2⟩ := h.one e; exact ⟨z, h1, L.kept h2 hk⟩
 ·obtain ⟨z, h1, h2⟩ := h.two e; exact ⟨z, h1, L.kept h2 hk⟩
 ·obtain ⟨z, z', h1, h2, h3⟩ := h.agg e; exact ⟨z, z', h1, L.kept h2 hk, L.kept h3 hk⟩
end
end Go.Proofs.YtcbhgfiafamflaaGreatDoor
namespace Go.Proofs.YtcbhgfiafamflaaGreatDoor
open Go Go.RowKit Go.Proofs.YtcbhgfiafamflaaGreatDoor.Flow
def MovedV (w : World) (v v' : Value) : Prop := v'.ownBlock = v.ownBlock ∨ ∀ g, v'.ownBlock = some g → w.heap.size ≤ g
theorem run_appV {w : World} {B n size bytes : Nat} {st e : TypeId} {i : TypeInfo} {z : Value} (hu : Tryz.prog.underlying st = some (.slice e)) (hi : Tryz.prog.info? e = some i) (hz : i.zero = some z)
  (hs : i.size = size) (hb : i.bytes = bytes) (hzs : z.cells.size = size) (h0 : 0 < size) {v : Value} {us : List Value} (h : w.ownsRow B e size v n us) {a : Addr} {m c : Nat} {news : List Value} (hl : news.length = m * size)
  (hcell : ∀ j u, news[j]? = some u → w.cell? (a.add j) = some u) (hone : ∀ u ∈ news, u.oneCell' = true) (hmax : n + m ≤ maxLen) (hbytes : (n + m) * bytes ≤ 140737488355328) (hB : B ≤ w.heap.size) (ty : TypeId) :
  ∃ v' w', (Builtin.append_ #[st, st] ty #[v, .slice (some a) m c]).run Tryz.prog w = .ok v' w' ∧ w'.ownsRow B e size v' (n + m) (us ++ news) ∧ w.grownBy w' v.ownBlock ∧ MovedV w v v' := by
 obtain ⟨v', w', h1, h2, h3, _⟩ := run_append_own (P := Tryz.prog) w B st ty e i z size bytes hu hi hz hs hb hzs h0 v n us h a m c news hl hcell hone hmax hbytes hB
 refine ⟨v', w', h1, h2, h3, ?_⟩
 rcases h.2 with ⟨rfl, hn0⟩ | ⟨g, cap, cur, rfl, hbg, hg, hnc, hcm, hcs, ht⟩
 ·obtain ⟨v2, w2, k1, k2, _, _⟩ := run_append_own (P := Tryz.prog) w w.heap.size st ty e i z size bytes hu hi hz hs hb hzs h0 (.slice none 0 0) 0 [] (World.ownsRow_nil w _ _ _) a m c news hl hcell hone (by omega) (Nat.le_trans (Nat.mul_le_mul_right _ (by omega)) hbytes) (Nat.le_refl _)
  rw [h1] at k1
  injection k1 with k3 k4
  subst k3
  refine .inr fun g hg => ?_
  rcases k2.2 with ⟨e', _⟩ | ⟨g', cap, cur, e', hb', _⟩
  ·rw [e'] at hg; cases hg
  ·rw [e'] at hg
   obtain rfl : g' = g := by simpa [Value.ownBlock] using hg
   exact hb'
 ·by_cases hroom : n + m ≤ cap
  ·have hfit : n * i.size + news.length ≤ cur.size := by rw [hs, hcs, hl, ← Nat.add_mul]; exact Nat.mul_le_mul_right _ hroom
   have k1 := run_append_room (P := Tryz.prog) w st ty e i hu hi g n cap cur hg a m c news (by rw [hs]; exact hl) hcell hone hroom hfit
   rw [h1] at k1
   injection k1 with k2 _
   exact .inl (by rw [k2]; rfl)
  ·obtain ⟨v2, w2, k1, k2, _⟩ := run_append_arg_grows (P := Tryz.prog) w st ty e i z size bytes hu hi hz hs hb hzs h0 ⟨g, 0, none⟩ n cap us h.1
    (fun j u hj => World.ownsRow.cells h rfl j u hj) a m c news hl hcell (by omega) hmax hbytes
   rw [h1] at k1
   injection k1 with k3 k4
   subst k3
   refine .inr fun g hg => ?_
   rcases k2.2 with ⟨e', _⟩ | ⟨g', cap, cur, e', hb', _⟩
   ·rw [e'] at hg; cases hg
   ·rw [e'] at hg
    obtain rfl : g' = g := by simpa [Value.ownBlock] using hg
    exact hb'
structure Agree (bad : Nat → Prop) (w w' : World) : Prop where
 size : w.heap.size ≤ w'.heap.size
 block : ∀ b, b < w.heap.size → ¬ bad b → w'.heap[b]? = w.heap[b]?
theorem Agree.trans {bad : Nat → Prop} {a b c : World} (h : Agree bad a b) (k : Agree bad b c) : Agree bad a c :=
 ⟨Nat.le_trans h.size k.size, fun x hx hn => by rw [k.block x (Nat.lt_of_lt_of_le hx h.size) hn, h.block x hx hn]⟩
theorem Agree.of {bad : Nat → Prop} {w w' : World} (h : Below w.heap.size w w') : Agree bad w w' := ⟨h.size, fun b hb _ => h.block b hb⟩
theorem Agree.grown {bad : Nat → Prop} {w w' : World} {row : Option Nat} (h : w.grownBy w' row) (hr : ∀ g, row = some g → bad g) : Agree bad w w' :=
 ⟨h.size, fun b hb hn => h.block b hb fun e => hn (hr b e.symm)⟩
theorem Agree.set {bad : Nat → Prop} (w : World) (g o : Nat) (u : Value) (hg : bad g) : Agree bad w (w.setCell ⟨g, o, none⟩ u) :=
 ⟨by simp, fun b _ hn => Below.heap_setCell _ _ _ _ fun e => hn (by rw [show b = g from e]; exact hg)⟩
def Firm (F : World → Prop) (bad : Nat → Prop) (w : World) : Prop := ∀ w', Agree bad w w' → F w'
theorem Firm.out {F : World → Prop} {bad : Nat → Prop} {w : World} (h : Firm F bad w) : F w := h w ⟨Nat.le_refl _, fun _ _ _ => rfl⟩
theorem Firm.step {F : World → Prop} {bad : Nat → Prop} {w w' : World} (h : Firm F bad w) (a : Agree bad w w') : Firm F bad w' := fun w2 k => h w2 (a.trans k)
theorem Firm.more {F : World → Prop} {bad bad' : Nat → Prop} {w : World} (h : Firm F bad w) (hb : ∀ b, b < w.heap.size → bad' b → bad b) : Firm F bad' w :=
 fun w2 k => h w2 ⟨k.size, fun b hlt hn => k.block b hlt fun e => hn (hb b hlt e)⟩
structure NumStands (At : World → Option Addr → Nat → Nat → Nat → Prop) : Prop where
 stay : ∀ {w w' p n c N}, At w p n c N → w.heap.size ≤ w'.heap.size → (∀ q, p = some q → ∀ o, w'.cell? ⟨q.block, o, none⟩ = w.cell? ⟨q.block, o, none⟩) → At w' p n c N
 lt : ∀ {w p n c N}, At w p n c N → ∀ q, p = some q → q.block < w.heap.size
theorem natStands : NumStands NatAt := ⟨fun {w w' p n c N} h hz hc => by
 obtain ⟨ws, r1, r2, r3, r4⟩ := h.ex
 refine ⟨ws, ⟨r1.len, r1.cap, r1.max, ?_⟩, r2, r3, r4⟩
 rcases r1.at_ with k | ⟨b, off, k1, k2, k3⟩
 ·exact .inl k
 ·exact .inr ⟨b, off, k1, Nat.lt_of_lt_of_le k2 hz, fun i x hx => by rw [hc _ k1]; exact k3 i x hx⟩, fun {w p n c N} h q hq => by
 obtain ⟨ws, r1, _⟩ := h.ex
 rcases r1.at_ with k | ⟨b, off, k1, k2, k3⟩
 ·rw [k.1] at hq; cases hq
 ·rw [k1] at hq; cases hq; exact k2⟩
theorem bitsStands : NumStands BitsAt := ⟨fun {w w' p n c N} h hz hc => by
 refine ⟨h.len, h.cap, h.max, ?_⟩
 rcases h.at_ with k | ⟨b, off, k1, k2, k3⟩
 ·exact .inl k
 ·exact .inr ⟨b, off, k1, Nat.lt_of_lt_of_le k2 hz, fun i x hx => by rw [hc _ k1]; exact k3 i x hx⟩, fun {w p n c N} h q hq => by
 rcases h.at_ with k | ⟨b, off, k1, k2, k3⟩
 ·rw [k.1] at hq; cases hq
 ·rw [k1] at hq; cases hq; exact k2⟩
theorem NumStands.firm {At : World → Option Addr → Nat → Nat → Nat → Prop} (S : NumStands At) {w : World} {p : Option Addr} {n c N : Nat} (h : At w p n c N) {bad : Nat → Prop} (hb : ∀ q, p = some q → ¬ bad q.block) : Firm (fun w => At w p n c N) bad w :=
 fun _ k => S.stay h k.size fun q hq o => World.cell?_of_block (a := ⟨q.block, o, none⟩) (k.block q.block (S.lt h q hq) (hb q hq))
theorem NumStands.fresh {At : World → Option Addr → Nat → Nat → Nat → Prop} (S : NumStands At) {w : World} {p : Option Addr} {n c N B : Nat} (h : At w p n c N) (hn : New B p) {bad : Nat → Prop} (hb : ∀ b, bad b → b < B) : Firm (fun w => At w p n c N) bad w :=
 S.firm h fun q hq e => by have := hb _ e; have := hn q hq; omega
structure OwnV (At : World → Option Addr → Nat → Nat → Nat → Prop) (e : TypeId) (B : Nat) (bad : Nat → Prop) (w : World) (v : Value) (Ns : List Nat) : Prop where
 ex : ∃ vs : List Value, w.ownsRow B e 1 v Ns.length vs ∧ vs.length = Ns.length ∧ ∀ (i N : Nat), Ns[i]? = some N → ∃ x : Option Addr × Nat × Nat, vs[i]? = some (.slice x.1 x.2.1 x.2.2) ∧ Firm (fun w => At w x.1 x.2.1 x.2.2 N) bad w
section
variable {At : World → Option Addr → Nat → Nat → Nat → Prop} {e : TypeId} {B : Nat} {bad : Nat → Prop} {w : World} {v : Value} {Ns : List Nat}
theorem OwnV.nil : OwnV At e B bad w (.slice none 0 0) [] := ⟨[], World.ownsRow_nil w B e 1, rfl, fun i N h => by simp at h⟩
theorem ownsRow_keep {w' : World} {n size : Nat} {us : List Value} (h : w.ownsRow B e size v n us) (hk : ∀ g, v.ownBlock = some g → w'.heap[g]? = w.heap[g]?) : w'.ownsRow B e size v n us := by
 refine ⟨h.1, ?_⟩
 rcases h.2 with h4 | ⟨g, cap, cur, e', hbg, hg, h5⟩
 ·exact .inl h4
 ·exact .inr ⟨g, cap, cur, e', hbg, by rw [hk g (by rw [e']; rfl)]; exact hg, h5⟩
theorem ownsRow_block {n size : Nat} {us : List Value} (h : w.ownsRow B e size v n us) : ∀ g, v.ownBlock = some g → B ≤ g ∧ g < w.heap.size := by
 intro g hg
 rcases h.2 with ⟨rfl, _⟩ | ⟨g', cap, cur, rfl, hbg, hg', _⟩
 ·cases hg
 ·obtain rfl : g' = g := by simpa [Value.ownBlock] using hg
  exact ⟨hbg, (Array.getElem?_eq_some_iff.1 hg').1⟩
theorem OwnV.block (h : OwnV At e B bad w v Ns) : ∀ g, v.ownBlock = some g → B ≤ g ∧ g < w.heap.size := by obtain ⟨_, h1, _⟩ := h.ex; exact ownsRow_block h1
theorem OwnV.step {w' : World} (h : OwnV At e B bad w v Ns) (a : Agree bad w w') (hk : ∀ g, v.ownBlock = some g → w'.heap[g]? = w.heap[g]?) : OwnV At e B bad w' v Ns := by
 obtain ⟨vs, h1, h2, h3⟩ := h.ex
 refine ⟨vs, ownsRow_keep h1 hk, h2, fun i N hN => ?_⟩
 obtain ⟨x, k1, k2⟩ := h3 i N hN
 exact ⟨x, k1, k2.step a⟩
theorem OwnV.below {w' : World} (h : OwnV At e B bad w v Ns) (hb : Below w.heap.size w w') : OwnV At e B bad w' v Ns := h.step (.of hb) fun g hg => hb.block g (h.block g hg).2
theorem OwnV.more {bad' : Nat → Prop} (h : OwnV At e B bad w v Ns) (hb : ∀ b, b < w.heap.size → bad' b → bad b) : OwnV At e B bad' w v Ns := by
 obtain ⟨vs, h1, h2, h3⟩ := h.ex
 refine ⟨vs, h1, h2, fun i N hN => ?_⟩
 obtain ⟨x, k1, k2⟩ := h3 i N hN
 exact ⟨x, k1, k2.more hb⟩
theorem OwnV.app {st : TypeId} {bytes : Nat} {i : TypeInfo} (hu : Tryz.prog.underlying st = some (.slice e)) (hi : Tryz.prog.info? e = some i)
  {z : Value} (hz : i.zero = some z) (hs : i.size = 1) (hb : i.bytes = bytes) (hzs : z.cells.size = 1) (hby : bytes ≤ 1000) (h : OwnV At e B bad w v Ns) (hB : B ≤ w.heap.size) {a : Addr} {c N : Nat} {x : Option Addr × Nat × Nat} (hc : w.cell? a = some (.slice x.1 x.2.1 x.2.2))
  (hN : Firm (fun w => At w x.1 x.2.1 x.2.2 N) bad w) (hv : ∀ g, v.ownBlock = some g → bad g) (hl : Ns.length ≤ 1000000) (ty : TypeId) :
  ∃ v' w', (Builtin.append_ #[st, st] ty #[v, .slice (some a) 1 c]).run Tryz.prog w = .ok v' w' ∧ OwnV At e B bad w' v' (Ns ++ [N]) ∧ w.grownBy w' v.ownBlock ∧ MovedV w v v' := by
 obtain ⟨vs, h1, h2, h3⟩ := h.ex
 have ha0 : a.add 0 = a := by obtain ⟨b, o, s⟩ := a; simp [Addr.add]
 obtain ⟨v', w', k1, k2, k3, k4⟩ := run_appV hu hi hz hs hb hzs (by decide) h1 (a := a) (m := 1) (c := c) (news := [.slice x.1 x.2.1 x.2.2]) rfl
  (fun j u hj => by
   cases j with
   | zero => simp at hj; subst hj; rw [ha0]; exact hc
   | succ j => simp at hj)
  (fun u hj => by simp at hj; subst hj; rfl) (by simp only [maxLen]; omega) (Nat.le_trans (Nat.mul_le_mul (Nat.add_le_add_right hl 1) hby) (by decide)) hB ty
 have ag : Agree bad w w' := .grown k3 hv
 refine ⟨v', w', k1, ⟨vs ++ [.slice x.1 x.2.1 x.2.2], by rw [List.length_append]; exact k2, by simp [h2], fun j M hM => ?_⟩, k3, k4⟩
 rcases Nat.lt_or_ge j Ns.length with hj | hj
 ·rw [List.getElem?_append_left hj] at hM
  obtain ⟨y, g1, g2⟩ := h3 j M hM
  exact ⟨y, by rw [List.getElem?_append_left (by omega)]; exact g1, g2.step ag⟩
 ·rw [List.getElem?_append_right hj] at hM
  obtain ⟨t, ht⟩ : ∃ t, j - Ns.length = t := ⟨_, rfl⟩
  rw [ht] at hM
  cases t with
  | zero =>
   simp at hM
   subst hM
   exact ⟨x, by rw [List.getElem?_append_right (by omega), h2, ht]; rfl, hN.step ag⟩
  | succ t => simp at hM
theorem OwnV.elim (h : OwnV At e B bad w v Ns) : ∃ p c, v = .slice p Ns.length c ∧ Ns.length ≤ c ∧ c ≤ 9223372036854775807 ∧ (p = none → c = 0) ∧
  (0 < Ns.length → ∃ b off, p = some ⟨b, off, none⟩ ∧ b < w.heap.size ∧ ∀ (i N : Nat), Ns[i]? = some N → ∃ q m d, w.cell? ⟨b, off + i, none⟩ = some (.slice q m d) ∧ At w q m d N) := by
 obtain ⟨vs, h1, h2, h3⟩ := h.ex
 rcases h1.2 with ⟨rfl, h0⟩ | ⟨g, cap, cur, rfl, hb, hg, hnc, hcm, hcs, ht⟩
 ·exact ⟨none, 0, by rw [h0], by omega, by omega, fun _ => rfl, fun h => by omega⟩
 ·have hlt : g < w.heap.size := (Array.getElem?_eq_some_iff.1 hg).1
  refine ⟨some ⟨g, 0, none⟩, cap, rfl, hnc, by simpa [maxLen] using hcm, (fun h => by cases h), fun _ => ⟨g, 0, rfl, hlt, fun i N hN => ?_⟩⟩
  obtain ⟨x, h4, h5⟩ := h3 i N hN
  refine ⟨x.1, x.2.1, x.2.2, ?_, h5.out⟩
  have hi : i < Ns.length := (List.getElem?_eq_some_iff.1 hN).1
  have h6 : (cur.toList.take (Ns.length * 1))[i]? = some (.slice x.1 x.2.1 x.2.2) := by rw [ht]; exact h4
  rw [List.getElem?_take, if_pos (by omega)] at h6
  unfold World.cell?
  dsimp only
  rw [hg]
  simp only [Nat.zero_add]
  rw [Array.getElem?_toList] at h6
  exact h6
end
theorem OwnV.plist {t : TypeId} {B e : Nat} {bad : Nat → Prop} {w : World} {v : Value} {Ns : List Nat} (h : OwnV NatAt t B bad w v Ns) (hl : ∀ N ∈ Ns, N < B32 e) : ∃ p c, v = .slice p Ns.length c ∧ PList w e p Ns.length c Ns := by
 obtain ⟨p, c, h1, h2, h3, h4, h5⟩ := h.elim
 refine ⟨p, c, h1, rfl, h2, h3, h4, fun h0 => ?_⟩
 obtain ⟨b, off, g1, g2, g3⟩ := h5 h0
 exact ⟨b, off, g1, g2, fun i N hN => let ⟨q, m, d, k1, k2⟩ := g3 i N hN; ⟨q, m, d, k1, k2, hl N (List.mem_of_getElem? hN)⟩⟩
theorem OwnV.nlist {t : TypeId} {B : Nat} {bad : Nat → Prop} {w : World} {v : Value} {Ns : List Nat} (h : OwnV BitsAt t B bad w v Ns) : ∃ p c, v = .slice p Ns.length c ∧ NList w p Ns.length c Ns := by
 obtain ⟨p, c, h1, h2, h3, _, h5⟩ := h.elim
 exact ⟨p, c, h1, rfl, h2, h3, fun h0 => h5 h0⟩
end Go.Proofs.YtcbhgfiafamflaaGreatDoor
