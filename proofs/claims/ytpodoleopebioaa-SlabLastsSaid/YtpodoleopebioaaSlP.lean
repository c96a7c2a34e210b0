/- Deeds on a slab: what they are in memory; few, do. -/
import Derived.Test.YtpodoleopebioaaSlSca
namespace Go.Proofs.Ytpodoleopebioaa
open Go Go.RowKit Go.Maps Go.Proofs.Ytpodoleopebioaa.Flow
set_option maxRecDepth 100000

/-- Bytes of one's own that are all one, in none of a slab's blocks. -/
def PlainO (b g m x : Nat) (v : Value) (w : World) : Prop := ∃ q, v = .slice (some ⟨q, 0, none⟩) 64 64 ∧ Blk w q 5 .u8 (plainN x) ∧ q ≠ b ∧ q ≠ g ∧ q ≠ m
theorem PlainO.oth {b g m x : Nat} {v : Value} {w w' : World} (h : PlainO b g m x v w) (ho : Oth b g m w w') : PlainO b g m x v w' := let ⟨q, h1, h2, h3⟩ := h; ⟨q, h1, blk_oth h2 ho h3, h3⟩
theorem plain_o {w : World} {b g m : Nat} {S : SM} (h : SlabAt w b g m S) {x : Nat} (hx : x < 256) : Calls Try.prog 13 #[.int .u8 (x : Nat)] w fun e w' => ∃ u, e = .returned u ∧ PlainO b g m x u w' ∧ Below w.heap.size w w' := by
  refine (plain_calls w hx).mono ?_
  rintro e w1 ⟨_, rfl, ⟨q, rfl, hq⟩, hb⟩
  exact ⟨_, rfl, ⟨q, rfl, hq, fresh_ne hq (h.later hb)⟩, hb⟩
theorem ink_plain {w : World} {b g m : Nat} {S : SM} (h : SlabAt w b g m S) (k : Int) {x : Nat} {v : Value} (hv : PlainO b g m x v w) (hx : x < 256) :
    Calls Try.prog 12 #[.pointer (some ⟨b, 0, none⟩), .int .i64 k, v] w fun e w' => e = .returned (.int .i64 (S.put k (plainN x)).1) ∧ SlabAt w' b g m (S.put k (plainN x)).2 ∧ Oth b g m w w' := by
  obtain ⟨q, rfl, hq, hn⟩ := hv
  exact ink_calls h k (row_in (blk_row64 hq (plainN_len x))) (plainN_8 hx) (fun a e => by cases e; exact hn)

/-- A deed. -/
structure DeedN where
  kind : Int
  at_ : Int
  n : Int
  x : Nat
  scars : List (Int × List Nat)
def SM.deed (S : SM) (d : DeedN) : SM :=
  if d.kind = 0 then (S.put d.at_ (plainN d.x)).2 else if d.kind = 2 then S.burn.2 else if d.kind = 3 then S.supply d.n else if d.kind = 4 then S.wake d.scars else S

theorem scars_low {w : World} {p : Option Addr} {n c : Nat} {l : List (Int × List Nat)} {qs : List (Option Addr × Nat × Nat)} (h : ScarsIn w p n c l qs) : ∀ q ∈ qs, 0 < q.2.1 → ∀ a, q.1 = some a → a.block < w.heap.size := by
  intro q hq h0 a ha
  obtain ⟨i, hi⟩ := List.getElem?_of_mem hq
  have hil : i < l.length := by have := (List.getElem?_eq_some_iff.1 hi).1; rw [h.qlen] at this; exact this
  obtain ⟨b, off, _, _, hat⟩ := h.at_ (by rw [h.len]; omega)
  obtain ⟨bb, off2, e, hlt, _⟩ := ((hat i l[i] q (List.getElem?_eq_getElem hil) hi).row.row h0).pos h0
  rw [e] at ha
  cases ha
  exact hlt

/-- What a deed is told by. -/
structure DeedOk (w : World) (d : DeedN) (t : Option Addr × Nat × Nat) : Prop where
  nmax : d.n ≤ 9223372036854775807
  x8 : d.x < 256
  scars : ∃ qs, ScarsIn w t.1 t.2.1 t.2.2 d.scars qs
def deedV (d : DeedN) (t : Option Addr × Nat × Nat) : Value := .agg #[.int .i64 d.kind, .int .i64 d.at_, .int .i64 d.n, .int .u8 (d.x : Nat), .slice t.1 t.2.1 t.2.2]
structure DeedAt (w : World) (b o : Nat) (d : DeedN) (t : Option Addr × Nat × Nat) : Prop where
  c0 : w.cell? ⟨b, o, none⟩ = some (.int .i64 d.kind)
  c1 : w.cell? ⟨b, o + 1, none⟩ = some (.int .i64 d.at_)
  c2 : w.cell? ⟨b, o + 2, none⟩ = some (.int .i64 d.n)
  c3 : w.cell? ⟨b, o + 3, none⟩ = some (.int .u8 (d.x : Nat))
  c4 : w.cell? ⟨b, o + 4, none⟩ = some (.slice t.1 t.2.1 t.2.2)
  ok : DeedOk w d t
structure DeedsIn (w : World) (p : Option Addr) (n c : Nat) (l : List DeedN) (ts : List (Option Addr × Nat × Nat)) : Prop where
  len : n = l.length
  tlen : ts.length = l.length
  cap : n ≤ c
  max : c ≤ 9223372036854775807
  at_ : 0 < n → ∃ b off, p = some ⟨b, off, none⟩ ∧ b < w.heap.size ∧ ∀ (i : Nat) d t, l[i]? = some d → ts[i]? = some t → DeedAt w b (off + i * 5) d t
theorem DeedOk.below {w w' : World} {d : DeedN} {t : Option Addr × Nat × Nat} (h : DeedOk w d t) (hb : Below w.heap.size w w') : DeedOk w' d t := ⟨h.nmax, h.x8, let ⟨qs, h1⟩ := h.scars; ⟨qs, h1.below hb⟩⟩
theorem DeedAt.below {w w' : World} {b o : Nat} {d : DeedN} {t : Option Addr × Nat × Nat} (h : DeedAt w b o d t) (hb : Below w.heap.size w w') : DeedAt w' b o d t := by
  have hlt : b < w.heap.size := cell_lt h.c0
  exact ⟨(hb.cell (p := ⟨b, o, none⟩) hlt).trans h.c0, (hb.cell (p := ⟨b, o + 1, none⟩) hlt).trans h.c1, (hb.cell (p := ⟨b, o + 2, none⟩) hlt).trans h.c2, (hb.cell (p := ⟨b, o + 3, none⟩) hlt).trans h.c3, (hb.cell (p := ⟨b, o + 4, none⟩) hlt).trans h.c4, h.ok.below hb⟩
theorem DeedsIn.below {w w' : World} {p : Option Addr} {n c : Nat} {l : List DeedN} {ts : List (Option Addr × Nat × Nat)} (h : DeedsIn w p n c l ts) (hb : Below w.heap.size w w') : DeedsIn w' p n c l ts :=
  ⟨h.len, h.tlen, h.cap, h.max, fun h0 => let ⟨b, off, h1, h2, h3⟩ := h.at_ h0; ⟨b, off, h1, Nat.lt_of_lt_of_le h2 hb.size, fun i d t hd ht => (h3 i d t hd ht).below hb⟩⟩

set_option maxHeartbeats 4000000 in
set_option maxRecDepth 100000 in
theorem do_raw {w0 w : World} {b g m : Nat} {S : SM} (h : SlabAt w b g m S) {dk da dn : Int} {dx : Nat} {ds : List (Int × List Nat)} {t1 : Option Addr} {tn tc : Nat} (hd : DeedOk w0 ⟨dk, da, dn, dx, ds⟩ (t1, tn, tc)) (hb0 : Below w0.heap.size w0 w) (hn : w0.heap.size ≤ b ∧ w0.heap.size ≤ g ∧ w0.heap.size ≤ m) :
    Calls Try.prog 28 #[.pointer (some ⟨b, 0, none⟩), .agg #[.int .i64 dk, .int .i64 da, .int .i64 dn, .int .u8 (dx : Nat), .slice t1 tn tc]] w fun e w' => e = .returned (.tuple #[]) ∧ SlabAt w' b g m (S.deed ⟨dk, da, dn, dx, ds⟩) ∧ Oth b g m w w' := by
  obtain ⟨qs, hsc⟩ := hd.scars
  have HX : Hold (dx < 256) := ⟨hd.x8⟩
  have HNM : Hold (dn ≤ 9223372036854775807) := ⟨hd.nmax⟩
  have hbw : Below w.heap.size w (w.alloc (.cells #[.int .i64 dk, .int .i64 da, .int .i64 dn, .int .u8 (dx : Nat), .slice t1 tn tc] 44)) := (Below.refl _ _).alloc (Nat.le_refl _) _
  have HNE : Hold (∀ q ∈ qs, 0 < q.2.1 → ∀ a, q.1 = some a → a.block ≠ b ∧ a.block ≠ g ∧ a.block ≠ m) := ⟨fun q hq h0 a ha => by have := scars_low hsc q hq h0 a ha; omega⟩
  have hsx := h.later hbw
  have hscx : ScarsIn _ t1 tn tc ds qs := (hsc.below hb0).below hbw
  have HLTw : Hold _ := ⟨h.lts⟩
  clear hsc hd hb0 hn h
  go_enter Try.func28, Try.ntmps28
  have start : ∀ (D : Int), dk = D → ∃ wx q3, w.alloc (.cells #[.int .i64 D, .int .i64 da, .int .i64 dn, .int .u8 (dx : Nat), .slice t1 tn tc] 44) = wx ∧ w.heap.size = q3 ∧ Hold (SlabAt wx b g m S) ∧ Hold (Oth b g m w wx) ∧ Hold (ScarsIn wx t1 tn tc ds qs) ∧ Hold (b < q3 ∧ g < q3 ∧ m < q3) ∧ Hold (∀ w', Oth b g m wx w' → w'.cell? ⟨q3, 0, none⟩ = some (.int .i64 D) ∧ w'.cell? ⟨q3, 1, none⟩ = some (.int .i64 da) ∧ w'.cell? ⟨q3, 2, none⟩ = some (.int .i64 dn) ∧ w'.cell? ⟨q3, 3, none⟩ = some (.int .u8 (dx : Nat)) ∧ w'.cell? ⟨q3, 4, none⟩ = some (.slice t1 tn tc)) := by
    intro D hD
    subst hD
    refine ⟨_, _, rfl, rfl, ⟨hsx⟩, ⟨Oth.of hbw⟩, ⟨hscx⟩, ⟨HLTw.out⟩, ⟨fun w' ho => ?_⟩⟩
    have hbx := heap_alloc_new w (.cells #[.int .i64 dk, .int .i64 da, .int .i64 dn, .int .u8 (dx : Nat), .slice t1 tn tc] 44)
    have e : w'.heap[w.heap.size]? = _ := (ho.at_ (Array.getElem?_eq_some_iff.1 hbx).1 (by have := HLTw.out; omega) (by have := HLTw.out; omega) (by have := HLTw.out; omega)).trans hbx
    unfold World.cell?
    rw [e]
    exact ⟨rfl, rfl, rfl, rfl, rfl⟩
  have HSTART : Hold _ := ⟨start⟩
  clear start hsx hscx hbw
  by_cases h0 : dk = 0
  · subst h0
    have HE : Hold (S.deed ⟨0, da, dn, dx, ds⟩ = (S.put da (plainN dx)).2) := ⟨rfl⟩
    obtain ⟨wx, q3, hwx, hq3, HSX, HOX, HSC, HLT, HC⟩ := HSTART.out 0 rfl
    obtain ⟨k0, k1, k2, k3, k4⟩ := HC.out wx (Oth.refl _ _ _ _)
    go_wp2
    refine wp_region_duties (by kernel_rfl) (by kernel_rfl)
      [some (.pointer (some ⟨b, 0, none⟩)), some (.pointer (some ⟨q3, 1, none⟩)), some (.int .i64 da), some (.pointer (some ⟨q3, 3, none⟩)), some (.int .u8 (dx : Nat)), none, none]
      [false, false, false, false, false, true, true] rfl
      (fun w1 w2 => Oth b g m w1 w2)
      (fun D w' => SlabAt w' b g m (cond (D 6) (S.put da (plainN dx)).2 S) ∧ Oth b g m wx w')
      (fun i v w' => match i with
        | 5 => PlainO b g m dx v w'
        | 6 => True
        | _ => True)
      ?_ ⟨HSX.out.later (Below.refl _ _).drew, Oth.of (Below.refl _ _).drew⟩ ?_ ?_
    · intro i v w1 w2 hf hb
      split at hf
      · exact hf.oth hb
      · exact hf
      · trivial
    · simp only [Duties, Nat.reduceAdd]
      refine ⟨?_, ?_, ?_, ?_, ?_, ?_, ?_, trivial⟩
      case refine_1 =>
        intro D sp w' hD hW hdp hbx'
        (with_reducible refine asked_value (w1 := w') (v := .pointer (some ⟨b, 0, none⟩)) ?_ ?_ ?_)
        · first | (simp only [Region.wanted]; done) | simp [Region.wanted, yielded, Act.put, go_sem]
        · simp [execOp, Act.eval, go_sem]
        · exact ⟨rfl, rfl⟩
      case refine_2 =>
        intro D sp w' hD hW hdp hbx'
        (with_reducible refine asked_value (w1 := w') (v := .pointer (some ⟨q3, 1, none⟩)) ?_ ?_ ?_)
        · first | (simp only [Region.wanted]; done) | simp [Region.wanted, yielded, Act.put, go_sem]
        · simp [execOp, Act.eval, Act.put, go_sem]
        · exact ⟨rfl, rfl⟩
      case refine_3 =>
        intro D sp w' hD hW hdp hbx'
        have c1 := (HC.out w' hbx'.2).2.1
        (with_reducible refine asked_value (w1 := w') (v := .int .i64 da) ?_ ?_ ?_)
        · first | (simp only [Region.wanted]; done) | simp [Region.wanted, yielded, Act.put, go_sem]
        · simp [execOp, Act.eval, Act.put, go_sem, c1]
        · exact ⟨rfl, rfl⟩
      case refine_4 =>
        intro D sp w' hD hW hdp hbx'
        (with_reducible refine asked_value (w1 := w') (v := .pointer (some ⟨q3, 3, none⟩)) ?_ ?_ ?_)
        · first | (simp only [Region.wanted]; done) | simp [Region.wanted, yielded, Act.put, go_sem]
        · simp [execOp, Act.eval, Act.put, go_sem]
        · exact ⟨rfl, rfl⟩
      case refine_5 =>
        intro D sp w' hD hW hdp hbx'
        have c3 := (HC.out w' hbx'.2).2.2.2.1
        (with_reducible refine asked_value (w1 := w') (v := .int .u8 (dx : Nat)) ?_ ?_ ?_)
        · first | (simp only [Region.wanted]; done) | simp [Region.wanted, yielded, Act.put, go_sem]
        · simp [execOp, Act.eval, Act.put, go_sem, c3]
        · exact ⟨rfl, rfl⟩
      case refine_6 =>
        intro D sp w' hD hW hdp hbx'
        (with_reducible refine asked_call (w1 := w') (f := 13) (args := #[.int .u8 (dx : Nat)]) ?_ ?_ ?_)
        · first | (simp only [Region.wanted]; done) | simp [Region.wanted, yielded, Act.put, go_sem]
        · simp [Act.eval, Act.put, go_sem]
        · refine (plain_o hbx'.1 (x := dx) HX.out).mono ?_
          rintro en w9 ⟨u, rfl, hu, hb⟩
          exact ⟨u, rfl, Oth.of hb, hu, by simp; exact hbx'.1.later hb, hbx'.2.trans (Oth.of hb)⟩
      case refine_7 =>
        intro D sp w' hD hW hdp hbx'
        have hs0 : SlabAt w' b g m S := by have h9 := hbx'.1; rw [hD] at h9; exact h9
        have k5 : PlainO b g m dx (sp 5) w' := (hdp 5 (List.mem_of_elem_eq_true (by kernel_rfl))).2
        (with_reducible refine asked_call (w1 := w') (f := 12) (args := #[.pointer (some ⟨b, 0, none⟩), .int .i64 da, sp 5]) ?_ ?_ ?_)
        · first | (simp only [Region.wanted]; done) | simp [Region.wanted, yielded, Act.put, go_sem]
        · simp [Act.eval, Act.put, go_sem]
        · refine (ink_plain hs0 da k5 HX.out).mono ?_
          rintro en w9 ⟨rfl, hs2, ho2⟩
          exact ⟨_, rfl, ho2, trivial, by simp; exact hs2, hbx'.2.trans ho2⟩
    · intro sp w7 hsp hbx'
      have HF1 : Hold (SlabAt w7 b g m (S.put da (plainN dx)).2) := ⟨hbx'.1⟩
      have HF2 : Hold (Oth b g m w w7) := ⟨HOX.out.trans hbx'.2⟩
      clear hsp hbx'
      simp only [frameOf, Nat.reduceAdd]
      generalize sp 5 = y5 at *
      generalize sp 6 = y6 at *
      go_simp
      go_wp2
      go_end0
      rw [HE.out]
      exact ⟨rfl, HF1.out, HF2.out⟩
  by_cases h2 : dk = 2
  · subst h2
    have HE : Hold (S.deed ⟨2, da, dn, dx, ds⟩ = S.burn.2) := ⟨rfl⟩
    obtain ⟨wx, q3, hwx, hq3, HSX, HOX, HSC, HLT, HC⟩ := HSTART.out 2 rfl
    obtain ⟨k0, k1, k2, k3, k4⟩ := HC.out wx (Oth.refl _ _ _ _)
    go_wp2_with fail
    refine (burn_calls HSX.out).mono ?_
    rintro e w1 ⟨rfl, hs, ho⟩
    have HF1 : Hold _ := ⟨hs⟩
    have HF2 : Hold (Oth b g m w w1) := ⟨HOX.out.trans ho⟩
    clear hs ho
    go_wp2
    go_end0
    rw [HE.out]
    exact ⟨rfl, HF1.out, HF2.out⟩
  by_cases h3 : dk = 3
  · subst h3
    have HE : Hold (S.deed ⟨3, da, dn, dx, ds⟩ = S.supply dn) := ⟨rfl⟩
    obtain ⟨wx, q3, hwx, hq3, HSX, HOX, HSC, HLT, HC⟩ := HSTART.out 3 rfl
    obtain ⟨k0, k1, k2, k3, k4⟩ := HC.out wx (Oth.refl _ _ _ _)
    go_wp2_with fail
    refine (supply_calls HSX.out HNM.out).mono ?_
    rintro e w1 ⟨rfl, hs, ho⟩
    have HF1 : Hold _ := ⟨hs⟩
    have HF2 : Hold (Oth b g m w w1) := ⟨HOX.out.trans ho⟩
    clear hs ho
    go_wp2
    go_end0
    rw [HE.out]
    exact ⟨rfl, HF1.out, HF2.out⟩
  by_cases h4 : dk = 4
  · subst h4
    have HE : Hold (S.deed ⟨4, da, dn, dx, ds⟩ = S.wake ds) := ⟨rfl⟩
    obtain ⟨wx, q3, hwx, hq3, HSX, HOX, HSC, HLT, HC⟩ := HSTART.out 4 rfl
    obtain ⟨k0, k1, k2, k3, k4⟩ := HC.out wx (Oth.refl _ _ _ _)
    go_wp2_with fail
    refine (wake_calls HSX.out HSC.out HNE.out).mono ?_
    rintro e w1 ⟨rfl, hs, ho⟩
    have HF1 : Hold _ := ⟨hs⟩
    have HF2 : Hold (Oth b g m w w1) := ⟨HOX.out.trans ho⟩
    clear hs ho
    go_wp2
    go_end0
    rw [HE.out]
    exact ⟨rfl, HF1.out, HF2.out⟩
  have HE : Hold (S.deed ⟨dk, da, dn, dx, ds⟩ = S) := ⟨by unfold SM.deed; rw [if_neg h0, if_neg h2, if_neg h3, if_neg h4]⟩
  obtain ⟨wx, q3, hwx, hq3, HSX, HOX, HSC, HLT, HC⟩ := HSTART.out dk rfl
  obtain ⟨k0, k1, k2, k3, k4⟩ := HC.out wx (Oth.refl _ _ _ _)
  go_wp2
  go_end0
  rw [HE.out]
  exact ⟨rfl, HSX.out, HOX.out⟩

theorem do_calls {w0 w : World} {b g m : Nat} {S : SM} (h : SlabAt w b g m S) {d : DeedN} {t : Option Addr × Nat × Nat} (hd : DeedOk w0 d t) (hb0 : Below w0.heap.size w0 w) (hn : w0.heap.size ≤ b ∧ w0.heap.size ≤ g ∧ w0.heap.size ≤ m) :
    Calls Try.prog 28 #[.pointer (some ⟨b, 0, none⟩), deedV d t] w fun e w' => e = .returned (.tuple #[]) ∧ SlabAt w' b g m (S.deed d) ∧ Oth b g m w w' := by
  obtain ⟨dk, da, dn, dx, ds⟩ := d
  obtain ⟨t1, tn, tc⟩ := t
  exact do_raw h hd hb0 hn

/-- Yes or no, and nothing has turned. -/
def GivesB (w : World) (e : Ending) (w' : World) : Prop := ∃ B, e = .returned (.bool B) ∧ Below w.heap.size w w'

set_option maxHeartbeats 4000000 in
set_option maxRecDepth 100000 in
theorem few_calls {w : World} {p : Option Addr} {n c : Nat} {l : List DeedN} {ts : List (Option Addr × Nat × Nat)} (h : DeedsIn w p n c l ts) : Calls Try.prog 20 #[.slice p n c] w (GivesB w) := by
  have HD : Hold _ := ⟨h⟩
  have hmax : n ≤ 9223372036854775807 := Nat.le_trans h.cap h.max
  clear h
  go_enter Try.func20, Try.ntmps20
  go_wp2
  go_loopw [3, 10] (fun nv iv wr => ∃ (k : Nat) (z : Int), k ≤ n ∧ nv = .int .i64 z ∧ iv = .int .i64 k ∧ Hold (Below w.heap.size w wr)) (fun _ iv _ => n - (intOf iv).toNat)
  case atStart => exact ⟨0, 0, by omega, rfl, rfl, ⟨Below.refl _ _⟩⟩
  case round =>
    obtain ⟨k, z, hk, rfl, rfl, HBk⟩ := hrel
    obtain ⟨wo, rfl⟩ : ∃ wo : World, wo = wr := ⟨_, rfl⟩
    by_cases hkn : k < n
    · have hkn' : (k : Int) < n := by omega
      obtain ⟨d, hd⟩ : ∃ d, l[k]? = some d := ⟨l[k]'(by rw [← HD.out.len]; exact hkn), List.getElem?_eq_getElem _⟩
      obtain ⟨t, ht⟩ : ∃ t, ts[k]? = some t := ⟨ts[k]'(by rw [HD.out.tlen, ← HD.out.len]; exact hkn), List.getElem?_eq_getElem _⟩
      obtain ⟨b, off, rfl, hb, hat⟩ := (HD.out.below HBk.out).at_ (by omega)
      obtain ⟨c0, c1, c2, c3, c4, hok⟩ := hat k d t hd ht
      obtain ⟨t1, tn, tc⟩ := t
      obtain ⟨qs, hsc⟩ := hok.scars
      obtain ⟨d0, hd0⟩ : ∃ v, d.kind = v := ⟨_, rfl⟩
      obtain ⟨d1, hd1⟩ : ∃ v, d.at_ = v := ⟨_, rfl⟩
      obtain ⟨d2, hd2⟩ : ∃ v, d.n = v := ⟨_, rfl⟩
      obtain ⟨d3, hd3⟩ : ∃ v : Int, (d.x : Int) = v := ⟨_, rfl⟩
      rw [hd0] at c0
      rw [hd1] at c1
      rw [hd2] at c2
      rw [hd3] at c3
      have hbx := heap_alloc_new wo (.cells #[.int .i64 d0, .int .i64 d1, .int .i64 d2, .int .u8 d3, .slice t1 tn tc] 44)
      have hbw : Below wo.heap.size wo (wo.alloc (.cells #[.int .i64 d0, .int .i64 d1, .int .i64 d2, .int .u8 d3, .slice t1 tn tc] 44)) := (Below.refl _ _).alloc (Nat.le_refl _) _
      obtain ⟨wx, hwx⟩ : ∃ wx, wo.alloc (.cells #[.int .i64 d0, .int .i64 d1, .int .i64 d2, .int .u8 d3, .slice t1 tn tc] 44) = wx := ⟨_, rfl⟩
      rw [hwx] at hbx hbw
      have k4 : wx.cell? ⟨wo.heap.size, 4, none⟩ = some (.slice t1 tn tc) := by simp [World.cell?, hbx]
      have HSC : Hold _ := ⟨hsc.below hbw⟩
      have HBX : Hold (Below w.heap.size w wx) := ⟨bstepS HBk.out hbw⟩
      obtain ⟨M, hM⟩ : ∃ M, min (tn : Int) 100 = M := ⟨_, rfl⟩
      obtain ⟨Z, hZ⟩ : ∃ Z, wrap64 (z + M) = Z := ⟨_, rfl⟩
      have htmax : tn ≤ 9223372036854775807 := Nat.le_trans HSC.out.cap HSC.out.max
      clear hd0 hd1 hd2 hd3 hsc hok hd ht hat hb hbx hbw
      by_cases h60 : (60 : Int) ≤ k
      · go_wp2
        go_ret
        exact ⟨false, rfl, HBX.out⟩
      by_cases h200 : 200 < Z
      · go_wp2
        go_ret
        exact ⟨false, rfl, HBX.out⟩
      go_wp2
      clear hM hZ hwx h60 h200 k4
      go_loopw [30] (fun jv wr => ∃ (j : Nat), j ≤ tn ∧ jv = .int .i64 j ∧ Hold (Below wx.heap.size wx wr)) (fun jv _ => tn - (intOf jv).toNat)
      case atStart => exact ⟨0, by omega, rfl, ⟨Below.refl _ _⟩⟩
      case round =>
        obtain ⟨j, hj, rfl, HBj⟩ := hrel
        by_cases hjn : j < tn
        · have hjn' : (j : Int) < tn := by omega
          obtain ⟨s, hs⟩ : ∃ s, d.scars[j]? = some s := ⟨d.scars[j]'(by rw [← HSC.out.len]; exact hjn), List.getElem?_eq_getElem _⟩
          obtain ⟨q, hq⟩ : ∃ q, qs[j]? = some q := ⟨qs[j]'(by rw [HSC.out.qlen, ← HSC.out.len]; exact hjn), List.getElem?_eq_getElem _⟩
          obtain ⟨sb, soff, rfl, _, sat⟩ := (HSC.out.below HBj.out).at_ (by omega)
          obtain ⟨e0, e1, _, _, _⟩ := sat j s q hs hq
          obtain ⟨x0, hx0⟩ : ∃ v, s.1 = v := ⟨_, rfl⟩
          obtain ⟨q0, q1, q2⟩ := q
          rw [hx0] at e0
          have HBn : Hold (Below wx.heap.size wx (wr.alloc (.cells #[.int .i64 x0, .slice q0 q1 q2] 58))) := ⟨HBj.out.alloc HBj.out.size _⟩
          have HBz : Hold (Below w.heap.size w (wr.alloc (.cells #[.int .i64 x0, .slice q0 q1 q2] 58))) := ⟨bstepS HBX.out HBn.out⟩
          clear hx0 sat hs hq
          by_cases h1000 : (1000 : Int) < q1
          · go_wp2
            go_ret
            exact ⟨false, rfl, HBz.out⟩
          · go_wp2
            go_roundw
            case rel => exact ⟨j + 1, by omega, by go_num, HBn⟩
            case measure => simp [intOf]; omega
        · obtain rfl : j = tn := by omega
          have hjn' : ¬ (j : Int) < j := by omega
          have HBz : Hold (Below w.heap.size w wr) := ⟨bstepS HBX.out HBj.out⟩
          go_wp2
          go_roundw
          case rel => exact ⟨k + 1, Z, by omega, rfl, by go_num, HBz⟩
          case measure => simp [intOf]; omega
    · obtain rfl : k = n := by omega
      have hkn' : ¬ (k : Int) < k := by omega
      go_wp2
      go_ret
      exact ⟨true, rfl, HBk.out⟩

end Go.Proofs.Ytpodoleopebioaa
