/- The tag of parts. -/
import Derived.Test.YtnpobaaaoelalaaDoorMacU
import Derived.Test.YtnpobaaaoelalaaDoorFlowS
namespace Go.Proofs.YtnpobaaaoelalaaDoor
open Go Go.RowKit Go.Proofs.YtnpobaaaoelalaaDoor.Flow

/-- What holds while both sums are copied. -/
structure TG (w0 : World) (D : Nat → Bool) (sp : Nat → Value) (w' : World) : Prop where
  bel : Below w0.heap.size w0 w'
  ne : D 5 = true → sp 5 ≠ sp 2
  e6 : D 6 = true → sp 6 = sp 2
  e7 : D 7 = true → sp 7 = sp 5

theorem HashIs.below {lo : Nat} {m : List Nat} {v : Value} {w w' : World} (h : HashIs lo m v w) (hb : Below w.heap.size w w') : HashIs lo m v w' := by
  cases h with
  | of g _ h hg => exact .of g w' (h.below hb h.lt) hg

set_option maxHeartbeats 4000000 in
set_option maxRecDepth 100000 in
theorem tag_calls (w : World) (g1 g2 : Nat) (m1 m2 : List Nat) (p : Option Addr) (n c : Nat) (L : List Part) (hT : Tabs w) (h1 : HashAt w g1 m1) (h2 : HashAt w g2 m2) (hL : PartsIn w p n c L) :
    Calls Tryd.prog 34 #[.agg #[.pointer (some ⟨g1, 0, none⟩), .pointer (some ⟨g2, 0, none⟩)], .slice p n c] w (GivesSum (m2 ++ sha (m1 ++ whole L)) w) := by
  have HL : Hold (PartsIn w p n c L) := ⟨hL⟩
  have hlen : Hold (n = L.length) := ⟨hL.len⟩
  have hcap := hL.cap
  have hmax := hL.max
  clear hL
  have H0 : Hold ((w.alloc (.cells #[.pointer (some ⟨g1, 0, none⟩), .pointer (some ⟨g2, 0, none⟩)] 66)).heap[w.heap.size]? = some (.cells #[.pointer (some ⟨g1, 0, none⟩), .pointer (some ⟨g2, 0, none⟩)] 66 (0, 0))) := ⟨heap_alloc_new w _⟩
  have hB0 : Below w.heap.size w (w.alloc (.cells #[.pointer (some ⟨g1, 0, none⟩), .pointer (some ⟨g2, 0, none⟩)] 66)) := (Below.refl _ _).alloc (Nat.le_refl _) _
  go_enter Tryd.func34, Tryd.ntmps34
  go_wp2
  generalize w.alloc (.cells #[.pointer (some ⟨g1, 0, none⟩), .pointer (some ⟨g2, 0, none⟩)] 66) = w0 at *
  have hT0 := hT.below hB0 hT.size
  have hh1 := h1.below hB0 h1.lt
  have hh2 := h2.below hB0 h2.lt
  clear h1 h2
  have hb : w.heap.size < w0.heap.size := (Array.getElem?_eq_some_iff.1 H0.out).1
  have HC : Hold (∀ w', Below w0.heap.size w0 w' → w'.cell? ⟨w.heap.size, 0, none⟩ = some (.pointer (some ⟨g1, 0, none⟩)) ∧ w'.cell? ⟨w.heap.size, 1, none⟩ = some (.pointer (some ⟨g2, 0, none⟩))) := ⟨fun w' h => by
    rw [h.cell (p := ⟨w.heap.size, 0, none⟩) hb, h.cell (p := ⟨w.heap.size, 1, none⟩) hb]
    unfold World.cell?
    dsimp only
    rw [H0.out]
    exact ⟨rfl, rfl⟩⟩
  have hw2 : 2 ≤ w.heap.size := hT.size
  have hl1 := hh1.lt
  have hl2 := hh2.lt
  refine wp_region_dutiesS (by kernel_rfl) (by kernel_rfl)
    [some (.pointer (some ⟨w.heap.size, 0, none⟩)), some (.pointer (some ⟨g1, 0, none⟩)), none, some (.pointer (some ⟨w.heap.size, 1, none⟩)), some (.pointer (some ⟨g2, 0, none⟩)), none, none, none]
    [false, false, true, false, false, true, true, true] rfl
    (fun w1 w2 => Below w1.heap.size w1 w2) (TG w0)
    (fun i v w' => match i with
      | 2 => HashIs w0.heap.size m1 v w'
      | 5 => HashIs w0.heap.size m2 v w'
      | 6 => HashIs w0.heap.size m1 v w'
      | 7 => HashIs w0.heap.size m2 v w'
      | _ => True)
    ?_ ⟨(Below.refl _ _).drew, (fun e => by cases e), (fun e => by cases e), fun e => by cases e⟩ ?_ ?_
  · intro i v w1 w2 hf hb
    split at hf
    · exact hf.below hb
    · exact hf.below hb
    · exact hf.below hb
    · exact hf.below hb
    · trivial
  · simp only [DutiesS, Nat.reduceAdd]
    refine ⟨?_, ?_, ?_, ?_, ?_, ?_, ?_, ?_, trivial⟩
    case refine_3 =>
      intro D sp w' hD hW hdp hG
      have d5 : D 5 = false := hW 5 (List.mem_of_elem_eq_true (by kernel_rfl))
      have d6 : D 6 = false := hW 6 (List.mem_of_elem_eq_true (by kernel_rfl))
      (with_reducible refine asked_call (w1 := w') (f := 12) (args := #[.pointer (some ⟨g1, 0, none⟩)]) ?_ ?_ ?_)
      · simp [Region.wanted, go_sem]
      · simp [Act.eval, Act.put, go_sem]
      · refine (copy_calls w' g1 m1 (hh1.below hG.bel hl1)).mono ?_
        rintro e w5 ⟨g, rfl, hg, hb, hh⟩
        exact ⟨_, rfl, hb, HashIs.of g w5 hh (Nat.le_trans hG.bel.size hg), bstepS hG.bel hb, fun e => by simp [d5] at e, fun e => by simp [d6] at e, fun e => by simpa [upd] using hG.e7 (by simpa using e)⟩
    case refine_6 =>
      intro D sp w' hD hW hdp hG
      have d7 : D 7 = false := hW 7 (List.mem_of_elem_eq_true (by kernel_rfl))
      have f2 : HashIs w0.heap.size m1 (sp 2) w' := (hdp 2 (List.mem_of_elem_eq_true (by kernel_rfl))).2
      (with_reducible refine f2.elim (fun g3 hv3 hh3 hg3 => ?_))
      clear f2
      have hl3 := hh3.lt
      (with_reducible refine asked_call (w1 := w') (f := 12) (args := #[.pointer (some ⟨g2, 0, none⟩)]) ?_ ?_ ?_)
      · simp [Region.wanted, go_sem]
      · simp [Act.eval, Act.put, go_sem]
      · refine (copy_calls w' g2 m2 (hh2.below hG.bel hl2)).mono ?_
        rintro e w5 ⟨g, rfl, hg, hb, hh⟩
        refine ⟨_, rfl, hb, HashIs.of g w5 hh (Nat.le_trans hG.bel.size hg), bstepS hG.bel hb, fun _ => ?_, fun e => by simpa [upd] using hG.e6 (by simpa using e), fun e => by simp [d7] at e⟩
        have e5 : upd sp 5 (.pointer (some ⟨g, 0, none⟩)) 5 = .pointer (some ⟨g, 0, none⟩) := by simp [upd]
        have e2 : upd sp 5 (.pointer (some ⟨g, 0, none⟩)) 2 = sp 2 := by simp [upd]
        rw [e5, e2, hv3]
        intro e
        cases e
        omega
    case refine_7 =>
      intro D sp w' hD hW hdp hG
      have f2 : HashIs w0.heap.size m1 (sp 2) w' := (hdp 2 (List.mem_of_elem_eq_true (by kernel_rfl))).2
      (with_reducible refine asked_value (v := sp 2) (w1 := w') ?_ ?_ ?_)
      · simp [Region.wanted, go_sem]
      · simp [execOp, Act.eval, Act.put, go_sem]
      · exact ⟨Below.refl _ _, f2, hG.bel, fun e => by simpa [upd] using hG.ne (by simpa using e), fun _ => by simp [upd], fun e => by simpa [upd] using hG.e7 (by simpa using e)⟩
    case refine_8 =>
      intro D sp w' hD hW hdp hG
      have f5 : HashIs w0.heap.size m2 (sp 5) w' := (hdp 5 (List.mem_of_elem_eq_true (by kernel_rfl))).2
      (with_reducible refine asked_value (v := sp 5) (w1 := w') ?_ ?_ ?_)
      · simp [Region.wanted, go_sem]
      · simp [execOp, Act.eval, Act.put, go_sem]
      · exact ⟨Below.refl _ _, f5, hG.bel, fun e => by simpa [upd] using hG.ne (by simpa using e), fun e => by simpa [upd] using hG.e6 (by simpa using e), fun _ => by simp [upd]⟩
    all_goals
      intro D sp w' hD hW hdp hG
      have hc1 := (HC.out w' hG.bel).1
      have hc2 := (HC.out w' hG.bel).2
      simp [asked, Region.wanted, Oper.gives, execOp, Act.eval, Act.put, go_sem, hc1, hc2]
  · intro sp w3 hsp hG
    have f6 : HashIs w0.heap.size m1 (sp 6) w3 := hsp 6 rfl
    have f7 : HashIs w0.heap.size m2 (sp 7) w3 := hsp 7 rfl
    have hne := hG.ne rfl
    rw [← hG.e6 rfl, ← hG.e7 rfl] at hne
    have hb3 := hG.bel
    clear hsp hG
    simp only [frameOf, Nat.reduceAdd]
    generalize sp 2 = u2
    generalize sp 5 = u5
    generalize sp 6 = u6 at *
    generalize sp 7 = u7 at *
    obtain ⟨g3, _, hh3, hg3⟩ := f6
    obtain ⟨g4, _, hh4, hg4⟩ := f7
    have hg34 : g4 ≠ g3 := fun e => hne (by rw [e])
    have hbw : Below w.heap.size w w3 := hB0.trans (hb3.mono (Nat.le_of_lt hb))
    have hz3 := hb3.size
    clear hne hh1 hh2 HC H0 hT0 hB0 hb3
    go_simp
    go_wp2
    go_loopw [17] (fun i wr => ∃ k : Nat, k ≤ n ∧ i = .int .i64 k ∧ Below w.heap.size w wr ∧ HashAt wr g3 (m1 ++ whole (L.take k)) ∧ HashAt wr g4 m2) (fun i _ => n - (intOf i).toNat)
    case atStart => exact ⟨0, by omega, rfl, hbw, by rw [List.take_zero]; simpa [whole] using hh3, hh4⟩
    case round =>
      obtain ⟨k, hk, rfl, hbel, hash, hash4⟩ := hrel
      have hTr := hT.below hbel hT.size
      have hsz := hT.size
      by_cases hkn : k < n
      · obtain ⟨b, off, rfl, hb, hc⟩ := HL.out.cells (by omega)
        obtain ⟨P, hP⟩ : ∃ P, L[k]? = some P := ⟨_, List.getElem?_eq_getElem (by have := hlen.out; omega)⟩
        have hok := (HL.out.ok k P hP).below hbel
        have hblt : 0 < P.n → ∀ q, P.p = some q → q.block ≠ g3 := fun h0 q hq => by
          obtain ⟨b', off', e, h2, _⟩ := ((HL.out.ok k P hP).row.row h0).pos h0
          rw [hq] at e; cases e
          show b' ≠ g3
          omega
        have hck : wr.cell? ⟨b, off + k, none⟩ = some (.slice P.p P.n P.c) := by
          rw [(bcell hbel).1 _ _ hb]; exact hc k P hP
        have htk : Hold (m1 ++ whole (L.take (k + 1)) = (m1 ++ whole (L.take k)) ++ P.bs) := ⟨by rw [List.take_add_one, hP, List.append_assoc]; congr 1; exact whole_snoc _ _⟩
        have HOK : Hold (PartOk wr P) := ⟨hok⟩
        have HNE : Hold (0 < P.n → ∀ q, P.p = some q → q.block ≠ g3) := ⟨hblt⟩
        clear hc hP hok hblt
        obtain ⟨pp, pn, pc, pb⟩ := P
        dsimp only at *
        go_wp2_with fail
        refine (add_calls wr g3 _ pp pn pc pb hTr hash (by omega) HOK.out.row HOK.out.bytes HNE.out).mono ?_
        rintro e w2 ⟨rfl, hb2, hh2⟩
        rw [← htk.out] at hh2
        have hz : w.heap.size ≤ wr.heap.size := hbel.size
        have hbel2 := hbel.trans (hb2.below (by omega) hz)
        have hash42 := hash4.but hb2 hg34
        go_wp2
        go_roundw
        case rel => exact ⟨k + 1, by omega, by go_num, hbel2, hh2, hash42⟩
        case measure => simp [intOf]; omega
      · obtain rfl : k = n := by omega
        rw [List.take_of_length_le (by have := hlen.out; omega)] at hash
        have hz : w.heap.size ≤ wr.heap.size := hbel.size
        have hl3 := hash.lt
        have hl4 := hash4.lt
        go_wp2_with fail
        refine (hsum_calls wr g3 _ hTr hash).mono ?_
        rintro e w5 ⟨q, rfl, hq, hb5, hk5⟩
        have hT5 := hTr.below hb5 hTr.size
        have h45 := hash4.below hb5 hl4
        have hrow : RowIn w5 .u8 (some ⟨q, 0, none⟩) 32 32 (sha (m1 ++ whole L)) := ⟨(sha_length _).symm, Nat.le_refl _, by omega, fun _ => hk5.row (sha_length _).symm (Nat.le_refl _) (by omega)⟩
        have hbel5 := bstepS hbel hb5
        have hz5 := hbel5.size
        have hzr := hb5.size
        clear hk5
        go_wp2_with fail
        refine (add_calls w5 g4 m2 _ _ _ _ hT5 h45 (by omega) hrow (sha_bytes _) (fun _ a ha => by cases ha; show q ≠ g4; omega)).mono ?_
        rintro e w6 ⟨rfl, hb6, hh6⟩
        have hbel6 := hbel5.trans (hb6.below (by omega) hz5)
        have hT6 := hT.below hbel6 hT.size
        have hz6 := hbel6.size
        go_wp2_with fail
        refine (hsum_calls w6 g4 _ hT6 hh6).mono ?_
        rintro e w7 ⟨q7, rfl, hq7, hb7, hk7⟩
        go_wp2
        go_ret
        exact ⟨q7, rfl, by omega, bstepS hbel6 hb7, hk7⟩

set_option maxHeartbeats 1000000 in
/-- The tag of all parts. -/
theorem macTag_calls (w : World) (pk : Option Addr) (nk ck : Nat) (key : List Nat) (p : Option Addr) (n c : Nat) (L : List Part) (hT : Tabs w) (hr : RowIn w .u8 pk nk ck key) (h8 : Bytes8 key) (hL : PartsIn w p n c L) :
    Calls Tryd.prog 24 #[.slice pk nk ck, .slice p n c] w (GivesSum (tagged key (whole L)) w) := by
  have HL : Hold (PartsIn w p n c L) := ⟨hL⟩
  clear hL
  go_enter Tryd.func24, Tryd.ntmps24
  go_wp2_with fail
  refine (under_calls w pk nk ck key hT hr h8).mono ?_
  rintro e w1 ⟨g1, g2, rfl, hg1, hg2, hb1, hh1, hh2⟩
  go_wp2_with fail
  refine (tag_calls w1 g1 g2 _ _ p n c L (hT.below hb1 hT.size) hh1 hh2 (HL.out.below hb1)).mono ?_
  rintro e w2 ⟨q, rfl, hq, hb2, hk2⟩
  have hz := hb1.size
  go_wp2
  go_ret
  exact ⟨q, rfl, by omega, bstepS hb1 hb2, hk2⟩
end Go.Proofs.YtnpobaaaoelalaaDoor
