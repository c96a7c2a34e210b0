/- What is inked is burnt: Burn. -/
import Derived.Test.YtpodoleopebioaaSlF
namespace Go.Proofs.Ytpodoleopebioaa
open Go Go.RowKit Go.Maps Go.Proofs.Ytpodoleopebioaa.Flow
set_option maxRecDepth 100000

theorem ints_row {w w' : World} {l : List Nat} {v : Value} (h : GivesInts w (l.map fun (j : Nat) => (j : Int)) v w') : ∃ p c, v = .slice p l.length c ∧ Row w' .i64 p l.length c l ∧ New w.heap.size p := by
  obtain ⟨⟨hl, h1⟩, h2, _⟩ := h
  rcases h1 with ⟨rfl, hn⟩ | ⟨g, cap, cur, rfl, hb, hg, hc, hm, hs, ht⟩
  · have : l = [] := List.eq_nil_of_length_eq_zero (by simpa using hn)
    subst this
    exact ⟨none, 0, rfl, Row.nil _ _, New.none _⟩
  · simp only [List.length_map] at *
    refine ⟨_, cap, rfl, ⟨rfl, hc, by simpa [maxLen] using hm, .inr ⟨g, 0, rfl, (Array.getElem?_eq_some_iff.1 hg).1, fun i x hx => ?_⟩⟩, fun q hq => by cases hq; exact hb⟩
    have h3 : (cur.toList.take (l.length * 1))[i]? = some (.int .i64 (x : Nat)) := by rw [ht]; simp [hx]
    rw [List.getElem?_take] at h3
    split at h3
    · rw [Nat.zero_add]
      simp only [World.cell?, hg]
      simpa using h3
    · cases h3

/-- The sector's entry in the map, struck. -/
theorem SlabAt.delInk {w : World} {b g m : Nat} {S : SM} (h : SlabAt w b g m S) {K : Nat} (hk : K < S.n) (ty : TypeId) :
    ∃ w', (Builtin.delete_ #[61, 3] ty #[.map (some m), .int .i64 (K : Nat)]).run Try.prog w = .ok (.tuple #[]) w' ∧ SlabAt w' b g m { S with ink := fun j => if j = K then none else S.ink j } ∧ Oth b g m w w' := by
  have hn := h.ok.n4096
  obtain ⟨w', hr, h1, h2⟩ := h.ink.del Try.underlying61 (wf_at hn (by omega) (by omega : (K : Int) < S.n)) ty
  obtain ⟨a1, a2, a3⟩ := h.apart
  have hok : SM.Ok { S with ink := fun j => if j = K then none else S.ink j } := by
    refine ⟨h.ok.n4, hn, h.ok.bur, fun j x e => ?_, h.ok.sup, h.ok.made⟩
    have e' : (if j = K then none else S.ink j) = some x := e
    split at e'
    · cases e'
    · exact h.ok.ink j x e'
  refine ⟨w', hr, ⟨hok, ?_, ?_, ?_⟩, Oth.grown h2 (.inr (.inr rfl))⟩
  · rw [h2.block b h.lts.1 (fun e => by cases e; exact a2 rfl)]; exact h.blk
  · unfold Blk
    rw [h2.block g h.lts.2.1 (fun e => by cases e; exact a3 rfl)]; exact h.row
  · have e : inkF { S with ink := fun j => if j = K then none else S.ink j } = fun y => if y = (K : Int) then none else inkF S y := by
      funext y
      show (if 0 ≤ y then (if y.toNat = K then none else S.ink y.toNat).map faceV else none) = _
      by_cases hy : y = (K : Int)
      · subst hy; simp
      · rw [if_neg hy]
        unfold inkF
        by_cases h0 : 0 ≤ y
        · rw [if_pos h0, if_pos h0, if_neg (by omega)]
        · rw [if_neg h0, if_neg h0]
    show MapIs w' m S.n (inkF { S with ink := fun j => if j = K then none else S.ink j })
    rw [e]; exact h1

theorem SlabAt.lookInk {w : World} {b g m : Nat} {S : SM} (h : SlabAt w b g m S) {K : Nat} {f : List Nat} (hi : S.ink K = some f) {A : Array Value} (hA : (f.map fun (x : Nat) => Value.int .u8 x).toArray = A) :
    (Instr.lookup 61 (.map (some m)) (.int .i64 (K : Nat)) false).run Try.prog w = .ok (.agg A) w := by
  subst hA
  have hk := (h.ok.ink K f hi).1
  have := h.ink.look (Try.underlying61) (zero_face w) (wf_at h.ok.n4096 (by omega) (by omega : (K : Int) < S.n))
  rw [inkF_some hi] at this
  exact this

set_option maxHeartbeats 2000000 in
set_option maxRecDepth 100000 in
theorem burn_calls {w : World} {b g m : Nat} {S : SM} (h : SlabAt w b g m S) : Calls Try.prog 14 #[.pointer (some ⟨b, 0, none⟩)] w fun e w' => e = .returned (.int .i64 S.burn.1) ∧ SlabAt w' b g m S.burn.2 ∧ Oth b g m w w' := by
  have HS : Hold _ := ⟨h⟩
  by_cases h0 : S.sup = 0
  · have HO : Hold _ := ⟨out_yes h h0⟩
    have HE : Hold (S.burn = (12, S)) := ⟨by unfold SM.burn; rw [if_pos h0]⟩
    clear h h0
    go_enter Try.func14, Try.ntmps14
    go_wp2_with fail
    refine HO.out.mono ?_
    rintro e w1 ⟨rfl, rfl⟩
    go_wp2
    go_ret
    rw [HE.out]
    exact ⟨rfl, HS.out, Oth.refl _ _ _ _⟩
  · have HO : Hold _ := ⟨out_no h h0⟩
    have HI : Hold _ := ⟨inked_calls h⟩
    have HLT : Hold _ := ⟨h.lts⟩
    obtain ⟨l, hl⟩ : ∃ l, S.inked = l := ⟨_, rfl⟩
    have HE : Hold (S.burn = SM.burnL l S) := ⟨by unfold SM.burn; rw [if_neg h0, hl]⟩
    have HND : Hold l.Nodup := ⟨by rw [← hl]; exact SM.inked_nodup S⟩
    have HMEM : Hold (∀ y ∈ l, ∃ f, S.ink y = some f) := ⟨fun y hy => by rw [← hl] at hy; exact Option.isSome_iff_exists.1 (SM.mem_inked.1 hy).2⟩
    rw [hl] at HI
    clear h h0 hl
    go_enter Try.func14, Try.ntmps14
    go_wp2_with fail
    refine HO.out.mono ?_
    rintro e w1 ⟨rfl, rfl⟩
    go_wp2_with fail
    refine HI.out.mono ?_
    rintro e w2 ⟨v, rfl, hgi⟩
    obtain ⟨p, c, rfl, hrow, hnew⟩ := ints_row hgi
    have HROW : Hold _ := ⟨hrow⟩
    have HNE : Hold (∀ q, p = some q → q.block ≠ b ∧ q.block ≠ g ∧ q.block ≠ m) := ⟨fun q hq => by have := hnew q hq; have := HLT.out; omega⟩
    have HS2 : Hold _ := ⟨HS.out.later hgi.2.2⟩
    have HO2 : Hold (Oth b g m w1 w2) := ⟨Oth.of hgi.2.2⟩
    obtain ⟨n, hn⟩ : ∃ n, l.length = n := ⟨_, rfl⟩
    rw [hn]
    rw [hn] at HROW
    have HN : Hold _ := ⟨hn⟩
    have hmax : n ≤ 9223372036854775807 := Nat.le_trans HROW.out.cap HROW.out.max
    clear hgi hrow hnew hn HI HO
    go_wp2
    go_loopw [4, 12] (fun _ iv wr => ∃ (k : Nat) (Sk : SM), k ≤ n ∧ iv = .int .i64 k ∧ Hold (SlabAt wr b g m Sk) ∧ Hold (Oth b g m w2 wr) ∧ Hold (SM.burnL (l.drop k) Sk = SM.burnL l S) ∧ Hold (∀ y ∈ l.drop k, ∃ f, Sk.ink y = some f)) (fun _ iv _ => n - (intOf iv).toNat)
    case atStart => exact ⟨0, S, by omega, rfl, HS2, ⟨Oth.refl _ _ _ _⟩, ⟨by rw [List.drop_zero]⟩, ⟨by rw [List.drop_zero]; exact HMEM.out⟩⟩
    case round =>
      obtain ⟨k, Sk, hk, rfl, HSk, HOk, HBk, HIk⟩ := hrel
      by_cases hkn : k < n
      · have hkn' : (k : Int) < n := by omega
        obtain ⟨K, hK⟩ : ∃ K, l[k]? = some K := ⟨l[k]'(by rw [HN.out]; exact hkn), List.getElem?_eq_getElem _⟩
        have hdrop : l.drop k = K :: l.drop (k + 1) := by
          obtain ⟨h1, h2⟩ := List.getElem?_eq_some_iff.1 hK
          rw [List.drop_eq_getElem_cons h1, h2]
        obtain ⟨f, hf⟩ := HIk.out K (by rw [hdrop]; simp)
        obtain ⟨pb, off, e, _, hcell⟩ := (HROW.out.oth HOk.out HNE.out).pos (by omega)
        have ck := hcell k K hK
        have HDROP : Hold _ := ⟨hdrop⟩
        have HF : Hold _ := ⟨hf⟩
        have HKL : Hold (K < Sk.n ∧ f.length = 64 ∧ Bytes8 f) := ⟨HSk.out.ok.ink K f hf⟩
        subst e
        clear hcell hdrop hf hK
        by_cases hs : Sk.sup = 0
        · have HO : Hold _ := ⟨out_yes HSk.out hs⟩
          have HR : Hold (SM.burnL l S = (12, Sk)) := ⟨by rw [← HBk.out, HDROP.out]; unfold SM.burnL; rw [if_pos hs]⟩
          clear hs
          go_wp2_with fail
          refine HO.out.mono ?_
          rintro e w3 ⟨rfl, rfl⟩
          go_wp2
          go_ret
          rw [HE.out, HR.out]
          exact ⟨rfl, HSk.out, HO2.out.trans HOk.out⟩
        · have HO : Hold _ := ⟨out_no HSk.out hs⟩
          have HST : Hold _ := ⟨stroke_calls HSk.out hs⟩
          have HR : Hold (SM.burnL (l.drop (k + 1)) (Sk.burn1 K) = SM.burnL l S) := ⟨by rw [← HBk.out, HDROP.out]; conv => rhs; unfold SM.burnL; rw [if_neg hs]⟩
          clear hs
          go_wp2_with fail
          refine HO.out.mono ?_
          rintro e w3 ⟨rfl, rfl⟩
          go_wp2_with fail
          refine HST.out.mono ?_
          rintro e wx ⟨rfl, hsx, hox⟩
          obtain ⟨A, hA⟩ : ∃ A, (f.map fun (x : Nat) => Value.int .u8 x).toArray = A := ⟨_, rfl⟩
          obtain ⟨S1, hS1⟩ : ∃ S1, Sk.stroke = S1 := ⟨_, rfl⟩
          obtain ⟨S2, hS2⟩ : ∃ S2 : SM, { S1 with bur := fun j => if j = K then f else S1.bur j } = S2 := ⟨_, rfl⟩
          obtain ⟨N, hN⟩ : ∃ N, Sk.n = N := ⟨_, rfl⟩
          rw [hS1] at hsx
          have hi1 : S1.ink K = some f := by rw [← hS1]; exact HF.out
          have hn1 : S1.n = N := by rw [← hS1]; exact hN
          have hi2 : S2.ink K = some f := by rw [← hS2]; exact hi1
          have hn2 : S2.n = N := by rw [← hS2]; exact hn1
          have hKn : K < N := by rw [← hN]; exact HKL.out.1
          have hKN : (K : Int) < N := by omega
          have HKN : Hold (K < N) := ⟨hKn⟩
          have HSX : Hold _ := ⟨hsx⟩
          have HOX : Hold _ := ⟨hox⟩
          have HC0 : Hold (∀ d w9, SlabAt w9 b g m (cond d S2 S1) → w9.cell? ⟨b, 0, none⟩ = some (.slice (some ⟨g, 0, none⟩) N N)) := ⟨fun d w9 h9 => by
            have := h9.cells.1
            cases d
            · rw [show (cond false S2 S1) = S1 from rfl, hn1] at this; exact this
            · rw [show (cond true S2 S1) = S2 from rfl, hn2] at this; exact this⟩
          have HLK : Hold (∀ d w9, SlabAt w9 b g m (cond d S2 S1) → (Instr.lookup 61 (.map (some m)) (.int .i64 (K : Nat)) false).run Try.prog w9 = .ok (.agg A) w9) := ⟨fun d w9 h9 => by
            cases d
            · exact h9.lookInk hi1 hA
            · exact h9.lookInk hi2 hA⟩
          have HSTO : Hold (∀ w9, SlabAt w9 b g m S1 → ∀ C : Prop, (∀ w', (storeVar 66 ⟨g, K * 64, none⟩ (.agg A)).run Try.prog w9 = .ok () w' → SlabAt w' b g m S2 → Oth b g m w9 w' → C) → C) := ⟨fun w9 h9 C hC => by
            have h1 := h9.storeRun (k := K) (by rw [hn1]; exact HKN.out) HKL.out.2.1
            have h2 := h9.stored (k := K) HKL.out.2.1 HKL.out.2.2
            rw [hS2] at h2
            have e9 : faceV f = .agg A := by rw [← hA]; rfl
            rw [e9] at h1
            exact hC _ h1 h2 (Oth.setRow _ _ _ (.inr (.inl rfl)))⟩
          have HS3 : Hold ({ S2 with ink := fun j => if j = K then none else S2.ink j } = Sk.burn1 K) := ⟨by
            rw [← hS2, ← hS1]
            have e9 : Sk.shown K = f := by unfold SM.shown; rw [HF.out]; rfl
            show _ = ({ Sk.stroke with bur := fun j => if j = K then Sk.shown K else Sk.bur j, ink := fun j => if j = K then none else Sk.ink j } : SM)
            rw [e9]
            rfl⟩
          have HN2 : Hold (S2.n = N) := ⟨hn2⟩
          have hmN : N ≤ 4096 := by have := HSk.out.ok.n4096; omega
          clear hsx hox hA hS1 hS2 hN hi1 hn1 hi2 hn2 hKn HO HST ck
          go_wp2
          refine wp_region_duties (by kernel_rfl) (by kernel_rfl)
            [some (.pointer (some ⟨b, 0, none⟩)), some (.pointer (some ⟨b, 0, none⟩)), some (.pointer (some ⟨b, 0, none⟩)), some (.slice (some ⟨g, 0, none⟩) N N), some (.int .i64 (K : Nat)), some (.pointer (some ⟨b, 0, none⟩)), some (.pointer (some ⟨b, 0, none⟩)), some (.pointer (some ⟨b, 1, none⟩)), some (.map (some m)), some (.int .i64 (K : Nat)), some (.agg A), some (.pointer (some ⟨g, K * 64, none⟩)), none]
            [false, false, false, false, false, false, false, false, false, false, false, false, true] rfl
            (fun w1 w2 => True)
            (fun D w' => SlabAt w' b g m (cond (D 12) S2 S1) ∧ Oth b g m wx w')
            (fun i v w' => match i with
              | 12 => True
              | _ => True)
            ?_ ⟨HSX.out.later (Below.refl _ _).drew, Oth.of (Below.refl _ _).drew⟩ ?_ ?_
          · intro i v w1 w2 hf hb
            split at hf
            · exact hf
            · trivial
          · simp only [Duties, Nat.reduceAdd]
            refine ⟨?_, ?_, ?_, ?_, ?_, ?_, ?_, ?_, ?_, ?_, ?_, ?_, ?_, trivial⟩
            case refine_1 =>
              intro D sp w' hD hW hdp hbx'
              (with_reducible refine asked_value (w1 := w') (v := .pointer (some ⟨b, 0, none⟩)) ?_ ?_ ?_)
              · first | (simp only [Region.wanted]; done) | simp [Region.wanted, yielded, Act.put, go_sem]
              · simp [execOp, Act.eval, go_sem]
              · exact ⟨rfl, rfl⟩
            case refine_2 =>
              intro D sp w' hD hW hdp hbx'
              (with_reducible refine asked_value (w1 := w') (v := .pointer (some ⟨b, 0, none⟩)) ?_ ?_ ?_)
              · first | (simp only [Region.wanted]; done) | simp [Region.wanted, yielded, Act.put, go_sem]
              · simp [execOp, Act.eval, Act.put, go_sem]
              · exact ⟨rfl, rfl⟩
            case refine_3 =>
              intro D sp w' hD hW hdp hbx'
              (with_reducible refine asked_value (w1 := w') (v := .pointer (some ⟨b, 0, none⟩)) ?_ ?_ ?_)
              · first | (simp only [Region.wanted]; done) | simp [Region.wanted, yielded, Act.put, go_sem]
              · simp [execOp, Act.eval, Act.put, go_sem]
              · exact ⟨rfl, rfl⟩
            case refine_4 =>
              intro D sp w' hD hW hdp hbx'
              have c0 := HC0.out _ w' hbx'.1
              (with_reducible refine asked_value (w1 := w') (v := .slice (some ⟨g, 0, none⟩) N N) ?_ ?_ ?_)
              · first | (simp only [Region.wanted]; done) | simp [Region.wanted, yielded, Act.put, go_sem]
              · simp [execOp, Act.eval, Act.put, go_sem, c0]
              · exact ⟨rfl, rfl⟩
            case refine_5 =>
              intro D sp w' hD hW hdp hbx'
              (with_reducible refine asked_value (w1 := w') (v := .int .i64 (K : Nat)) ?_ ?_ ?_)
              · first | (simp only [Region.wanted]; done) | simp [Region.wanted, yielded, Act.put, go_sem]
              · simp [execOp, Act.eval, Act.put, go_sem]
              · exact ⟨rfl, rfl⟩
            case refine_6 =>
              intro D sp w' hD hW hdp hbx'
              (with_reducible refine asked_value (w1 := w') (v := .pointer (some ⟨b, 0, none⟩)) ?_ ?_ ?_)
              · first | (simp only [Region.wanted]; done) | simp [Region.wanted, yielded, Act.put, go_sem]
              · simp [execOp, Act.eval, Act.put, go_sem]
              · exact ⟨rfl, rfl⟩
            case refine_7 =>
              intro D sp w' hD hW hdp hbx'
              (with_reducible refine asked_value (w1 := w') (v := .pointer (some ⟨b, 0, none⟩)) ?_ ?_ ?_)
              · first | (simp only [Region.wanted]; done) | simp [Region.wanted, yielded, Act.put, go_sem]
              · simp [execOp, Act.eval, Act.put, go_sem]
              · exact ⟨rfl, rfl⟩
            case refine_8 =>
              intro D sp w' hD hW hdp hbx'
              (with_reducible refine asked_value (w1 := w') (v := .pointer (some ⟨b, 1, none⟩)) ?_ ?_ ?_)
              · first | (simp only [Region.wanted]; done) | simp [Region.wanted, yielded, Act.put, go_sem]
              · simp [execOp, Act.eval, Act.put, go_sem]
              · exact ⟨rfl, rfl⟩
            case refine_9 =>
              intro D sp w' hD hW hdp hbx'
              have c1 := hbx'.1.cells.2.1
              (with_reducible refine asked_value (w1 := w') (v := .map (some m)) ?_ ?_ ?_)
              · first | (simp only [Region.wanted]; done) | simp [Region.wanted, yielded, Act.put, go_sem]
              · simp [execOp, Act.eval, Act.put, go_sem, c1]
              · exact ⟨rfl, rfl⟩
            case refine_10 =>
              intro D sp w' hD hW hdp hbx'
              (with_reducible refine asked_value (w1 := w') (v := .int .i64 (K : Nat)) ?_ ?_ ?_)
              · first | (simp only [Region.wanted]; done) | simp [Region.wanted, yielded, Act.put, go_sem]
              · simp [execOp, Act.eval, Act.put, go_sem]
              · exact ⟨rfl, rfl⟩
            case refine_11 =>
              intro D sp w' hD hW hdp hbx'
              (with_reducible refine asked_value (w1 := w') (v := .agg A) ?_ ?_ ?_)
              · first | (simp only [Region.wanted]; done) | simp [Region.wanted, yielded, Act.put, go_sem]
              · have cl := HLK.out _ w' hbx'.1
                simp [execOp, Act.eval, Act.put, go_sem, cl]
              · exact ⟨rfl, rfl⟩
            case refine_12 =>
              intro D sp w' hD hW hdp hbx'
              (with_reducible refine asked_value (w1 := w') (v := .pointer (some ⟨g, K * 64, none⟩)) ?_ ?_ ?_)
              · first | (simp only [Region.wanted]; done) | simp [Region.wanted, yielded, Act.put, go_sem]
              · simp [execOp, Act.eval, Act.put, go_sem, hKN]
              · exact ⟨rfl, rfl⟩
            case refine_13 =>
              intro D sp w' hD hW hdp hbx'
              have hs0 : SlabAt w' b g m S1 := by have h9 := hbx'.1; rw [hD] at h9; exact h9
              (with_reducible refine HSTO.out w' hs0 _ (fun w2 hr hs2 ho2 => ?_))
              (with_reducible refine asked_skip (w1 := w2) ?_ ?_ ?_)
              · first | (simp only [Region.wanted]; done) | simp [Region.wanted, yielded, Act.put, go_sem]
              · simp [execOp, Act.eval, Act.put, Instr.storeAt, Instr.sureAddr, Result.andThen_ok, hr]
              · exact ⟨trivial, trivial, by simp; exact hs2, hbx'.2.trans ho2⟩
          · intro sp w7 hsp hbx'
            have hf1 : SlabAt w7 b g m S2 := hbx'.1
            obtain ⟨w8, hdel, hs8, ho8⟩ := hf1.delInk (K := K) (by rw [HN2.out]; exact HKN.out) 0
            rw [HS3.out] at hs8
            have HS8 : Hold _ := ⟨hs8⟩
            have HO8 : Hold (Oth b g m w2 w8) := ⟨((HOk.out.trans HOX.out).trans hbx'.2).trans ho8⟩
            have c1 := hf1.cells.2.1
            clear hsp hbx' hs8 ho8 hf1
            simp only [frameOf, Nat.reduceAdd]
            go_simp
            go_wp2
            go_roundw
            case rel => exact ⟨k + 1, _, by omega, by go_num, HS8, HO8, HR, ⟨fun y hy => by
              obtain ⟨f9, h9⟩ := HIk.out y (by rw [HDROP.out]; exact List.mem_cons_of_mem _ hy)
              have hne : y ≠ K := fun e9 => by
                have hnd := HND.out.sublist (List.drop_sublist k l)
                rw [HDROP.out] at hnd
                exact (List.nodup_cons.1 hnd).1 (e9 ▸ hy)
              exact ⟨f9, by show (if y = K then none else Sk.ink y) = some f9; rw [if_neg hne]; exact h9⟩⟩⟩
            case measure => simp [intOf]; omega
      · obtain rfl : k = n := by omega
        have hkn' : ¬ (k : Int) < k := by omega
        have HR : Hold (SM.burnL l S = (0, Sk)) := ⟨by rw [← HBk.out, List.drop_of_length_le (by have := HN.out; omega)]; rfl⟩
        go_wp2
        go_ret
        rw [HE.out, HR.out]
        exact ⟨rfl, HSk.out, HO2.out.trans HOk.out⟩

end Go.Proofs.Ytpodoleopebioaa
