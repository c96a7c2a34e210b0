/- However bytes are cut and added, asked on the way or not, and written over behind that, the sum is that of the whole: the law. -/
import Derived.Test.YtbpjjhdcmopmfaaDoorPartsA
namespace Go.Proofs.YtbpjjhdcmopmfaaDoor
open Go Go.RowKit Go.Proofs.YtbpjjhdcmopmfaaDoor.Flow

set_option maxHeartbeats 8000000 in
set_option maxRecDepth 1000000 in
theorem parts_calls (w : World) (hT0 : Tabs w) (pp pb : Option Addr) (np nb cp cb : Nat) (L : List Part) (B : Nat → Bool) (hP : PartsIn w pp np cp L) (hz : Whole0 L) (hB : BoolsIn w pb nb cb B) :
    Calls Tryd.prog 3 #[.slice pp np cp, .slice pb nb cb] w fun e w' => e = .returned (.bool true) ∧ Below w.heap.size w w' := by
  have HP : Hold (PartsIn w pp np cp L) := ⟨hP⟩
  have HZ : Hold (Whole0 L) := ⟨hz⟩
  have HB : Hold (BoolsIn w pb nb cb B) := ⟨hB⟩
  have mp := hP.max
  have mcp := hP.cap
  have mb := hB.max
  have mcb := hB.cap
  have hpl : Hold (np = L.length) := ⟨hP.len⟩
  clear hP hz hB
  by_cases h100 : np ≤ 100
  · go_enter Tryd.func3, Tryd.ntmps3
    go_wp2_with fail
    refine (lives_calls _ rfl w hT0).mono ?_
    rintro e w1 ⟨rfl, hb1⟩
    have HT1 : Hold (Tabs w1) := ⟨hT0.below hb1 hT0.size⟩
    go_wp2_with fail
    refine (new_calls w1 HT1.out).mono ?_
    rintro e w2 ⟨g, rfl, hg, hb2, hh2⟩
    have hgl : g < w2.heap.size := hh2.lt
    have hg2 : 2 ≤ g := by have := HT1.out.size; omega
    have hz1 := hb1.size
    have hz2 := hb2.size
    have HH2 : Hold _ := ⟨hh2⟩
    have HB1 : Hold (Below w.heap.size w w1) := ⟨hb1⟩
    have HB2 : Hold (Below w1.heap.size w1 w2) := ⟨hb2⟩
    clear hh2 hb1 hb2 hT0
    go_wp2
    go_loopw [5, 23] (fun x i wr => ∃ (k : Nat) (v : Value), k ≤ np ∧ i = .int .i64 k ∧ v = x ∧ Hold (Below w1.heap.size w1 wr) ∧ Hold (Own wr w2.heap.size v (whole (L.take k))) ∧ Hold (HashAt wr g (whole (L.take k))) ∧ w2.heap.size ≤ wr.heap.size ∧ Hold ((whole (L.take k)).length ≤ 8000)) (fun _ i _ => np - (intOf i).toNat)
    case atStart => exact ⟨0, _, by omega, rfl, rfl, HB2, ⟨Own.nil _ _⟩, HH2, Nat.le_refl _, ⟨by simp [whole]⟩⟩
    case round =>
      obtain ⟨k, v, hk, rfl, rfl, HBel, HOwn, HHash, hszr, HLen⟩ := hrel
      obtain ⟨pa, ca, rfl, hra, hna, hza, _⟩ := HOwn.out.elim
      obtain ⟨X, hX⟩ : ∃ X, whole (L.take k) = X := ⟨_, rfl⟩
      have HX : Hold (whole (L.take k) = X) := ⟨hX⟩
      rw [hX] at hra HOwn HHash HLen
      simp only [hX]
      have hcx := hra.cap
      have hmx := hra.max
      have hlx : X.length ≤ 8000 := HLen.out
      clear hX
      by_cases hkn : k < np
      · obtain ⟨b, off, rfl, hbl, hc⟩ := HP.out.cells (by omega)
        obtain ⟨P, hPk⟩ : ∃ P, L[k]? = some P := ⟨_, List.getElem?_eq_getElem (by have := hpl.out; omega)⟩
        have hbw : Below w.heap.size w wr := HB1.out.trans (HBel.out.mono hz1)
        have hok := (HP.out.ok k P hPk).below hbw
        have hz : P.p = none → P.c = 0 := HZ.out P (List.mem_of_getElem? hPk)
        have hck : wr.cell? ⟨b, off + k, none⟩ = some (.slice P.p P.n P.c) := by
          rw [(bcell hbw).1 _ _ hbl]; exact hc k P hPk
        have htk : Hold (whole (L.take (k + 1)) = X ++ P.bs) := ⟨by rw [List.take_add_one, hPk, ← HX.out]; exact whole_snoc _ _⟩
        have HOK : Hold (PartOk wr P) := ⟨hok⟩
        have HOKw0 : Hold (PartOk w P) := ⟨HP.out.ok k P hPk⟩
        have HZP : Hold (P.p = none → P.c = 0) := ⟨hz⟩
        have hpc := hok.row.cap
        have hpm := hok.row.max
        have hpn : Hold (P.n = P.bs.length) := ⟨hok.row.len⟩
        clear hc hPk hok hz
        obtain ⟨qp, qn, qc, qb⟩ := P
        dsimp only at *
        by_cases h1 : qn ≤ 4000
        · by_cases h2 : X.length ≤ 4000
          · have hlen : Hold (X.length + qn ≤ 140737488355328) := ⟨by omega⟩
            have hge : Hold (∀ b, (Value.slice pa X.length ca).ownBlock = some b → w2.heap.size ≤ b) := ⟨HOwn.out.ge⟩
            go_wp2_with (at_builtin; refine wpList_app rfl _ _ rfl rfl HOwn.out rfl HOK.out.row HZP.out hlen.out hszr ?_; intro v1 w3 ho1 hg1; refine Paused.out ?_)
            refine ⟨?_⟩
            have hb23 : Below w2.heap.size wr w3 := grown_below hg1 hszr hge.out
            have HB3 : Hold (Below w1.heap.size w1 w3) := ⟨HBel.out.trans (hb23.mono hz2)⟩
            have HH3 : Hold (HashAt w3 g X) := ⟨HHash.out.below hb23 hgl⟩
            have hz3 : w2.heap.size ≤ w3.heap.size := Nat.le_trans hszr hb23.size
            obtain ⟨Y, hY⟩ : ∃ Y, X ++ qb = Y := ⟨_, rfl⟩
            have HY : Hold (X ++ qb = Y) := ⟨hY⟩
            rw [hY] at ho1
            have HO1 : Hold (Own w3 w2.heap.size v1 Y) := ⟨ho1⟩
            have HLt : Hold (∀ b, v1.ownBlock = some b → b < w3.heap.size) := ⟨ho1.lt⟩
            have HOKw : Hold (∀ w', Below w1.heap.size w1 w' → PartOk w' ⟨qp, qn, qc, qb⟩) := ⟨fun w' h => (HOKw0.out.below HB1.out).below h⟩
            clear hg1 hb23 hY ho1 HHash HOwn HBel hck hbl hbw HOK
            have hrow0 : Hold (RowIn (w3.alloc (.cells #[] 5)) .u8 qp qn qc qb) := ⟨(HOKw.out _ (HB3.out.alloc (by omega) _)).row⟩
            have HO2 : Hold (Own (w3.alloc (.cells #[] 5)) w3.heap.size (.slice (some ⟨w3.heap.size, 0, none⟩) 0 0) []) := ⟨Own.lit w3 [] (by decide)⟩
            have hmx2 : Hold (([] : List Nat).length + qn ≤ 140737488355328) := ⟨by simp; omega⟩
            have hsz3 : w3.heap.size ≤ (w3.alloc (.cells #[] 5)).heap.size := by simp
            go_wp2_with (at_builtin; refine wpList_app rfl _ _ rfl rfl HO2.out rfl hrow0.out HZP.out hmx2.out hsz3 ?_; intro v2 w4 ho2 hg2; refine Paused.out ?_)
            refine ⟨?_⟩
            rw [List.nil_append] at ho2
            have hb34 : Below w3.heap.size w3 w4 := ((Below.refl _ _).alloc (Nat.le_refl _) _).trans (grown_below hg2 hsz3 HO2.out.ge)
            obtain ⟨p2, c2, rfl, r2, n2, z2, _⟩ := ho2.elim
            have hc2 := r2.cap
            have hm2 := r2.max
            have HB4 : Hold (Below w1.heap.size w1 w4) := ⟨HB3.out.trans (hb34.mono (by omega))⟩
            have HH4 : Hold (HashAt w4 g X) := ⟨HH3.out.below hb34 (by omega)⟩
            have HO14 : Hold (Own w4 w2.heap.size v1 Y) := ⟨HO1.out.belowS hb34⟩
            have HO24 : Hold (Own w4 w3.heap.size (.slice p2 qb.length c2) qb) := ⟨ho2⟩
            have hne : 0 < qb.length → ∀ q, p2 = some q → q.block ≠ g := fun _ q hq => by have := n2 q hq; omega
            have hz4 := hb34.size
            have hT4 : Tabs w4 := HT1.out.below HB4.out HT1.out.size
            have h8b : Bytes8 qb := HOKw0.out.bytes
            clear hg2 ho2 hb34 n2 z2 HO1 HO2 hrow0 HH3 hmx2 hsz3
            go_wp2_with fail
            refine (add_calls w4 g X p2 _ c2 qb hT4 HH4.out hg2 r2 h8b hne).mono ?_
            rintro e w5 ⟨rfl, hbut, hh5⟩
            rw [HY.out] at hh5
            have HH5 : Hold (HashAt w5 g Y) := ⟨hh5⟩
            have HB5 : Hold (Below w1.heap.size w1 w5) := ⟨HB4.out.trans (hbut.below hg (by omega))⟩
            have HO15 : Hold (Own w5 w2.heap.size v1 Y) := ⟨HO14.out.but hbut fun b hb => by have := HO14.out.ge b hb; omega⟩
            have HO25 : Hold (Own w5 w3.heap.size (.slice p2 qb.length c2) qb) := ⟨HO24.out.but hbut fun b hb => by have := HO24.out.ge b hb; omega⟩
            have hz5 := hbut.size
            have H8 : LenB qb.length qb := ⟨rfl, h8b⟩
            have HYl : Hold (Y.length ≤ 8000) := ⟨by rw [← HY.out, List.length_append]; have := hpn.out; omega⟩
            clear hh5 hbut HO14 HO24 r2 hne hT4 HH4 HB4 h8b
            go_wp2
            go_loopw [47] (fun i w6 => ∃ (j : Nat) (bs : List Nat), j ≤ qb.length ∧ i = .int .i64 j ∧ LenB qb.length bs ∧ Hold (Own w6 w3.heap.size (.slice p2 qb.length c2) bs) ∧ Hold (Below w1.heap.size w1 w6) ∧ Hold (Own w6 w2.heap.size v1 Y) ∧ Hold (HashAt w6 g Y) ∧ w3.heap.size ≤ w6.heap.size) (fun i _ => qb.length - (intOf i).toNat)
            case atStart => exact ⟨0, qb, by omega, rfl, H8, HO25, HB5, HO15, HH5, by omega⟩
            case round =>
              obtain ⟨j, bs, hj, rfl, Hb8, HO2, HB6, HO1, HH6, hz6⟩ := hrel
              by_cases hjn : j < qb.length
              · obtain ⟨g2, rfl, hge2, hlt2⟩ := HO2.out.addr (by omega)
                obtain ⟨x, hx⟩ : ∃ x, bs[j]? = some x := ⟨_, List.getElem?_eq_getElem (by have := Hb8.len; omega)⟩
                have hxl : x < 256 := Hb8.bytes x (List.mem_of_getElem? hx)
                have e0 := HO2.out.cell hx
                have e1 := HO2.out.free j
                have F1 : bits BinOp.xor IntKind.u8 (x : Int) 255 = ((x ^^^ 255 : Nat) : Int) := u8_xor_nat x 255 hxl (by omega)
                obtain ⟨y, hy⟩ : ∃ y, x ^^^ 255 = y := ⟨_, rfl⟩
                have hyl : y < 256 := by rw [← hy]; exact Nat.xor_lt_two_pow (n := 8) hxl (by omega)
                rw [hy] at F1
                clear hx hy
                go_wp2
                have hset := HO2.out.set j y
                go_roundw
                case rel => exact ⟨j + 1, bs.set j y, by omega, by go_num, ⟨by rw [List.length_set]; exact Hb8.len, bytes_set Hb8.bytes j hyl⟩, ⟨hset.1⟩, ⟨HB6.out.trans (grown_below hset.2 (by omega) (fun b hb => by cases hb; omega))⟩, ⟨HO1.out.kept hset.2 fun b hb => by have := HLt.out b hb; omega⟩, ⟨HH6.out.below (grown_below (B := w3.heap.size) hset.2 (by omega) (fun b hb => by cases hb; omega)) (by omega)⟩, by simpa using hz6⟩
                case measure => simp [intOf]; omega
              · obtain rfl : j = qb.length := by omega
                have hbwr : Below w.heap.size w wr := HB1.out.trans (HB6.out.mono hz1)
                obtain ⟨p1, c1, rfl, r1, _, z1, _⟩ := HO1.out.elim
                have hcy := r1.cap
                have hmy := r1.max
                have hT6 : Hold (Tabs wr) := ⟨HT1.out.below HB6.out HT1.out.size⟩
                have hwh : Hold (whole (L.take (k + 1)) = Y) := ⟨htk.out.trans HY.out⟩
                have HA6 : Hold (PartOk wr ⟨p1, Y.length, c1, Y⟩) := ⟨⟨r1, by have h := take_bytes HP.out (k + 1); rw [hwh.out] at h; exact h⟩⟩
                obtain ⟨S, hS⟩ : ∃ S, strOf (sha Y) = S := ⟨_, rfl⟩
                have HS : Hold (strOf (sha Y) = S) := ⟨hS⟩
                have hzwr : w2.heap.size ≤ wr.heap.size := by omega
                clear hS r1 z1 HO2 Hb8 HB5 HO15 HO25 HH5 HB3 HOKw HOKw0 HZP HLt htk HY H8

                by_cases hkb : k < nb
                · obtain ⟨bb, off2, rfl, hbb, hcb⟩ := HB.out.cells (by omega)
                  cases hBk : B k with
                  | true =>
                    go_wp2
                    refine wp_region_duties (by kernel_rfl) (by kernel_rfl)
                      [some (.int .i64 k), some (.slice (some ⟨bb, off2, none⟩) nb cb), some (.int .i64 nb), some (.bool true), some (.bool true), some (.slice (some ⟨bb, off2, none⟩) nb cb), some (.int .i64 k), some (.pointer (some ⟨bb, off2 + k, none⟩)), some (.bool true), some (.bool true), some (.bool true), some (.pointer (some ⟨g, 0, none⟩)), none, some (.string S), some (.slice p1 Y.length c1), none, none, some (.string S), some (.bool false), some (.bool false)]
                      [false, false, false, false, false, false, false, false, false, false, false, false, true, false, false, true, true, false, false, false] rfl
                      (fun w1 w2 => Below w1.heap.size w1 w2) (fun _ w' => Below wr.heap.size wr w')
                      (fun i v w' => match i with
                        | 12 => SumIs Y v w'
                        | 15 => PartsAre [⟨p1, Y.length, c1, Y⟩] v w'
                        | 16 => SumIs Y v w'
                        | _ => True)
                      ?_ ((Below.refl _ _).drew) ?_ ?_
                    · intro i v w1 w2 hf hb
                      split at hf
                      · exact hf.below hb
                      · exact hf.below hb
                      · exact hf.below hb
                      · trivial
                    · simp only [Duties, Nat.reduceAdd]
                      refine ⟨?_, ?_, ?_, ?_, ?_, ?_, ?_, ?_, ?_, ?_, ?_, ?_, ?_, ?_, ?_, ?_, ?_, ?_, ?_, ?_, trivial⟩
                      case refine_9 =>
                        intro D sp w' hD hW hdp hG
                        have hl : w'.cell? ⟨bb, off2 + k, none⟩ = some (.bool true) := by
                          rw [(bcell (bstepS hbwr hG)).1 _ _ hbb, hcb k hkb, hBk]
                        simp [asked, Region.wanted, yielded, Oper.gives, execOp, Act.eval, Act.put, go_sem, hl]
                      case refine_13 =>
                        intro D sp w' hD hW hdp hG
                        (with_reducible refine asked_call (w1 := w') (f := 8) (args := #[.pointer (some ⟨g, 0, none⟩)]) ?_ ?_ ?_)
                        · simp [Region.wanted, yielded, Act.put, go_sem]
                        · simp [Act.eval, Act.put, go_sem]
                        · refine (hsum_calls w' g _ (hT6.out.below hG hT6.out.size) (HH6.out.below hG HH6.out.lt)).mono ?_
                          rintro e w5 ⟨q, rfl, hq, hb, hk⟩
                          exact ⟨_, rfl, hb, SumIs.mk q _ hk, bstepS hG hb⟩
                      case refine_14 =>
                        intro D sp w' hD hW hdp hG
                        have hf : SumIs Y (sp 12) w' := (hdp 12 (List.mem_of_elem_eq_true (by kernel_rfl))).2
                        (with_reducible refine hf.elim (fun q hv hp => ?_))
                        clear hf
                        have k := convert_row hp
                        rw [HS.out] at k
                        (with_reducible refine asked_value (v := .string S) (w1 := w') ?_ ?_ ⟨rfl, rfl⟩)
                        · simp [Region.wanted, yielded, Act.put, go_sem]
                        · simp [execOp, Act.eval, Act.put, go_sem, hv, k]
                      case refine_16 =>
                        intro D sp w' hD hW hdp hG
                        have hb : Below w'.heap.size w' (w'.alloc (.cells #[.slice p1 Y.length c1] 25)) := (Below.refl _ _).alloc (Nat.le_refl _) _
                        (with_reducible refine asked_value (v := .slice (some ⟨w'.heap.size, 0, none⟩) 1 1) (w1 := w'.alloc (.cells #[.slice p1 Y.length c1] 25)) ?_ ?_ ⟨hb, PartsAre.mk1 w'.heap.size _ (parts1 w' ⟨p1, Y.length, c1, Y⟩ (HA6.out.below hG)), bstepS hG hb⟩)
                        · simp [Region.wanted, yielded, Act.put, go_sem]
                        · simp [execOp, Act.eval, Act.put, go_sem]
                      case refine_17 =>
                        intro D sp w' hD hW hdp hG
                        have hf : PartsAre [⟨p1, Y.length, c1, Y⟩] (sp 15) w' := (hdp 15 (List.mem_of_elem_eq_true (by kernel_rfl))).2
                        (with_reducible refine hf.elim1 (fun q hv hp => ?_))
                        clear hf
                        (with_reducible refine asked_call (w1 := w') (f := 9) (args := #[.slice (some ⟨q, 0, none⟩) 1 1]) ?_ ?_ ?_)
                        · simp [Region.wanted, yielded, Act.put, go_sem]
                        · simp [Act.eval, Act.put, go_sem, hv]
                        · refine (sum_calls w' _ _ _ _ (hT6.out.below hG hT6.out.size) hp).mono ?_
                          rintro e w5 ⟨q5, rfl, hq, hb, hk⟩
                          rw [whole_one] at hk
                          exact ⟨_, rfl, hb, SumIs.mk q5 _ hk, bstepS hG hb⟩
                      case refine_18 =>
                        intro D sp w' hD hW hdp hG
                        have hf : SumIs Y (sp 16) w' := (hdp 16 (List.mem_of_elem_eq_true (by kernel_rfl))).2
                        (with_reducible refine hf.elim (fun q hv hp => ?_))
                        clear hf
                        have k := convert_row hp
                        rw [HS.out] at k
                        (with_reducible refine asked_value (v := .string S) (w1 := w') ?_ ?_ ⟨rfl, rfl⟩)
                        · simp [Region.wanted, yielded, Act.put, go_sem]
                        · simp [execOp, Act.eval, Act.put, go_sem, hv, k]
                      all_goals
                        intro D sp w' hD hW hdp hG
                        simp [asked, Region.wanted, yielded, Oper.gives, execOp, Act.eval, Act.put, go_sem, hkb]
                    · intro sp w' hsp hG
                      clear hsp
                      simp only [frameOf, Nat.reduceAdd]
                      generalize sp 12 = u12'
                      generalize sp 15 = u15'
                      generalize sp 16 = u16'
                      go_simp
                      go_wp2
                      go_roundw
                      case rel => exact ⟨k + 1, _, by omega, by go_num, rfl, ⟨bstepS HB6.out hG⟩, ⟨by rw [hwh.out]; exact HO1.out.belowS hG⟩, ⟨by rw [hwh.out]; exact HH6.out.below hG HH6.out.lt⟩, by have := hG.size; omega, ⟨by rw [hwh.out]; exact HYl.out⟩⟩
                      case measure => simp [intOf]; omega
                  | false =>
                    go_wp2
                    refine wp_region_duties (by kernel_rfl) (by kernel_rfl)
                      [some (.int .i64 k), some (.slice (some ⟨bb, off2, none⟩) nb cb), some (.int .i64 nb), some (.bool true), some (.bool true), some (.slice (some ⟨bb, off2, none⟩) nb cb), some (.int .i64 k), some (.pointer (some ⟨bb, off2 + k, none⟩)), some (.bool false), some (.bool false), some (.bool false), some undef, some undef, some undef, some undef, some undef, some undef, some undef, some undef, some (.bool false)]
                      [false, false, false, false, false, false, false, false, false, false, false, false, false, false, false, false, false, false, false, false] rfl
                      (fun w1 w2 => Below w1.heap.size w1 w2) (fun _ w' => Below wr.heap.size wr w')
                      (fun _ _ _ => True)
                      ?_ ((Below.refl _ _).drew) ?_ ?_
                    · intro i v w1 w2 hf hb
                      trivial
                    · simp only [Duties, Nat.reduceAdd]
                      refine ⟨?_, ?_, ?_, ?_, ?_, ?_, ?_, ?_, ?_, ?_, ?_, ?_, ?_, ?_, ?_, ?_, ?_, ?_, ?_, ?_, trivial⟩
                      case refine_9 =>
                        intro D sp w' hD hW hdp hG
                        have hl : w'.cell? ⟨bb, off2 + k, none⟩ = some (.bool false) := by
                          rw [(bcell (bstepS hbwr hG)).1 _ _ hbb, hcb k hkb, hBk]
                        simp [asked, Region.wanted, yielded, Oper.gives, execOp, Act.eval, Act.put, go_sem, hl]
                      all_goals
                        intro D sp w' hD hW hdp hG
                        simp [asked, Region.wanted, yielded, Oper.gives, execOp, Act.eval, Act.put, go_sem, hkb]
                    · intro sp w' hsp hG
                      clear hsp
                      simp only [frameOf]
                      go_simp
                      go_wp2
                      go_roundw
                      case rel => exact ⟨k + 1, _, by omega, by go_num, rfl, ⟨bstepS HB6.out hG⟩, ⟨by rw [hwh.out]; exact HO1.out.belowS hG⟩, ⟨by rw [hwh.out]; exact HH6.out.below hG HH6.out.lt⟩, by have := hG.size; omega, ⟨by rw [hwh.out]; exact HYl.out⟩⟩
                      case measure => simp [intOf]; omega
                · go_wp2
                  refine wp_region_duties (by kernel_rfl) (by kernel_rfl)
                    [some (.int .i64 k), some (.slice pb nb cb), some (.int .i64 nb), some (.bool false), some (.bool false), some undef, some undef, some undef, some undef, some (.bool false), some (.bool false), some undef, some undef, some undef, some undef, some undef, some undef, some undef, some undef, some (.bool false)]
                    [false, false, false, false, false, false, false, false, false, false, false, false, false, false, false, false, false, false, false, false] rfl
                    (fun w1 w2 => Below w1.heap.size w1 w2) (fun _ w' => Below wr.heap.size wr w')
                    (fun _ _ _ => True)
                    ?_ ((Below.refl _ _).drew) ?_ ?_
                  · intro i v w1 w2 hf hb
                    trivial
                  · simp only [Duties, Nat.reduceAdd]
                    refine ⟨?_, ?_, ?_, ?_, ?_, ?_, ?_, ?_, ?_, ?_, ?_, ?_, ?_, ?_, ?_, ?_, ?_, ?_, ?_, ?_, trivial⟩
                    all_goals
                      intro D sp w' hD hW hdp hG
                      simp [asked, Region.wanted, yielded, Oper.gives, execOp, Act.eval, Act.put, go_sem, hkb]
                  · intro sp w' hsp hG
                    clear hsp
                    simp only [frameOf]
                    go_simp
                    go_wp2
                    go_roundw
                    case rel => exact ⟨k + 1, _, by omega, by go_num, rfl, ⟨bstepS HB6.out hG⟩, ⟨by rw [hwh.out]; exact HO1.out.belowS hG⟩, ⟨by rw [hwh.out]; exact HH6.out.below hG HH6.out.lt⟩, by have := hG.size; omega, ⟨by rw [hwh.out]; exact HYl.out⟩⟩
                    case measure => simp [intOf]; omega
          · have h2' : (4000 : Int) < X.length := by omega
            go_wp2
            go_ret
            exact ⟨rfl, hbw⟩
        · have h1' : (4000 : Int) < qn := by omega
          go_wp2
          go_ret
          exact ⟨rfl, hbw⟩
      · obtain rfl : k = np := by omega
        rw [List.take_of_length_le (by have := hpl.out; omega)] at HX
        have hbwr : Below w.heap.size w wr := HB1.out.trans (HBel.out.mono hz1)
        have HAr : Hold (PartOk wr ⟨pa, X.length, ca, X⟩) := ⟨⟨hra, by have h := take_bytes HP.out k; rw [List.take_of_length_le (by have := hpl.out; omega), HX.out] at h; exact h⟩⟩
        have hTr : Hold (Tabs wr) := ⟨HT1.out.below HBel.out HT1.out.size⟩
        have HPr : Hold (PartsIn wr pp k cp L) := ⟨HP.out.below hbwr⟩
        obtain ⟨S, hS⟩ : ∃ S, strOf (sha X) = S := ⟨_, rfl⟩
        have HS : Hold (strOf (sha X) = S) := ⟨hS⟩
        clear hS hra hna hza HOwn HZ HP HB HB1 HB2 HBel HT1 HH2 HLen
        go_wp2_with fail
        refine (add_nil wr pa X.length ca).mono ?_
        rintro e w9 ⟨rfl, h9⟩
        obtain rfl := h9.symm
        go_wp2
        refine wp_region_duties (by kernel_rfl) (by kernel_rfl)
          [some (.pointer (some ⟨g, 0, none⟩)), none, some (.string S), some (.slice pa X.length ca), none, none, some (.string S), some (.bool true), some (.bool true), some (.slice pp k cp), none, some (.string S), some (.slice pa X.length ca), none, none, some (.string S), some (.bool true), some (.bool true), some (.bool true), some (.pointer none), some (.slice none 0 0), some (.int .i64 0), some (.bool true), some (.bool true), some (.bool true), some (.pointer none), some (.pointer none), some (.bool true), some (.bool true), some (.bool true)]
          [false, true, false, false, true, true, false, false, false, false, true, false, false, true, true, false, false, false, false, false, false, false, false, false, false, false, false, false, false, false] rfl
          (fun w1 w2 => Below w1.heap.size w1 w2) (fun _ w' => Below wr.heap.size wr w')
          (fun i v w' => match i with
            | 1 => SumIs X v w'
            | 4 => PartsAre [⟨pa, X.length, ca, X⟩] v w'
            | 5 => SumIs X v w'
            | 10 => SumIs X v w'
            | 13 => PartsAre [⟨pa, X.length, ca, X⟩] v w'
            | 14 => SumIs X v w'
            | _ => True)
          ?_ ((Below.refl _ _).drew) ?_ ?_
        · intro i v w1 w2 hf hb
          split at hf
          · exact hf.below hb
          · exact hf.below hb
          · exact hf.below hb
          · exact hf.below hb
          · exact hf.below hb
          · exact hf.below hb
          · trivial
        · simp only [Duties, Nat.reduceAdd]
          refine ⟨?_, ?_, ?_, ?_, ?_, ?_, ?_, ?_, ?_, ?_, ?_, ?_, ?_, ?_, ?_, ?_, ?_, ?_, ?_, ?_, ?_, ?_, ?_, ?_, ?_, ?_, ?_, ?_, ?_, ?_, trivial⟩
          case refine_2 =>
            intro D sp w' hD hW hdp hG
            (with_reducible refine asked_call (w1 := w') (f := 8) (args := #[.pointer (some ⟨g, 0, none⟩)]) ?_ ?_ ?_)
            · simp [Region.wanted, go_sem]
            · simp [Act.eval, Act.put, go_sem]
            · refine (hsum_calls w' g _ (hTr.out.below hG hTr.out.size) (HHash.out.below hG HHash.out.lt)).mono ?_
              rintro e w5 ⟨q, rfl, hq, hb, hk⟩
              exact ⟨_, rfl, hb, SumIs.mk q _ hk, bstepS hG hb⟩
          case refine_3 =>
            intro D sp w' hD hW hdp hG
            have hf : SumIs X (sp 1) w' := (hdp 1 (List.mem_of_elem_eq_true (by kernel_rfl))).2
            (with_reducible refine hf.elim (fun q hv hp => ?_))
            clear hf
            have k := convert_row hp
            rw [HS.out] at k
            (with_reducible refine asked_value (v := .string S) (w1 := w') ?_ ?_ ⟨rfl, rfl⟩)
            · simp [Region.wanted, go_sem]
            · simp [execOp, Act.eval, Act.put, go_sem, hv, k]
          case refine_5 =>
            intro D sp w' hD hW hdp hG
            have hb : Below w'.heap.size w' (w'.alloc (.cells #[.slice pa X.length ca] 25)) := (Below.refl _ _).alloc (Nat.le_refl _) _
            (with_reducible refine asked_value (v := .slice (some ⟨w'.heap.size, 0, none⟩) 1 1) (w1 := w'.alloc (.cells #[.slice pa X.length ca] 25)) ?_ ?_ ⟨hb, PartsAre.mk1 w'.heap.size _ (parts1 w' ⟨pa, X.length, ca, X⟩ (HAr.out.below hG)), bstepS hG hb⟩)
            · simp [Region.wanted, go_sem]
            · simp [execOp, Act.eval, Act.put, go_sem]
          case refine_6 =>
            intro D sp w' hD hW hdp hG
            have hf : PartsAre [⟨pa, X.length, ca, X⟩] (sp 4) w' := (hdp 4 (List.mem_of_elem_eq_true (by kernel_rfl))).2
            (with_reducible refine hf.elim1 (fun q hv hp => ?_))
            clear hf
            (with_reducible refine asked_call (w1 := w') (f := 9) (args := #[.slice (some ⟨q, 0, none⟩) 1 1]) ?_ ?_ ?_)
            · simp [Region.wanted, go_sem]
            · simp [Act.eval, Act.put, go_sem, hv]
            · refine (sum_calls w' _ _ _ _ (hTr.out.below hG hTr.out.size) hp).mono ?_
              rintro e w5 ⟨q5, rfl, hq, hb, hk⟩
              rw [whole_one] at hk
              exact ⟨_, rfl, hb, SumIs.mk q5 _ hk, bstepS hG hb⟩
          case refine_7 =>
            intro D sp w' hD hW hdp hG
            have hf : SumIs X (sp 5) w' := (hdp 5 (List.mem_of_elem_eq_true (by kernel_rfl))).2
            (with_reducible refine hf.elim (fun q hv hp => ?_))
            clear hf
            have k := convert_row hp
            rw [HS.out] at k
            (with_reducible refine asked_value (v := .string S) (w1 := w') ?_ ?_ ⟨rfl, rfl⟩)
            · simp [Region.wanted, go_sem]
            · simp [execOp, Act.eval, Act.put, go_sem, hv, k]
          case refine_11 =>
            intro D sp w' hD hW hdp hG
            (with_reducible refine asked_call (w1 := w') (f := 9) (args := #[.slice pp k cp]) ?_ ?_ ?_)
            · simp [Region.wanted, yielded, Act.put, go_sem]
            · simp [Act.eval, Act.put, go_sem]
            · refine (sum_calls w' _ _ _ _ (hTr.out.below hG hTr.out.size) (HPr.out.below hG)).mono ?_
              rintro e w5 ⟨q5, rfl, hq, hb, hk⟩
              rw [HX.out] at hk
              exact ⟨_, rfl, hb, SumIs.mk q5 _ hk, bstepS hG hb⟩
          case refine_12 =>
            intro D sp w' hD hW hdp hG
            have hf : SumIs X (sp 10) w' := (hdp 10 (List.mem_of_elem_eq_true (by kernel_rfl))).2
            (with_reducible refine hf.elim (fun q hv hp => ?_))
            clear hf
            have k := convert_row hp
            rw [HS.out] at k
            (with_reducible refine asked_value (v := .string S) (w1 := w') ?_ ?_ ⟨rfl, rfl⟩)
            · simp [Region.wanted, yielded, Act.put, go_sem]
            · simp [execOp, Act.eval, Act.put, go_sem, hv, k]
          case refine_14 =>
            intro D sp w' hD hW hdp hG
            have hb : Below w'.heap.size w' (w'.alloc (.cells #[.slice pa X.length ca] 25)) := (Below.refl _ _).alloc (Nat.le_refl _) _
            (with_reducible refine asked_value (v := .slice (some ⟨w'.heap.size, 0, none⟩) 1 1) (w1 := w'.alloc (.cells #[.slice pa X.length ca] 25)) ?_ ?_ ⟨hb, PartsAre.mk1 w'.heap.size _ (parts1 w' ⟨pa, X.length, ca, X⟩ (HAr.out.below hG)), bstepS hG hb⟩)
            · simp [Region.wanted, yielded, Act.put, go_sem]
            · simp [execOp, Act.eval, Act.put, go_sem]
          case refine_15 =>
            intro D sp w' hD hW hdp hG
            have hf : PartsAre [⟨pa, X.length, ca, X⟩] (sp 13) w' := (hdp 13 (List.mem_of_elem_eq_true (by kernel_rfl))).2
            (with_reducible refine hf.elim1 (fun q hv hp => ?_))
            clear hf
            (with_reducible refine asked_call (w1 := w') (f := 9) (args := #[.slice (some ⟨q, 0, none⟩) 1 1]) ?_ ?_ ?_)
            · simp [Region.wanted, yielded, Act.put, go_sem]
            · simp [Act.eval, Act.put, go_sem, hv]
            · refine (sum_calls w' _ _ _ _ (hTr.out.below hG hTr.out.size) hp).mono ?_
              rintro e w5 ⟨q5, rfl, hq, hb, hk⟩
              rw [whole_one] at hk
              exact ⟨_, rfl, hb, SumIs.mk q5 _ hk, bstepS hG hb⟩
          case refine_16 =>
            intro D sp w' hD hW hdp hG
            have hf : SumIs X (sp 14) w' := (hdp 14 (List.mem_of_elem_eq_true (by kernel_rfl))).2
            (with_reducible refine hf.elim (fun q hv hp => ?_))
            clear hf
            have k := convert_row hp
            rw [HS.out] at k
            (with_reducible refine asked_value (v := .string S) (w1 := w') ?_ ?_ ⟨rfl, rfl⟩)
            · simp [Region.wanted, yielded, Act.put, go_sem]
            · simp [execOp, Act.eval, Act.put, go_sem, hv, k]
          case refine_21 =>
            intro D sp w' hD hW hdp hG
            (with_reducible refine asked_call (w1 := w') (f := 8) (args := #[.pointer none]) ?_ ?_ ?_)
            · simp [Region.wanted, yielded, Act.put, go_sem]
            · simp [Act.eval, Act.put, go_sem]
            · refine (hsum_nil w').mono ?_
              rintro e w5 ⟨rfl, rfl⟩
              exact ⟨_, rfl, rfl, rfl⟩
          case refine_27 =>
            intro D sp w' hD hW hdp hG
            (with_reducible refine asked_call (w1 := w') (f := 10) (args := #[.pointer none]) ?_ ?_ ?_)
            · simp [Region.wanted, yielded, Act.put, go_sem]
            · simp [Act.eval, Act.put, go_sem]
            · refine (copy_nil w').mono ?_
              rintro e w5 ⟨rfl, rfl⟩
              exact ⟨_, rfl, rfl, rfl⟩
          all_goals
            intro D sp w' hD hW hdp hG
            simp [asked, Region.wanted, yielded, Oper.gives, execOp, Act.eval, Act.put, go_sem]
        · intro sp w' hsp hG
          clear hsp
          simp only [frameOf, Nat.reduceAdd]
          generalize sp 1 = u1'
          generalize sp 4 = u4'
          generalize sp 5 = u5'
          generalize sp 10 = u10'
          generalize sp 13 = u13'
          generalize sp 14 = u14'
          go_simp
          go_wp2
          go_ret
          exact ⟨rfl, bstepS hbwr hG⟩
  · have h100' : (100 : Int) < np := by omega
    go_enter Tryd.func3, Tryd.ntmps3
    go_wp2_with fail
    refine (lives_calls _ rfl w hT0).mono ?_
    rintro e w1 ⟨rfl, hb1⟩
    go_wp2_with fail
    refine (lives_calls _ rfl w1 (hT0.below hb1 hT0.size)).mono ?_
    rintro e w2 ⟨rfl, hb2⟩
    go_wp2
    go_ret
    exact ⟨rfl, bstepS hb1 hb2⟩
end Go.Proofs.YtbpjjhdcmopmfaaDoor
