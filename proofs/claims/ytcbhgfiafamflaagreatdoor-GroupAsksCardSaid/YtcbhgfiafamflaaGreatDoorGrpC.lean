/- The document's challenge of a group. -/
import Derived.Test.YtcbhgfiafamflaaGreatDoorMacB
import Derived.Test.YtcbhgfiafamflaaGreatDoorMacE
import Derived.Test.YtcbhgfiafamflaaGreatDoorFit4
import Derived.Test.YtcbhgfiafamflaaGreatDoorGrpN
import Derived.Test.YtcbhgfiafamflaaGreatDoorRefS
import Derived.Test.YtcbhgfiafamflaaGreatDoorRowsIn
import Derived.Test.YtcbhgfiafamflaaGreatDoorNatX
import Derived.Test.YtcbhgfiafamflaaGreatDoorRing
/-! Groups over numbers: a challenge's bytes, products of powers, what New tells. -/
namespace Go.Proofs.YtcbhgfiafamflaaGreatDoor
set_option maxRecDepth 100000

/-- A length as eight bytes, the lowest first. -/
def le8 (n : Nat) : List Nat := (List.range 8).map fun i => n / 256 ^ i % 256
theorem le8_length (n : Nat) : (le8 n).length = 8 := by simp [le8]
theorem le8_bytes (n : Nat) : Bytes8 (le8 n) := fun x hx => by
  simp only [le8, List.mem_map] at hx
  obtain ⟨i, _, rfl⟩ := hx
  exact Nat.mod_lt _ (by decide)
/-- All parts, each behind its length. -/
def saidOf : List (List Nat) → List Nat
  | [] => []
  | p :: L => le8 p.length ++ p ++ saidOf L
theorem saidOf_snoc : ∀ (L : List (List Nat)) (p : List Nat), saidOf (L ++ [p]) = saidOf L ++ (le8 p.length ++ p)
  | [], p => by simp [saidOf]
  | a :: L, p => by simp [saidOf, saidOf_snoc L p]

end Go.Proofs.YtcbhgfiafamflaaGreatDoor

/-! Bytes of any length as a number, by the program and by the document. -/
namespace Go.Proofs.YtcbhgfiafamflaaGreatDoor
open Go Go.RowKit Go.Proofs.YtcbhgfiafamflaaGreatDoor.Flow
set_option maxRecDepth 100000

theorem be_blen {bs : List Nat} (h : Bytes8 bs) : blen (be bs) ≤ 8 * bs.length := by
  refine (blen_le _ _).2 ?_
  have := h.reverse.lt
  rw [B8_pow] at this
  simpa [be] using this
end Go.Proofs.YtcbhgfiafamflaaGreatDoor

namespace Go.Proofs.YtcbhgfiafamflaaGreatDoor
open Go Go.RowKit Go.Proofs.YtcbhgfiafamflaaGreatDoor.Flow
set_option maxRecDepth 100000

theorem le8_take (n : Nat) {i : Nat} (hi : i < 8) : (le8 n).take (i + 1) = (le8 n).take i ++ [n / 256 ^ i % 256] := by
  refine snoc_take ?_
  unfold le8
  rw [List.getElem?_map, List.getElem?_range hi]
  rfl
theorem saidOf_take {L : List Part} {k : Nat} {P : Part} (h : L[k]? = some P) : saidOf ((L.take (k + 1)).map (·.bs)) = saidOf ((L.take k).map (·.bs)) ++ (le8 P.bs.length ++ P.bs) := by
  rw [snoc_take h, List.map_append]
  exact saidOf_snoc _ _
theorem saidOf_le (L : List Part) (k : Nat) : (saidOf ((L.take k).map (·.bs))).length ≤ (saidOf (L.map (·.bs))).length := by
  conv => rhs; rw [← List.take_append_drop k L, List.map_append]
  have : ∀ (a b : List (List Nat)), (saidOf a).length ≤ (saidOf (a ++ b)).length := by
    intro a b
    induction a with
    | nil => exact Nat.zero_le _
    | cons x a ih => simp only [List.cons_append, saidOf, List.length_append]; omega
  exact this _ _
theorem saidOf_bytes {L : List Part} (h : ∀ P ∈ L, Bytes8 P.bs) : Bytes8 (saidOf (L.map (·.bs))) := by
  induction L with
  | nil => intro x hx; simp [saidOf] at hx
  | cons P L ih =>
    intro x hx
    simp only [List.map_cons, saidOf, List.mem_append] at hx
    rcases hx with (hx | hx) | hx
    · exact le8_bytes _ x hx
    · exact h P (by simp) x hx
    · exact ih (fun P hP => h P (by simp [hP])) x hx

set_option maxHeartbeats 8000000 in
set_option maxRecDepth 1000000 in
theorem dchal_calls (w : World) (pP : Option Addr) (nP cP : Nat) (pQ : Option Addr) (nQ cQ Q : Nat) (pG : Option Addr) (nG cG : Nat) (pH : Option Addr) (nH cH : Nat) (hQ : BitsAt w pQ nQ cQ Q) (hQ0 : 0 < Q) (lQ : blen Q ≤ 900000)
    (p : Option Addr) (n c : Nat) (L : List Part) (hL : PartsIn w p n c L) (hz : Whole0 L) (hmax : (saidOf (L.map (·.bs))).length ≤ 1000000) :
    Calls Tryz.prog 27 #[.agg #[.slice pP nP cP, .slice pQ nQ cQ, .slice pG nG cG, .slice pH nH cH], .slice p n c] w fun e w' => ∃ x, e = .returned x ∧ RBits (be (sha (saidOf (L.map (·.bs)))) % Q) x w' ∧ Below w.heap.size w w' := by
  obtain ⟨XX, hXX⟩ : ∃ XS, saidOf (L.map (·.bs)) = XS := ⟨_, rfl⟩
  have HXX : Hold _ := ⟨hXX⟩
  rw [hXX] at hmax
  rw [hXX]
  clear hXX
  have hbx : Below w.heap.size w (w.alloc (.cells #[.slice pP nP cP, .slice pQ nQ cQ, .slice pG nG cG, .slice pH nH cH] 51)) := (Below.refl _ _).alloc (Nat.le_refl _) _
  have HBX0 : Hold _ := ⟨Box4.made 51 w (.slice pP nP cP) (.slice pQ nQ cQ) (.slice pG nG cG) (.slice pH nH cH)⟩
  obtain ⟨wa, hwa⟩ : ∃ wa, w.alloc (.cells #[.slice pP nP cP, .slice pQ nQ cQ, .slice pG nG cG, .slice pH nH cH] 51) = wa := ⟨_, rfl⟩
  rw [hwa] at hbx HBX0
  have HWA : Hold _ := ⟨hbx⟩
  have HQ0 : Hold _ := ⟨hQ.below hbx⟩
  have HP : Hold (PartsIn wa p n c L) := ⟨hL.below hbx⟩
  have HZ : Hold (Whole0 L) := ⟨hz⟩
  have hpl : Hold (n = L.length) := ⟨hL.len⟩
  have HMx : Hold _ := ⟨hmax⟩
  have mp := hL.max
  have mcp := hL.cap
  clear hL hz hmax hQ hbx
  have HO0 : Hold (Own (wa.alloc (.cells #[] 5)) wa.heap.size (.slice (some ⟨wa.heap.size, 0, none⟩) 0 0) []) := ⟨Own.lit wa [] (by decide)⟩
  have HB0 : Hold (Below wa.heap.size wa (wa.alloc (.cells #[] 5))) := ⟨(Below.refl _ _).alloc (Nat.le_refl _) _⟩
  go_enter Tryz.func27, Tryz.ntmps27
  go_wp2
  go_loopw [5, 7, 8, 9, 13] (fun x _ _ _ i wr => ∃ (k : Nat) (v : Value), k ≤ n ∧ i = .int .i64 k ∧ v = x ∧ Hold (Below wa.heap.size wa wr) ∧ Hold (Own wr wa.heap.size v (saidOf ((L.take k).map (·.bs))))) (fun _ _ _ _ i _ => n - (intOf i).toNat)
  case atStart => exact ⟨0, _, by omega, rfl, rfl, HB0, HO0⟩
  case round =>
    obtain ⟨k, v, hk, rfl, rfl, HB, HO⟩ := hrel
    have hzr := HB.out.size
    by_cases hkn : k < n
    · obtain ⟨b, off, rfl, hb, hc⟩ := HP.out.cells (by omega)
      obtain ⟨P, hP⟩ : ∃ P, L[k]? = some P := ⟨_, List.getElem?_eq_getElem (by have := hpl.out; omega)⟩
      have HOK : Hold (PartOk wr P) := ⟨(HP.out.ok k P hP).below HB.out⟩
      have HZP : Hold (P.p = none → P.c = 0) := ⟨HZ.out P (List.mem_of_getElem? hP)⟩
      have hck : wr.cell? ⟨b, off + k, none⟩ = some (.slice P.p P.n P.c) := by
        rw [(bcell HB.out).1 _ _ hb]; exact hc k P hP
      have HPk : Hold _ := ⟨hP⟩
      have HTk : Hold _ := ⟨saidOf_take hP⟩
      have HLe : Hold _ := ⟨saidOf_le L (k + 1)⟩
      have HPn : Hold (P.n = P.bs.length) := ⟨HOK.out.row.len⟩
      clear hc hP
      obtain ⟨XS, hXS⟩ : ∃ XS, saidOf ((L.take k).map (·.bs)) = XS := ⟨_, rfl⟩
      rw [hXS] at HO HTk
      have HXl : Hold (XS.length + 8 + P.n ≤ 1000000) := ⟨by
        have h1 := HLe.out
        rw [HTk.out, List.length_append, List.length_append, le8_length, HXX.out] at h1
        have := HMx.out
        have := HPn.out
        omega⟩
      clear hXS
      obtain ⟨wc, hwc⟩ : ∃ x, x = wr := ⟨_, rfl⟩
      subst hwc
      have hkn' : (k : Int) < n := by omega
      go_wp2
      go_loopw [5, 8, 9] (fun x nv i wr => ∃ (j : Nat) (v : Value), j ≤ 8 ∧ i = .int .i64 j ∧ nv = .int .i64 ((P.n / 256 ^ j : Nat) : Int) ∧ v = x ∧ Hold (Below wa.heap.size wa wr) ∧ Hold (PartOk wr P) ∧ Hold (Own wr wa.heap.size v (XS ++ (le8 P.n).take j))) (fun _ _ i _ => 8 - (intOf i).toNat)
      case atStart => exact ⟨0, v, by omega, rfl, by rw [Nat.pow_zero, Nat.div_one], rfl, HB, HOK, ⟨by rw [List.take_zero, List.append_nil]; exact HO.out⟩⟩
      case round =>
        obtain ⟨j, v, hj, rfl, rfl, rfl, HBj, HKj, HOj⟩ := hrel
        by_cases hj8 : j < 8
        · obtain ⟨M, hM⟩ : ∃ M, P.n / 256 ^ j = M := ⟨_, rfl⟩
          have HM : Hold (P.n / 256 ^ (j + 1) = M / 256) := ⟨by rw [Nat.pow_succ, ← Nat.div_div_eq_div_mul, hM]⟩
          have HT8 : Hold ((le8 P.n).take (j + 1) = (le8 P.n).take j ++ [M % 256]) := ⟨by rw [le8_take P.n hj8, hM]⟩
          have HMl : Hold (M ≤ P.n) := ⟨by rw [← hM]; exact Nat.div_le_self _ _⟩
          rw [hM]
          obtain ⟨R, hR⟩ : ∃ R, M % 256 = R := ⟨_, rfl⟩
          have hmod : (M : Int).tmod 256 = ((R : Nat) : Int) := by rw [Int.tmod_eq_emod_of_nonneg (by omega), ← hR]; simp
          have hdiv : (M : Int).tdiv 256 = ((M / 256 : Nat) : Int) := by rw [Int.tdiv_eq_ediv_of_nonneg (by omega)]; simp
          have hR2 : R < 256 := by rw [← hR]; exact Nat.mod_lt _ (by decide)
          have hcv : IntKind.u8.wrap ((R : Nat) : Int) = R := IntWalk.u8_in _ (by omega)
          rw [hR] at HT8
          have hj8' : (j : Int) < 8 := by omega
          have HWr : Hold (wrap64 ((M : Int) / 256) = ((M / 256 : Nat) : Int)) := ⟨by
            have e : ((M : Int) / 256) = ((M / 256 : Nat) : Int) := by simp
            have h1 := HMl.out
            have h2 := HXl.out
            rw [e]
            exact IntWalk.wrap64_in ((M / 256 : Nat) : Int) (by omega)⟩
          have hrow := lit_row wr [R] (by simp)
          have hb1 : Below wr.heap.size wr (wr.alloc (.cells #[.int .u8 (R : Nat)] 5)) := (Below.refl _ _).alloc (Nat.le_refl _) _
          have hrow' : RowIn (wr.alloc (.cells #[.int .u8 (R : Nat)] 5)) .u8 (some ⟨wr.heap.size, 0, none⟩) 1 1 [R] := hrow
          obtain ⟨wd, hwd⟩ : ∃ wd, wr.alloc (.cells #[.int .u8 (R : Nat)] 5) = wd := ⟨_, rfl⟩
          rw [hwd] at hb1 hrow'
          have HOd : Hold _ := ⟨HOj.out.belowS hb1⟩
          have HKd : Hold _ := ⟨HKj.out.below hb1⟩
          have HRd : Hold _ := ⟨hrow'⟩
          have HBd : Hold _ := ⟨bstep HBj.out hb1⟩
          have HSz : Hold _ := ⟨HBd.out.size⟩
          have HLn : Hold ((XS ++ (le8 P.n).take j).length + 1 ≤ 140737488355328) := ⟨by
            rw [List.length_append, List.length_take, le8_length]
            have := HXl.out
            omega⟩
          clear hM hR hrow hrow' hb1
          go_wp2_with (at_builtin; refine wpList_app rfl _ _ rfl rfl HOd.out rfl HRd.out (fun h => by cases h) HLn.out HSz.out ?_; intro v1 w3 ho1 hg1; refine Paused.out ?_)
          refine ⟨?_⟩
          rw [List.append_assoc, ← HT8.out] at ho1
          have HO1 : Hold _ := ⟨ho1⟩
          have HB3 : Hold _ := ⟨HBd.out.trans (grown_below hg1 HSz.out HOd.out.ge)⟩
          have HK3 : Hold (PartOk w3 P) := ⟨(HP.out.ok k P HPk.out).below HB3.out⟩
          clear ho1 hg1
          go_wp2
          go_roundw
          case rel => exact ⟨j + 1, _, by omega, by go_num, by rw [HM.out, HWr.out], rfl, HB3, HK3, HO1⟩
          case measure => simp [intOf]; omega
        · obtain rfl : j = 8 := by omega
          have htk : (le8 P.n).take 8 = le8 P.n := List.take_of_length_le (by rw [le8_length]; exact Nat.le_refl _)
          rw [htk] at HOj
          have hj8' : ¬ (8 : Int) < 8 := by omega
          have HSz : Hold _ := ⟨HBj.out.size⟩
          have HLn : Hold ((XS ++ le8 P.n).length + P.n ≤ 140737488355328) := ⟨by
            rw [List.length_append, le8_length]
            have := HXl.out
            omega⟩
          clear htk
          go_wp2_with (at_builtin; refine wpList_app rfl _ _ rfl rfl HOj.out rfl HKj.out.row HZP.out HLn.out HSz.out ?_; intro v1 w3 ho1 hg1; refine Paused.out ?_)
          refine ⟨?_⟩
          rw [List.append_assoc, HPn.out, ← HTk.out] at ho1
          have HO1 : Hold _ := ⟨ho1⟩
          have HB3 : Hold _ := ⟨HBj.out.trans (grown_below hg1 HSz.out HOj.out.ge)⟩
          clear ho1 hg1
          go_wp2
          go_roundw
          case rel => exact ⟨k + 1, _, by omega, by go_num, rfl, HB3, HO1⟩
          case measure => simp [intOf]; omega
    · obtain rfl : k = n := by omega
      have hkn' : ¬ (k : Int) < k := by omega
      obtain ⟨XS, hXS⟩ : ∃ XS, XX = XS := ⟨_, rfl⟩
      have HOf : Hold (Own wr wa.heap.size v XS) := ⟨by
        have h := HO.out
        rw [List.take_of_length_le (by have := hpl.out; omega), HXX.out, hXS] at h
        exact h⟩
      have HXn0 : Hold (XS.length ≤ 1000000) := ⟨by rw [← hXS]; exact HMx.out⟩
      have H8 : Hold (Bytes8 XS) := ⟨by
        rw [← hXS, ← HXX.out]
        exact saidOf_bytes fun P hP => by
          obtain ⟨i, hi⟩ := List.getElem?_of_mem hP
          exact (HP.out.ok i P hi).bytes⟩
      subst hXS
      obtain ⟨nx, hnx⟩ : ∃ nx, XX.length = nx := ⟨_, rfl⟩
      obtain ⟨p5, c5, rfl, hr5, _, hz5, _⟩ := HOf.out.elim
      rw [hnx] at hr5 HXn0
      rw [hnx]
      have HX : Hold _ := ⟨hr5⟩
      have HZ5 : Hold _ := ⟨hz5⟩
      have HXn : Hold (nx ≤ 1000000) := HXn0
      have HBX : Hold _ := ⟨HBX0.out.below HB.out HBX0.out.lt⟩
      have HQ : Hold _ := ⟨HQ0.out.below HB.out⟩
      have HBT : Hold _ := ⟨bstep HWA.out HB.out⟩
      have HS256 : Hold (blen (be (sha XX)) ≤ 800000) := ⟨by have := be_blen (sha_bytes XX); rw [sha_length] at this; omega⟩
      clear hr5 hz5 hnx
      go_wp2
      refine wp_region_duties (by kernel_rfl) (by kernel_rfl)
        [some (.slice p5 nx c5), none, none, some (.pointer (some ⟨w.heap.size, 1, none⟩)), some (.slice pQ nQ cQ), none, none]
        [false, true, true, false, false, true, true] rfl
        (fun w1 w2 => Below w1.heap.size w1 w2)
        (fun _ w' => Below wr.heap.size wr w')
        (fun i v w' => match i with
          | 1 => OwnIs 0 (sha XX) v w'
          | 2 => RBits (be (sha XX)) v w'
          | 5 => RBits (be (sha XX) % Q) v w'
          | 6 => RBits (be (sha XX) % Q) v w'
          | _ => True)
        ?_ (Below.refl _ _).drew ?_ ?_
      · intro i v w1 w2 hf hb
        split at hf
        · exact hf.below hb
        · exact hf.below hb
        · exact hf.below hb
        · exact hf.below hb
        · trivial
      · simp only [Duties, Nat.reduceAdd]
        refine ⟨?_, ?_, ?_, ?_, ?_, ?_, ?_, trivial⟩
        case refine_1 =>
          intro D sp w' hD hW hdp hbx'
          (with_reducible refine asked_value (w1 := w') (v := .slice p5 nx c5) ?_ ?_ ?_)
          · first | (simp only [Region.wanted]; done) | simp [Region.wanted, yielded, Act.put, go_sem]
          · simp [execOp, Act.eval, go_sem]
          · exact ⟨rfl, rfl⟩
        case refine_2 =>
          intro D sp w' hD hW hdp hbx'
          (with_reducible refine asked_call (w1 := w') (f := 69) (args := #[.slice p5 nx c5]) ?_ ?_ ?_)
          · first | (simp only [Region.wanted]; done) | simp [Region.wanted, yielded, Act.put, go_sem]
          · simp [Act.eval, Act.put, go_sem]
          · refine (refsum_calls w' p5 nx c5 XX (HX.out.below hbx') H8.out HZ5.out HXn.out).mono ?_
            rintro en w9 ⟨u, rfl, hu, hb⟩
            have hu := hu.zero
            exact ⟨u, rfl, hb, hu, bstep hbx' hb⟩
        case refine_3 =>
          intro D sp w' hD hW hdp hbx'
          have k1 : OwnIs 0 (sha XX) (sp 1) w' := (hdp 1 (List.mem_of_elem_eq_true (by kernel_rfl))).2
          (with_reducible refine k1.elim (fun p1 c1 hv1 hr1 _ _ => ?_))
          rw [sha_length] at hr1 hv1
          (with_reducible refine asked_call (w1 := w') (f := 45) (args := #[.slice p1 32 c1]) ?_ ?_ ?_)
          · simp only [Region.wanted]
          · simp [Act.eval, Act.put, go_sem, hv1]
          · refine (of_calls w' p1 32 c1 (sha XX) hr1 (sha_bytes _) (by omega)).mono ?_
            rintro en w9 ⟨q, m, d, rfl, hu, hb, _⟩
            exact ⟨_, rfl, hb, RBits.of hu, bstep hbx' hb⟩
        case refine_4 =>
          intro D sp w' hD hW hdp hbx'
          (with_reducible refine asked_value (w1 := w') (v := .pointer (some ⟨w.heap.size, 1, none⟩)) ?_ ?_ ?_)
          · first | (simp only [Region.wanted]; done) | simp [Region.wanted, yielded, Act.put, go_sem]
          · simp [execOp, Act.eval, Act.put, go_sem]
          · exact ⟨rfl, rfl⟩
        case refine_5 =>
          intro D sp w' hD hW hdp hbx'
          have c0 := (HBX.out.below hbx' HBX.out.lt).cells.2.1
          (with_reducible refine asked_value (w1 := w') (v := .slice pQ nQ cQ) ?_ ?_ ?_)
          · first | (simp only [Region.wanted]; done) | simp [Region.wanted, yielded, Act.put, go_sem]
          · simp [execOp, Act.eval, Act.put, go_sem, c0]
          · exact ⟨rfl, rfl⟩
        case refine_6 =>
          intro D sp w' hD hW hdp hbx'
          have k2 : RBits (be (sha XX)) (sp 2) w' := (hdp 2 (List.mem_of_elem_eq_true (by kernel_rfl))).2
          (with_reducible refine asked_call (w1 := w') (f := 68) (args := #[sp 2, .slice pQ nQ cQ]) ?_ ?_ ?_)
          · first | (simp only [Region.wanted]; done) | simp [Region.wanted, yielded, Act.put, go_sem]
          · simp [Act.eval, Act.put, go_sem]
          · refine (dof_fit k2 (RBits.of (HQ.out.below hbx')) (by have := HS256.out; omega) lQ hQ0).mono ?_
            rintro en w9 ⟨u, rfl, hu, hb⟩
            exact ⟨u, rfl, hb, hu, bstep hbx' hb⟩
        case refine_7 =>
          intro D sp w' hD hW hdp hbx'
          have k5 : RBits (be (sha XX) % Q) (sp 5) w' := (hdp 5 (List.mem_of_elem_eq_true (by kernel_rfl))).2
          (with_reducible refine asked_value (w1 := w') (v := sp 5) ?_ ?_ ?_)
          · first | (simp only [Region.wanted]; done) | simp [Region.wanted, yielded, Act.put, go_sem]
          · simp [execOp, Act.eval, Act.put, go_sem]
          · exact ⟨Below.refl _ _, k5, hbx'⟩
      · intro sp w7 hsp hbx'
        have k6 : RBits (be (sha XX) % Q) (sp 6) w7 := hsp 6 rfl
        have HK : Hold _ := ⟨k6⟩
        have HBe : Hold _ := ⟨bstep HBT.out hbx'⟩
        clear hsp hbx' k6
        simp only [frameOf, Nat.reduceAdd]
        generalize sp 1 = y1 at *
        generalize sp 2 = y2 at *
        generalize sp 5 = y5 at *
        generalize sp 6 = y6 at *
        go_simp
        go_wp2
        go_ret
        exact ⟨_, rfl, HK.out, HBe.out⟩

end Go.Proofs.YtcbhgfiafamflaaGreatDoor
