/- GroupMultis, walked: out of what a group's calls do. -/
import Derived.Test.YtcbhgfiafamflaaGreatDoorGqM
import Derived.Test.YtcbhgfiafamflaaGreatDoorRowsIn
import Derived.Test.YtcbhgfiafamflaaGreatDoorCpI
namespace Go.Proofs.YtcbhgfiafamflaaGreatDoor
open Go Go.RowKit Go.Proofs.YtcbhgfiafamflaaGreatDoor.Flow
set_option maxRecDepth 100000

section
variable {At : World → Nat → Nat → Nat → Nat → Nat → Prop} {ready : World → Prop}

/-- What the product of powers does. -/
structure MultiDoes (At : World → Nat → Nat → Nat → Nat → Nat → Prop) : Prop where
  mul : ∀ {w b P Q G H e1 e2 A E v u}, At w b P Q G H → Fit e1 A v w → Fit e2 E u w → e1 ≤ 200 → e2 ≤ 200 →
    Calls Tryz.prog 20 #[.pointer (some ⟨b, 0, none⟩), v, u] w fun e w' => ∃ x, e = .returned x ∧ Fit 33 (A * E % P) x w' ∧ Below w.heap.size w w'
  multi : ∀ {w b P Q G H e1 e2 p n c Bs q m d Es}, At w b P Q G H → PList w e1 p n c Bs → PList w e2 q m d Es → e1 ≤ 200 → e2 ≤ 200 → n ≤ 1000 → m ≤ 1000 →
    Calls Tryz.prog 18 #[.pointer (some ⟨b, 0, none⟩), .slice p n c, .slice q m d] w fun e w' => ∃ x, e = .returned (.tuple #[x, .int .i64 (if n = m then 0 else 1)]) ∧ Fit 33 (if n = m then mprod P 1 (Bs.zip Es) else 0) x w' ∧ Below w.heap.size w w'

theorem zip_snoc {Bs Es : List Nat} {k b e : Nat} (h1 : Bs[k]? = some b) (h2 : Es[k]? = some e) : (Bs.zip Es).take (k + 1) = (Bs.zip Es).take k ++ [(b, e)] := by
  refine snoc_take ?_
  rw [List.getElem?_zip_eq_some]
  exact ⟨h1, h2⟩

set_option maxHeartbeats 8000000 in
set_option maxRecDepth 1000000 in
theorem multis_calls (D : GrpDoes At ready) (M : MultiDoes At) (w : World) (hr : ready w) (A : Int) (pl : Option Addr) (nl cl : Nat) (L : List Part) (pm : Option Addr) (nm cm : Nat) (K : List Part) (hL : PartsIn w pl nl cl L) (hK : PartsIn w pm nm cm K) :
    Calls Tryz.prog 4 #[.int .i64 A, .slice pl nl cl, .slice pm nm cm] w fun e w' => e = .returned (.bool true) ∧ Below w.heap.size w w' := by
  have HL : Hold _ := ⟨hL⟩
  have HK : Hold _ := ⟨hK⟩
  have HLn : Hold _ := ⟨hL.len⟩
  have HKn : Hold _ := ⟨hK.len⟩
  have hl1 := Nat.le_trans hL.cap hL.max
  have hm1 := Nat.le_trans hK.cap hK.max
  have HD : Hold _ := ⟨D⟩
  have HM : Hold _ := ⟨M⟩
  have HR : Hold _ := ⟨hr⟩
  have HLI : Hold _ := ⟨lives9_calls D⟩
  have HG : Hold _ := ⟨fun (w : World) (A : Int) (hr : ready w) => group_calls D w A hr⟩
  clear hL hK D M hr
  go_enter Tryz.func4, Tryz.ntmps4
  go_wp2_with fail
  refine (HLI.out w HR.out).mono ?_
  rintro en w1 ⟨rfl, b1⟩
  have B1 : Hold _ := ⟨b1⟩
  clear b1
  by_cases hl10 : 10 < nl
  · have hl10' : (10 : Int) < nl := by omega
    go_wp2_with fail
    refine (HLI.out w1 (HD.out.readyBelow HR.out B1.out)).mono ?_
    rintro en w2 ⟨rfl, b2⟩
    have B2 : Hold _ := ⟨bstep B1.out b2⟩
    clear b2
    go_wp2
    go_ret
    exact ⟨rfl, B2.out⟩
  have hl10' : ¬ (10 : Int) < nl := by omega
  by_cases hm10 : 10 < nm
  · have hm10' : (10 : Int) < nm := by omega
    go_wp2_with fail
    refine (HLI.out w1 (HD.out.readyBelow HR.out B1.out)).mono ?_
    rintro en w2 ⟨rfl, b2⟩
    have B2 : Hold _ := ⟨bstep B1.out b2⟩
    clear b2
    go_wp2
    go_ret
    exact ⟨rfl, B2.out⟩
  have hm10' : ¬ (10 : Int) < nm := by omega
  go_wp2_with fail
  refine (HG.out w1 A (HD.out.readyBelow HR.out B1.out)).mono ?_
  rintro en w2 ⟨b, rfl, hg, b2⟩
  obtain ⟨i, hi⟩ : ∃ i, ((IntKind.u64.wrap A) % 3).toNat = i := ⟨_, rfl⟩
  rw [hi] at hg
  clear hi
  obtain ⟨P, hP⟩ : ∃ P, gP i = P := ⟨_, rfl⟩
  obtain ⟨Q, hQ⟩ : ∃ Q, gQ i = Q := ⟨_, rfl⟩
  obtain ⟨G, hG⟩ : ∃ G, gG i = G := ⟨_, rfl⟩
  obtain ⟨H, hH⟩ : ∃ H, gH i = H := ⟨_, rfl⟩
  rw [hP, hQ, hG, hH] at hg
  clear hP hQ hG hH
  have HA : Hold _ := ⟨hg⟩
  have B2 : Hold _ := ⟨bstep B1.out b2⟩
  have hP2 := (HD.out.lim hg).1
  have hP3 := (HD.out.lim hg).2.1
  have HPl : Hold _ := ⟨And.intro hP2 hP3⟩
  clear b2 hg hP2 hP3
  go_wp2
  go_loopw [8, 11, 37] (fun vv _ iv wr => ∃ (k : Nat) (bad : Nat → Prop), k ≤ nl ∧ iv = .int .i64 k ∧ Hold (Below w2.heap.size w2 wr) ∧ Hold (∀ g, bad g → g < wr.heap.size) ∧ Hold (OwnV NatAt 33 w2.heap.size bad wr vv ((L.take k).map fun P => numOf P.bs)) ∧ Hold (∀ g, vv.ownBlock = some g → bad g)) (fun _ _ iv _ => nl - (intOf iv).toNat)
  case atStart => exact ⟨0, fun _ => False, by omega, rfl, ⟨Below.refl _ _⟩, ⟨fun _ h => h.elim⟩, ⟨OwnV.nil⟩, ⟨fun g h => by cases h⟩⟩
  case round =>
    obtain ⟨k, bad, hk, rfl, HB, HLT, HO, HV⟩ := hrel
    by_cases hkn : k < nl
    · obtain ⟨S, hSk⟩ : ∃ s, L[k]? = some s := ⟨L[k]'(by rw [← HLn.out]; exact hkn), List.getElem?_eq_getElem _⟩
      have HBw : Hold _ := ⟨bstep B2.out HB.out⟩
      have hLr := HL.out.below HBw.out
      obtain ⟨bb, off, rfl, hb, hc⟩ := hLr.cells (by omega)
      have hx := hc k S hSk
      have HOK : Hold _ := ⟨hLr.ok k S hSk⟩
      have HTk : Hold ((L.take (k + 1)).map (fun P => numOf P.bs) = (L.take k).map (fun P => numOf P.bs) ++ [numOf S.bs]) := ⟨by rw [snoc_take hSk, List.map_append]; rfl⟩
      have HTl : Hold (((L.take k).map fun P => numOf P.bs).length ≤ 1000000) := ⟨by rw [List.length_map, List.length_take]; omega⟩
      have hkn' : (k : Int) < nl := by omega
      clear hc hSk hLr
      go_wp2_with fail
      refine (num_calls wr S.p S.n S.c S.bs HOK.out.row HOK.out.bytes).mono ?_
      rintro en w3 ⟨q, m, d, rfl, hn3, b3, hnew⟩
      have hb4 : Below w3.heap.size w3 (w3.alloc (.cells #[.slice q m d] 33)) := (Below.refl _ _).alloc (Nat.le_refl _) _
      have hx4 : (w3.alloc (.cells #[.slice q m d] 33)).cell? ⟨w3.heap.size, 0, none⟩ = some (.slice q m d) := (NatBox.made w3 (.slice q m d)).cell
      obtain ⟨w4, hw4⟩ : ∃ w4, w3.alloc (.cells #[.slice q m d] 33) = w4 := ⟨_, rfl⟩
      rw [hw4] at hb4 hx4
      have hb34 := bstep b3 hb4
      have hB4 := bstep HB.out hb34
      have hfirm : Firm (fun w => NatAt w q m d (numOf S.bs)) bad w4 := natStands.fresh (hn3.below hb4) hnew HLT.out
      obtain ⟨i1, hi1, hz1, hs1, hbb1⟩ := info_parts Tryz.info_Nat
      refine (HO.out.below hb34).app2 (x := (q, m, d)) Tryz.underlying35 hi1 hz1 hs1 hbb1 rfl (by decide) hB4.size hx4 hfirm HV.out (fun g hg => Nat.lt_of_lt_of_le (HLT.out g hg) hb34.size) HTl.out 35 (c := 1) ?_
      intro v9 w9 bad9 happ ho9 hg9 m1 m2 m3 m4
      have HO9 : Hold _ := ⟨ho9⟩
      have HB9 : Hold (Below w2.heap.size w2 w9) := ⟨hB4.grown hg9 hB4.size fun g hg => (HO.out.block g hg).1⟩
      have HLT9 : Hold _ := ⟨m4⟩
      have HV9 : Hold _ := ⟨m3⟩
      clear hb4 hx4 hb34 hB4 hfirm hi1 hz1 hs1 hbb1 ho9 hg9 m1 m2 m3 m4 b3 hn3 hnew
      go_wp2_with (at_builtin; refine Lib.wpList_append_run _ rfl _ _ _ _ rfl _ _ rfl rfl _ _ happ ?_; refine Paused.out ?_)
      refine ⟨?_⟩
      clear happ
      go_wp2
      go_roundw
      case rel => exact ⟨k + 1, bad9, by omega, by go_num, HB9, HLT9, ⟨by rw [HTk.out]; exact HO9.out⟩, HV9⟩
      case measure => simp [intOf]; omega
    · obtain rfl : k = nl := by omega
      have hkn' : ¬ (k : Int) < k := by omega
      have htk : L.take k = L := List.take_of_length_le (by rw [← HLn.out]; exact Nat.le_refl _)
      rw [htk] at HO
      clear htk
      have hBl : ∀ N ∈ L.map (fun P => numOf P.bs), N < B32 12 := fun N hN => by
        obtain ⟨P, hP, rfl⟩ := List.mem_map.1 hN
        obtain ⟨i, hi⟩ := List.getElem?_of_mem hP
        exact numOf_lt (HL.out.ok i P hi).bytes
      obtain ⟨Bs, hBs⟩ : ∃ Bs, L.map (fun P => numOf P.bs) = Bs := ⟨_, rfl⟩
      rw [hBs] at HO hBl
      have HBn : Hold (Bs.length = k) := ⟨by rw [← hBs, List.length_map]; exact HLn.out.symm⟩
      clear hBs
      obtain ⟨p1, c1, rfl, hp1⟩ := HO.out.plist hBl
      rw [HBn.out] at hp1
      rw [HBn.out]
      have HP1 : Hold _ := ⟨hp1⟩
      have HB3 : Hold _ := ⟨bstep B2.out HB.out⟩
      have HA3 : Hold _ := ⟨HD.out.below HA.out HB.out⟩
      clear hp1 hBl
      obtain ⟨w5, hw5⟩ : ∃ x, x = wr := ⟨_, rfl⟩
      subst hw5
      go_wp2
      go_loopw [9, 13, 49] (fun vv _ iv wr => ∃ (j : Nat) (bad : Nat → Prop), j ≤ nm ∧ iv = .int .i64 j ∧ Hold (Below w5.heap.size w5 wr) ∧ Hold (∀ g, bad g → g < wr.heap.size) ∧ Hold (OwnV NatAt 33 w5.heap.size bad wr vv ((K.take j).map fun P => numOf (P.bs.take 12))) ∧ Hold (∀ g, vv.ownBlock = some g → bad g)) (fun _ _ iv _ => nm - (intOf iv).toNat)
      case atStart => exact ⟨0, fun _ => False, by omega, rfl, ⟨Below.refl _ _⟩, ⟨fun _ h => h.elim⟩, ⟨OwnV.nil⟩, ⟨fun g h => by cases h⟩⟩
      case round =>
        obtain ⟨j, bad2, hj, rfl, HB5, HLT5, HO5, HV5⟩ := hrel
        by_cases hjm : j < nm
        · obtain ⟨S, hSj⟩ : ∃ s, K[j]? = some s := ⟨K[j]'(by rw [← HKn.out]; exact hjm), List.getElem?_eq_getElem _⟩
          have HBw : Hold _ := ⟨bstep HB3.out HB5.out⟩
          have hLr := HK.out.below HBw.out
          obtain ⟨bb, off, rfl, hb, hc⟩ := hLr.cells (by omega)
          have hx := hc j S hSj
          have HOK : Hold _ := ⟨hLr.ok j S hSj⟩
          have HTk : Hold ((K.take (j + 1)).map (fun P => numOf (P.bs.take 12)) = (K.take j).map (fun P => numOf (P.bs.take 12)) ++ [numOf (S.bs.take 12)]) := ⟨by rw [snoc_take hSj, List.map_append]; rfl⟩
          have HTl : Hold (((K.take j).map fun P => numOf (P.bs.take 12)).length ≤ 1000000) := ⟨by rw [List.length_map, List.length_take]; omega⟩
          have hjm' : (j : Int) < nm := by omega
          have HOL : Hold _ := ⟨HOK.out.row.len⟩
          have hSc := HOK.out.row.cap
          have hSm := HOK.out.row.max
          clear hc hSj hLr
          by_cases h12 : 12 < S.n
          · have HRow : Hold _ := ⟨HOK.out.row.take 12 (Nat.le_of_lt h12)⟩
            have h12' : (12 : Int) < S.n := by omega
            go_wp2_with fail
            refine (num_calls wr S.p 12 S.c (S.bs.take 12) HRow.out (HOK.out.bytes.take 12)).mono ?_
            rintro en w6 ⟨q, m, d, rfl, hn6, b6, hnew⟩
            have hb7 : Below w6.heap.size w6 (w6.alloc (.cells #[.slice q m d] 33)) := (Below.refl _ _).alloc (Nat.le_refl _) _
            have hx7 : (w6.alloc (.cells #[.slice q m d] 33)).cell? ⟨w6.heap.size, 0, none⟩ = some (.slice q m d) := (NatBox.made w6 (.slice q m d)).cell
            obtain ⟨w7, hw7⟩ : ∃ w7, w6.alloc (.cells #[.slice q m d] 33) = w7 := ⟨_, rfl⟩
            rw [hw7] at hb7 hx7
            have hb67 := bstep b6 hb7
            have hB7 := bstep HB5.out hb67
            have hfirm : Firm (fun w => NatAt w q m d (numOf (S.bs.take 12))) bad2 w7 := natStands.fresh (hn6.below hb7) hnew HLT5.out
            obtain ⟨i1, hi1, hz1, hs1, hbb1⟩ := info_parts Tryz.info_Nat
            refine (HO5.out.below hb67).app2 (x := (q, m, d)) Tryz.underlying35 hi1 hz1 hs1 hbb1 rfl (by decide) hB7.size hx7 hfirm HV5.out (fun g hg => Nat.lt_of_lt_of_le (HLT5.out g hg) hb67.size) HTl.out 35 (c := 1) ?_
            intro v9 w9 bad9 happ ho9 hg9 m1 m2 m3 m4
            have HO9 : Hold _ := ⟨ho9⟩
            have HB9 : Hold (Below w5.heap.size w5 w9) := ⟨hB7.grown hg9 hB7.size fun g hg => (HO5.out.block g hg).1⟩
            have HLT9 : Hold _ := ⟨m4⟩
            have HV9 : Hold _ := ⟨m3⟩
            clear hb7 hx7 hb67 hB7 hfirm hi1 hz1 hs1 hbb1 ho9 hg9 m1 m2 m3 m4 b6 hn6 hnew
            go_wp2_with (at_builtin; refine Lib.wpList_append_run _ rfl _ _ _ _ rfl _ _ rfl rfl _ _ happ ?_; refine Paused.out ?_)
            refine ⟨?_⟩
            clear happ
            go_wp2
            go_roundw
            case rel => exact ⟨j + 1, bad9, by omega, by go_num, HB9, HLT9, ⟨by rw [HTk.out]; exact HO9.out⟩, HV9⟩
            case measure => simp [intOf]; omega
          · have HRow : Hold (RowIn wr .u8 S.p S.n S.c (S.bs.take 12)) := ⟨by rw [List.take_of_length_le (by rw [← HOL.out]; omega)]; exact HOK.out.row⟩
            have h12' : ¬ (12 : Int) < S.n := by omega
            go_wp2_with fail
            refine (num_calls wr S.p S.n S.c (S.bs.take 12) HRow.out (HOK.out.bytes.take 12)).mono ?_
            rintro en w6 ⟨q, m, d, rfl, hn6, b6, hnew⟩
            have hb7 : Below w6.heap.size w6 (w6.alloc (.cells #[.slice q m d] 33)) := (Below.refl _ _).alloc (Nat.le_refl _) _
            have hx7 : (w6.alloc (.cells #[.slice q m d] 33)).cell? ⟨w6.heap.size, 0, none⟩ = some (.slice q m d) := (NatBox.made w6 (.slice q m d)).cell
            obtain ⟨w7, hw7⟩ : ∃ w7, w6.alloc (.cells #[.slice q m d] 33) = w7 := ⟨_, rfl⟩
            rw [hw7] at hb7 hx7
            have hb67 := bstep b6 hb7
            have hB7 := bstep HB5.out hb67
            have hfirm : Firm (fun w => NatAt w q m d (numOf (S.bs.take 12))) bad2 w7 := natStands.fresh (hn6.below hb7) hnew HLT5.out
            obtain ⟨i1, hi1, hz1, hs1, hbb1⟩ := info_parts Tryz.info_Nat
            refine (HO5.out.below hb67).app2 (x := (q, m, d)) Tryz.underlying35 hi1 hz1 hs1 hbb1 rfl (by decide) hB7.size hx7 hfirm HV5.out (fun g hg => Nat.lt_of_lt_of_le (HLT5.out g hg) hb67.size) HTl.out 35 (c := 1) ?_
            intro v9 w9 bad9 happ ho9 hg9 m1 m2 m3 m4
            have HO9 : Hold _ := ⟨ho9⟩
            have HB9 : Hold (Below w5.heap.size w5 w9) := ⟨hB7.grown hg9 hB7.size fun g hg => (HO5.out.block g hg).1⟩
            have HLT9 : Hold _ := ⟨m4⟩
            have HV9 : Hold _ := ⟨m3⟩
            clear hb7 hx7 hb67 hB7 hfirm hi1 hz1 hs1 hbb1 ho9 hg9 m1 m2 m3 m4 b6 hn6 hnew
            go_wp2_with (at_builtin; refine Lib.wpList_append_run _ rfl _ _ _ _ rfl _ _ rfl rfl _ _ happ ?_; refine Paused.out ?_)
            refine ⟨?_⟩
            clear happ
            go_wp2
            go_roundw
            case rel => exact ⟨j + 1, bad9, by omega, by go_num, HB9, HLT9, ⟨by rw [HTk.out]; exact HO9.out⟩, HV9⟩
            case measure => simp [intOf]; omega
        · obtain rfl : j = nm := by omega
          have hjm' : ¬ (j : Int) < j := by omega
          have htk : K.take j = K := List.take_of_length_le (by rw [← HKn.out]; exact Nat.le_refl _)
          rw [htk] at HO5
          clear htk
          have hEl : ∀ N ∈ K.map (fun P => numOf (P.bs.take 12)), N < B32 12 := fun N hN => by
            obtain ⟨P, hP, rfl⟩ := List.mem_map.1 hN
            obtain ⟨i, hi⟩ := List.getElem?_of_mem hP
            exact numOf_lt ((HK.out.ok i P hi).bytes.take 12)
          obtain ⟨Es, hEs⟩ : ∃ Es, K.map (fun P => numOf (P.bs.take 12)) = Es := ⟨_, rfl⟩
          rw [hEs] at HO5 hEl
          have HEn : Hold (Es.length = j) := ⟨by rw [← hEs, List.length_map]; exact HKn.out.symm⟩
          clear hEs
          obtain ⟨p2, c2, rfl, hp2⟩ := HO5.out.plist hEl
          rw [HEn.out] at hp2
          rw [HEn.out]
          have HP2 : Hold _ := ⟨hp2⟩
          have HP1' : Hold _ := ⟨HP1.out.below HB5.out⟩
          have HB6 : Hold _ := ⟨bstep HB3.out HB5.out⟩
          have HA6 : Hold _ := ⟨HD.out.below HA3.out HB5.out⟩
          clear hp2 hEl
          go_wp2_with fail
          refine (HM.out.multi HA6.out HP1'.out HP2.out (by decide) (by decide) (by omega) (by omega)).mono ?_
          rintro en w7 ⟨_, rfl, ⟨q7, m7, d7, rfl, x7, l7⟩, b7⟩
          have hb8 : Below w7.heap.size w7 (w7.alloc (.cells #[.slice q7 m7 d7] 33)) := (Below.refl _ _).alloc (Nat.le_refl _) _
          have HX14 : Hold _ := ⟨NatBox.made w7 (.slice q7 m7 d7)⟩
          obtain ⟨w8, hw8⟩ : ∃ w8, w7.alloc (.cells #[.slice q7 m7 d7] 33) = w8 := ⟨_, rfl⟩
          rw [hw8] at hb8 HX14
          have hb78 := bstep b7 hb8
          have HB8 : Hold _ := ⟨bstep HB6.out hb78⟩
          have HA8 : Hold _ := ⟨HD.out.below HA6.out hb78⟩
          have HP18 : Hold _ := ⟨HP1'.out.below hb78⟩
          have HP28 : Hold _ := ⟨HP2.out.below hb78⟩
          have HX8 : Hold _ := ⟨x7.below hb8⟩
          have HXl : Hold _ := ⟨l7⟩
          have c14 := HX14.out.cell
          clear hb8 hb78 b7 x7 l7
          by_cases hkj : k = j
          · subst hkj
            simp only [if_true] at HX8 HXl ⊢
            have heq : ((k : Int) == (k : Nat)) = true := by simp
            go_wp2_with fail
            refine (new_calls 1 w8 (by omega)).mono ?_
            rintro en w9 ⟨q9, m9, d9, rfl, hn9, b9, _⟩
            have hbA : Below w9.heap.size w9 (w9.alloc (.cells #[.slice q9 m9 d9] 33)) := (Below.refl _ _).alloc (Nat.le_refl _) _
            have HX16 : Hold _ := ⟨NatBox.made w9 (.slice q9 m9 d9)⟩
            obtain ⟨wA, hwA⟩ : ∃ wA, w9.alloc (.cells #[.slice q9 m9 d9] 33) = wA := ⟨_, rfl⟩
            rw [hwA] at hbA HX16
            have HBA : Hold _ := ⟨hbA⟩
            have HB9 : Hold _ := ⟨bstep HB8.out b9⟩
            have HA9 : Hold _ := ⟨HD.out.below HA8.out b9⟩
            have HP19 : Hold _ := ⟨HP18.out.below b9⟩
            have HP29 : Hold _ := ⟨HP28.out.below b9⟩
            have HX9 : Hold _ := ⟨HX8.out.below b9⟩
            have HX149 : Hold _ := ⟨HX14.out.below b9 HX14.out.lt⟩
            have HN9 : Hold _ := ⟨hn9.below hbA⟩
            clear hbA hn9 b9 c14
            go_wp2
            go_loopw [17, 84] (fun _ iv wr => ∃ (n : Nat) (x : Option Addr × Nat × Nat), n ≤ k ∧ iv = .int .i64 n ∧ Hold (Below w9.heap.size w9 wr) ∧ Hold (NatBox wr w9.heap.size (.slice x.1 x.2.1 x.2.2)) ∧ Hold (NatAt wr x.1 x.2.1 x.2.2 (mprod P 1 ((Bs.zip Es).take n)))) (fun _ iv _ => k - (intOf iv).toNat)
            case atStart => exact ⟨0, (q9, m9, d9), by omega, rfl, HBA, HX16, HN9⟩
            case round =>
              obtain ⟨n, x, hn, rfl, HBr, HXr, HNr⟩ := hrel
              by_cases hnk : n < k
              · obtain ⟨BB, hBk⟩ : ∃ X, Bs[n]? = some X := ⟨Bs[n]'(by rw [HBn.out]; exact hnk), List.getElem?_eq_getElem _⟩
                obtain ⟨EE, hEk⟩ : ∃ X, Es[n]? = some X := ⟨Es[n]'(by rw [HEn.out]; exact hnk), List.getElem?_eq_getElem _⟩
                have hQ1 := HP19.out.below HBr.out
                have hQ2 := HP29.out.below HBr.out
                obtain ⟨bb1, off1, rfl, hlt1, hc1⟩ := hQ1.at_ (by omega)
                obtain ⟨bb2, off2, rfl, hlt2, hc2⟩ := hQ2.at_ (by omega)
                obtain ⟨qb, mb, db, hx1, hn1, hl1⟩ := hc1 n BB hBk
                obtain ⟨qe, me, de, hx2, hn2, hl2⟩ := hc2 n EE hEk
                have HBk : Hold _ := ⟨hBk⟩
                have HEk : Hold _ := ⟨hEk⟩
                obtain ⟨X, hX⟩ : ∃ X, mprod P 1 ((Bs.zip Es).take n) = X := ⟨_, rfl⟩
                rw [hX] at HNr
                have HXl2 : Hold (X < B32 33) := ⟨by rw [← hX]; exact Nat.lt_trans (mprod_lt HPl.out.1 _ 1 (by have := HPl.out.1; omega)) HPl.out.2⟩
                obtain ⟨Y, hY⟩ : ∃ Y, BB ^ EE % P = Y := ⟨_, rfl⟩
                obtain ⟨Z, hZ⟩ : ∃ Z, X * Y % P = Z := ⟨_, rfl⟩
                have HY : Hold _ := ⟨hY⟩
                have HZ : Hold _ := ⟨hZ⟩
                have HTk : Hold (mprod P 1 ((Bs.zip Es).take (n + 1)) = Z) := ⟨by rw [zip_snoc hBk hEk, mprod_snoc, hX, hY, hZ]⟩
                have HF1 : Hold _ := ⟨Fit.of hn1 hl1⟩
                have HF2 : Hold _ := ⟨Fit.of hn2 hl2⟩
                have HAr : Hold _ := ⟨HD.out.below HA9.out HBr.out⟩
                have hlow1 : bb1 < w9.heap.size := by
                  obtain ⟨b', o', e1, e2, _⟩ := HP19.out.at_ (by omega)
                  cases e1; exact e2
                have hlow2 : bb2 < w9.heap.size := by
                  obtain ⟨b', o', e1, e2, _⟩ := HP29.out.at_ (by omega)
                  cases e1; exact e2
                have HW9 : Hold (w9.heap.size ≤ wr.heap.size) := ⟨HBr.out.size⟩
                have hnk' : (n : Int) < k := by omega
                have hXr := HXr.out
                have hNr := HNr.out
                clear hc1 hc2 hBk hEk hX hY hZ hn1 hn2 hl1 hl2 hQ1 hQ2
                go_wp2
                refine wp_region_dutiesS (by kernel_rfl) (by kernel_rfl)
                  [some (.pointer (some ⟨b, 0, none⟩)), some (.agg #[.slice x.1 x.2.1 x.2.2]), some (.pointer (some ⟨b, 0, none⟩)), some (.slice (some ⟨bb1, off1, none⟩) k c1), some (.int .i64 n), some (.pointer (some ⟨bb1, off1 + n, none⟩)), some (.agg #[.slice qb mb db]), some (.slice (some ⟨bb2, off2, none⟩) k c2), some (.int .i64 n), some (.pointer (some ⟨bb2, off2 + n, none⟩)), some (.agg #[.slice qe me de]), none, none, none]
                  [false, false, false, false, false, false, false, false, false, false, false, true, true, true] rfl
                  (fun w1 w2 => Keep w9.heap.size w1 w2)
                  (fun D _ w' => (Below w9.heap.size w9 w' ∧ NatAt w' x.1 x.2.1 x.2.2 X ∧ NatAt w' qb mb db BB ∧ NatAt w' qe me de EE) ∧ (D 13 = false → NatBox w' w9.heap.size (.slice x.1 x.2.1 x.2.2)) ∧ (D 13 = true → BoxVal w' w9.heap.size Z))
                  (fun i v w' => match i with
                    | 11 => Fit 33 Y v w'
                    | 12 => Fit 33 Z v w'
                    | _ => True)
                  ?_ ?_ ?_ ?_
                · intro i v w1 w2 hf hb
                  split at hf
                  · exact Fit.keep hf hb
                  · exact Fit.keep hf hb
                  · trivial
                · obtain ⟨_, _, _, e1, e2, _⟩ := HF1.out
                  obtain ⟨_, _, _, e3, e4, _⟩ := HF2.out
                  cases e1
                  cases e3
                  have hdr : Below wr.heap.size wr wr.drew := (Below.refl _ _).drew
                  exact ⟨⟨HBr.out.drew, hNr.below hdr, e2.below hdr, e4.below hdr⟩, fun _ => hXr, (fun a => by cases a)⟩
                · simp only [DutiesS, Nat.reduceAdd]
                  refine ⟨?_, ?_, ?_, ?_, ?_, ?_, ?_, ?_, ?_, ?_, ?_, ?_, ?_, ?_, trivial⟩
                  case refine_2 =>
                    intro D sp w' hD hW hdp hg
                    have h13 : D 13 = false := hW 13 (List.mem_of_elem_eq_true (by kernel_rfl))
                    have c0 := (hg.2.1 h13).cell
                    simp [asked, Region.wanted, Oper.gives, execOp, Act.eval, Act.put, go_sem, c0]
                  case refine_12 =>
                    intro D sp w' hD hW hdp hg
                    (with_reducible refine asked_call (w1 := w') (f := 21) (args := #[.pointer (some ⟨b, 0, none⟩), .agg #[.slice qb mb db], .agg #[.slice qe me de]]) ?_ ?_ ?_)
                    · simp only [Region.wanted]
                    · simp [Act.eval, Act.put, go_sem]
                    · refine (HD.out.exp (HD.out.below HA9.out hg.1.1) (Fit.of hg.1.2.2.1 HF1.out.lim) (Fit.of hg.1.2.2.2 HF2.out.lim) (by decide) (by decide)).mono ?_
                      rintro en wy ⟨u, rfl, hu, hby⟩
                      rw [HY.out] at hu
                      exact ⟨u, rfl, Keep.of hby hg.1.1.size, hu, ⟨bstep hg.1.1 hby, hg.1.2.1.below hby, hg.1.2.2.1.below hby, hg.1.2.2.2.below hby⟩, by simpa using fun a => (hg.2.1 a).below hby (hg.2.1 a).lt, by simpa using fun a => (hg.2.2 a).below hby⟩
                  case refine_13 =>
                    intro D sp w' hD hW hdp hg
                    have k11 : Fit 33 Y (sp 11) w' := (hdp 11 (List.mem_of_elem_eq_true (by kernel_rfl))).2
                    (with_reducible refine asked_call (w1 := w') (f := 20) (args := #[.pointer (some ⟨b, 0, none⟩), .agg #[.slice x.1 x.2.1 x.2.2], sp 11]) ?_ ?_ ?_)
                    · simp only [Region.wanted]
                    · simp [Act.eval, Act.put, go_sem]
                    · refine (HM.out.mul (HD.out.below HA9.out hg.1.1) (Fit.of hg.1.2.1 HXl2.out) k11 (by decide) (by decide)).mono ?_
                      rintro en wy ⟨u, rfl, hu, hby⟩
                      rw [HZ.out] at hu
                      exact ⟨u, rfl, Keep.of hby hg.1.1.size, hu, ⟨bstep hg.1.1 hby, hg.1.2.1.below hby, hg.1.2.2.1.below hby, hg.1.2.2.2.below hby⟩, by simpa using fun a => (hg.2.1 a).below hby (hg.2.1 a).lt, by simpa using fun a => (hg.2.2 a).below hby⟩
                  case refine_14 =>
                    intro D sp w' hD hW hdp hg
                    have hx : ∃ p n c, sp 12 = .agg #[.slice p n c] ∧ NatAt w' p n c Z ∧ Z < B32 33 := (hdp 12 (List.mem_of_elem_eq_true (by kernel_rfl))).2
                    (with_reducible refine Exists.elim hx fun p hx1 => ?_)
                    (with_reducible refine Exists.elim hx1 fun n hx2 => ?_)
                    (with_reducible refine Exists.elim hx2 fun c hx3 => ?_)
                    have g1 := hx3.1
                    have hbx0 := hg.2.1 hD
                    have g2 := hbx0.cell
                    have g3 := hbx0.free
                    (with_reducible refine asked_skip (w1 := w'.setCell ⟨w9.heap.size, 0, none⟩ (.slice p n c)) ?_ ?_ ?_)
                    · simp only [Region.wanted]
                    · simp [execOp, Act.eval, Act.put, go_sem, g1, g2, g3]
                    · exact ⟨Keep.store hbx0 (Nat.le_refl _) _, trivial, ⟨hg.1.1.setCell (Nat.le_refl _) _, hg.1.2.1.store hbx0 _, hg.1.2.2.1.store hbx0 _, hg.1.2.2.2.store hbx0 _⟩, (fun a => by simp at a), fun _ => ⟨p, n, c, hbx0.set _, hx3.2.1.store hbx0 _⟩⟩
                  all_goals
                    intro D sp w' hD hW hdp hg
                    have c1 : w'.cell? ⟨bb1, off1 + n, none⟩ = some (.slice qb mb db) := by
                      rw [hg.1.1.cell (p := ⟨bb1, off1 + n, none⟩) hlow1, ← HBr.out.cell (p := ⟨bb1, off1 + n, none⟩) hlow1]; exact hx1
                    have c2 : w'.cell? ⟨bb2, off2 + n, none⟩ = some (.slice qe me de) := by
                      rw [hg.1.1.cell (p := ⟨bb2, off2 + n, none⟩) hlow2, ← HBr.out.cell (p := ⟨bb2, off2 + n, none⟩) hlow2]; exact hx2
                    simp [asked, Region.wanted, Oper.gives, execOp, Act.eval, Act.put, go_sem, c1, c2, hnk']
                · intro sp wz hsp hg
                  obtain ⟨pz, nz, cz, xz, vz⟩ := hg.2.2 rfl
                  have HBz : Hold _ := ⟨hg.1.1⟩
                  have HXz : Hold _ := ⟨xz⟩
                  have HVz : Hold _ := ⟨vz⟩
                  clear hsp hg xz vz hx1 hx2
                  simp only [frameOf, Nat.reduceAdd]
                  generalize sp 11 = y11 at *
                  generalize sp 12 = y12 at *
                  generalize sp 13 = y13 at *
                  go_simp
                  go_wp2
                  go_roundw
                  case rel => exact ⟨n + 1, (pz, nz, cz), by omega, by go_num, HBz, HXz, ⟨by rw [HTk.out]; exact HVz.out⟩⟩
                  case measure => simp [intOf]; omega
              · obtain rfl : n = k := by omega
                have hnk' : ¬ (n : Int) < n := by omega
                have htk : (Bs.zip Es).take n = Bs.zip Es := List.take_of_length_le (by rw [List.length_zip, HBn.out, HEn.out]; omega)
                rw [htk] at HNr
                have c14 := (HX149.out.below HBr.out HX149.out.lt).cell
                have c16 := HXr.out.cell
                clear htk
                go_wp2_with fail
                refine (cmp_fitK (Fit.of (HX9.out.below HBr.out) HXl.out) (Fit.of HNr.out HXl.out) (by decide) (by decide) (cmpI_zero.2 rfl)).mono ?_
                rintro en wz ⟨_, rfl, rfl, bz⟩
                have HBz : Hold _ := ⟨bstep (bstep HB9.out HBr.out) bz⟩
                clear bz c14 c16
                go_wp2
                go_ret
                exact ⟨rfl, HBz.out⟩
          · have hne : ((k : Int) == (j : Nat)) = false := by rw [beq_eq_false_iff_ne]; omega
            rw [if_neg hkj] at HX8 HXl ⊢
            clear hkj
            go_wp2_with fail
            refine (zero_fitB (Fit.of HX8.out HXl.out) (decide_eq_true rfl)).mono ?_
            rintro en wz ⟨_, rfl, rfl, bz⟩
            have HBz : Hold _ := ⟨bstep HB8.out bz⟩
            clear bz c14
            go_wp2
            go_ret
            exact ⟨rfl, HBz.out⟩
end

end Go.Proofs.YtcbhgfiafamflaaGreatDoor
