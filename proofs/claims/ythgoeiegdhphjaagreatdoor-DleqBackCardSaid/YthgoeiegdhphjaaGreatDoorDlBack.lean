/- DleqBack, walked: what is proved verifies, each time the same; a byte more or fewer isn't a proof. -/
import Derived.Test.YthgoeiegdhphjaaGreatDoorDlE
import Derived.IntWalk
set_option maxRecDepth 1000000
set_option maxHeartbeats 16000000
set_option linter.unusedSimpArgs false
set_option linter.unusedVariables false
namespace Go.Proofs.YthgoeiegdhphjaaGreatDoor
open Go Go.RowKit Go.Proofs.YthgoeiegdhphjaaGreatDoor.Flow
theorem slice_hi8 {p : Option Addr} {n c W : Nat} (hW : W <= n) (hc : n <= c) (w : World) :
  (Instr.sliceAt 60 (.slice p n c) none (some (.int .i64 (W : Int))) none).run Tryz.prog w = .ok (.slice p W c) w := by
 have hel : Tryz.prog.elem 60 = 5 := by kernel_rfl
 have hu : Tryz.prog.underlying 60 = some (.slice (Tryz.prog.elem 60)) := by rw [hel]; exact Tryz.underlying60
 rw [run_sliceAt_slice w 60 _ _ _ _ hu, run_slice_h w 60 _ _ _ hu .i64 _ (by omega) (by omega)]
 have hs : (sizeOf (Tryz.prog.elem 60)).run Tryz.prog w = .ok 1 w := by rw [hel]; simp [go_sem]
 rw [hs]
 simp only [Result.andThen_ok, sliced]
 have e : p.map (·.add (0 * 1)) = p := by
  cases p with
  | none => rfl
  | some a => obtain ⟨b, off, sp⟩ := a; simp [Addr.add]
 rw [e]
 simp
theorem notok12 {P Q A B Y Z : Nat} {msg sig : List Nat} {X : Bool} (h : X = true ↔ dlOk P Q A B Y Z msg sig) (hn : ¬ dlOk P Q A B Y Z msg sig) : X = false := by
 cases X with
 | false => rfl
 | true => exact absurd (h.1 rfl) hn
def TupP (A B Y Z : Nat) (SB : List Nat) (v : Value) (w : World) : Prop := ∃ c u, v = .tuple #[c, u, .int .i64 0] /\ ClV A B Y Z c w /\ OwnIs 0 SB u w
theorem TupP.kt {T : TypeId} {A B Y Z C : Nat} {SB : List Nat} {v : Value} {w w' : World} (h : TupP A B Y Z SB v w) (k : KT T C w w') : TupP A B Y Z SB v w' := let ⟨c, u, h1, h2, h3⟩ := h; ⟨c, u, h1, h2.kt k, h3.kt k⟩
theorem run_appE {w : World} {B : Nat} {v : Value} {xs : List Nat} (h : Own w B v xs) {p : Option Addr} {m c : Nat} {bs : List Nat} (hr : RowIn w .u8 p m c bs) (hn : p = none -> c = 0) (hmax : xs.length + m <= 140737488355328) (hB : B <= w.heap.size) (ty : TypeId) {C : Prop}
  (k : ∀ v' w', (Builtin.append_ #[60, 60] ty #[v, .slice p m c]).run Tryz.prog w = .ok v' w' -> Own w' B v' (xs ++ bs) -> w.grownBy w' v.ownBlock -> C) : C := by
 obtain ⟨v', w', h1, h2, h3⟩ := run_app h hr hn hmax hB ty
 exact k v' w' h1 h2 h3
structure BkG (W : World) (SB : List Nat) (y : Nat) (d24 d26 d28 d29 : Bool) (v24 v26 v28 v29 : Value) (w : World) : Prop where
 bel : Below W.heap.size W w
 p24 : d24 = true -> d26 = false -> ∃ g, v24 = .slice (some ⟨g, 0, none⟩) 0 0 /\ W.heap.size <= g /\ w.heap[g]? = some (.cells #[] 5 (0, 0))
 p26 : d26 = true -> d29 = false -> Own w W.heap.size v26 SB
 p28 : d28 = true -> d29 = false -> ∃ g, v28 = .slice (some ⟨g, 0, none⟩) 1 1 /\ RowIn w .u8 (some ⟨g, 0, none⟩) 1 1 [y]
 p29 : d29 = true -> OwnIs W.heap.size (SB ++ [y]) v29 w
section
variable {W : World} {SB : List Nat} {y : Nat} {d24 d26 d28 d29 : Bool} {v24 v26 v28 v29 : Value} {w : World}
theorem BkG.start : BkG W SB y false false false false v24 v26 v28 v29 W.drew :=
 ⟨(Below.refl _ _).drew, (fun e => by cases e), (fun e => by cases e), (fun e => by cases e), fun e => by cases e⟩
theorem BkG.later {w' : World} (h : BkG W SB y d24 d26 d28 d29 v24 v26 v28 v29 w) (hb : Below w.heap.size w w') : BkG W SB y d24 d26 d28 d29 v24 v26 v28 v29 w' :=
 ⟨bstep h.bel hb, fun e f => let ⟨g, h1, h2, h3⟩ := h.p24 e f; ⟨g, h1, h2, by rw [hb.block g (Array.getElem?_eq_some_iff.1 h3).1]; exact h3⟩, fun e f => (h.p26 e f).belowS hb, fun e f => let ⟨g, h1, h2⟩ := h.p28 e f; ⟨g, h1, h2.below hb⟩, fun e => (h.p29 e).below hb⟩
theorem BkG.put24 (h : BkG W SB y false d26 d28 d29 v24 v26 v28 v29 w) : BkG W SB y true d26 d28 d29 (.slice (some ⟨w.heap.size, 0, none⟩) 0 0) v26 v28 v29 (w.alloc (.cells #[] 5)) := by
 have hk := h.later (w' := w.alloc (.cells #[] 5)) ((Below.refl _ _).alloc (Nat.le_refl _) _)
 exact ⟨hk.bel, fun _ _ => ⟨w.heap.size, rfl, h.bel.size, heap_alloc_new w _⟩, hk.p26, hk.p28, hk.p29⟩
theorem BkG.put26 (h : BkG W SB y d24 false d28 d29 v24 v26 v28 v29 w) {v : Value} (ho : Own w W.heap.size v SB) : BkG W SB y d24 true d28 d29 v24 v v28 v29 w :=
 ⟨h.bel, (fun _ f => by cases f), fun _ _ => ho, h.p28, h.p29⟩
theorem BkG.put28 (h : BkG W SB y d24 d26 false d29 v24 v26 v28 v29 w) : BkG W SB y d24 d26 true d29 v24 v26 (.slice (some ⟨w.heap.size, 0, none⟩) 1 1) v29 (w.alloc (.cells #[.int .u8 (y : Nat)] 5)) := by
 have hk := h.later (w' := w.alloc (.cells #[.int .u8 (y : Nat)] 5)) ((Below.refl _ _).alloc (Nat.le_refl _) _)
 exact ⟨hk.bel, hk.p24, hk.p26, fun _ _ => ⟨w.heap.size, rfl, lit_row w [y] (by simp)⟩, hk.p29⟩
theorem BkG.put29 (h : BkG W SB y d24 true true false v24 v26 v28 v29 w) {v : Value} {w' : World} (ho : Own w' W.heap.size v (SB ++ [y])) (hg : w.grownBy w' v26.ownBlock) : BkG W SB y d24 true true true v24 v26 v28 v w' :=
 ⟨h.bel.trans (grown_below hg h.bel.size (h.p26 rfl rfl).ge), (fun _ f => by cases f), (fun _ f => by cases f), (fun _ f => by cases f), fun _ => OwnIs.mk ho⟩
end
theorem dlback_calls (w : World) (hr : Tabs w) (A0 : Int) (a : Nat) (ha : U64 a) (d : Nat) (hd : U64 d) (X : Nat) (hX : U64 X) (pm : Option Addr) (nm cm : Nat) (msg : List Nat) (hm : PartOk w ⟨pm, nm, cm, msg⟩) (hzm : pm = none -> cm = 0) (y : Nat) (hy8 : y < 256) :
  Calls Tryz.prog 12 #[.int .i64 A0, .int .u64 (a : Nat), .int .u64 (d : Nat), .int .u64 (X : Nat), .slice pm nm cm, .int .u8 (y : Nat)] w fun e w' => e = .returned (.bool true) /\ Below w.heap.size w w' := by
 have HLI := hol lives12_calls
 have HT0 := hol hr
 have HM0 := hol hm
 have HZM := hol hzm
 have HAl : Hold (a < 18446744073709551616) := ⟨ha⟩
 have HDl : Hold (d < 18446744073709551616) := ⟨hd⟩
 have HXl : Hold (X < 18446744073709551616) := ⟨hX⟩
 have HYb8 := hol hy8
 have hcap : nm <= cm := hm.row.cap
 have hmax : cm <= 9223372036854775807 := hm.row.max
 obtain ⟨i, hi⟩ : ∃ i, ((IntKind.u64.wrap A0) % 3).toNat = i := ⟨_, rfl⟩
 have HI3 : Hold (i < 3) := ⟨by rw [<- hi]; exact idx_lt A0⟩
 have HI := hol hi
 clear hr hX hi hm ha hd hzm
 go_enter Tryz.func12, Tryz.ntmps12
 go_wp2_with fail
 refine (HLI.out w HT0.out).mono ?_
 rintro en w1 ⟨rfl, b1⟩
 have B1 := hol b1
 clear b1
 by_cases hn3 : 300 < nm
 ·have hn3' : (300 : Int) < nm := by omega
  go_wp2_with fail
  refine (HLI.out w1 (HT0.out.below B1.out HT0.out.size)).mono ?_
  rintro en w2 ⟨rfl, b2⟩
  have B2 := hol (bstep B1.out b2)
  clear b2
  go_wp2
  go_ret
  exact ⟨rfl, B2.out⟩
 have hn3' : ¬ (300 : Int) < nm := by omega
 have HNM : Hold (nm <= 1000) := ⟨by omega⟩
 go_wp2_with fail
 refine (group10_calls w1 A0 (HT0.out.below B1.out HT0.out.size)).mono ?_
 rintro en w2 ⟨b, rfl, hg2, b2⟩
 rw [HI.out] at hg2
 obtain ⟨P, hP⟩ : ∃ P, gP i = P := ⟨_, rfl⟩
 obtain ⟨Q, hQ⟩ : ∃ P, gQ i = P := ⟨_, rfl⟩
 obtain ⟨G, hG⟩ : ∃ P, gG i = P := ⟨_, rfl⟩
 obtain ⟨H, hH⟩ : ∃ P, gH i = P := ⟨_, rfl⟩
 have HP2 : Hold (2 <= P /\ 2 <= Q /\ G ^ Q % P = 1) := ⟨by rw [<- hP, <- hQ, <- hG]; exact ⟨gP_pos i HI3.out, gQ_pos i HI3.out, gG_member i HI3.out⟩⟩
 have HPf : Hold (bsize P <= 16) := ⟨by rw [<- hP]; exact gP_few i HI3.out⟩
 have HQf : Hold (bsize Q <= 16) := ⟨by rw [<- hQ]; exact gQ_few i HI3.out⟩
 rw [hP, hQ, hG, hH] at hg2
 have hlims := hg2.lims
 have HG2 := hol hg2
 have B2 := hol (bstep B1.out b2)
 clear hg2 b2 hP hQ hG hH B1
 go_wp2_with fail
 refine (gfield_fit HG2.out).mono ?_
 rintro en w3 ⟨r, rfl, hr3, b3⟩
 have HR3 := hol hr3
 have B3 := hol (bstep B2.out b3)
 have BG3 : Hold (Below w2.heap.size w2 w3) := ⟨b3⟩
 clear hr3 b3 B2
 go_wp2_with fail
 refine (newnat_fit (n := X) w3 HXl.out).mono ?_
 rintro en w4 ⟨x4, rfl, h4, b4⟩
 have H4 := hol h4
 have HR4 := hol (HR3.out.below b4)
 have BG4 := hol (bstep BG3.out b4)
 have B4 := hol (bstep B3.out b4)
 clear h4 b4 HR3 BG3 B3
 obtain ⟨K0, hK0⟩ : ∃ A, X % Q = A := ⟨_, rfl⟩
 have HEK := hol hK0
 have HKl : Hold (K0 < Q) := ⟨by rw [<- hK0]; exact Nat.mod_lt _ (by have := HP2.out; omega)⟩
 clear hK0
 go_wp2_with fail
 refine (rof_fit HR4.out H4.out (by decide)).mono ?_
 rintro en w5 ⟨_, rfl, ⟨pk, nk, ck, rfl, h5, l5⟩, b5⟩
 rw [HEK.out] at h5 l5
 have hb6 : Below w5.heap.size w5 (w5.alloc (.cells #[.slice pk nk ck] 36)) := bal
 have hX6 := NatBox.made w5 (.slice pk nk ck)
 obtain ⟨w8, hw6⟩ : ∃ W, w5.alloc (.cells #[.slice pk nk ck] 36) = W := ⟨_, rfl⟩
 rw [hw6] at hb6 hX6
 have b56 := bstep b5 hb6
 have HXK := hol hX6
 have HFK := hol ((Fit.of h5 l5).below hb6)
 have HG := hol (HG2.out.below (bstep BG4.out b56))
 have hbb := bstep B4.out b56
 have HB := hol hbb
 have HT := hol (HT0.out.below hbb HT0.out.size)
 have HM := hol (HM0.out.below hbb)
 obtain ⟨AA, hAA⟩ : ∃ S, G ^ a % P = S := ⟨_, rfl⟩
 obtain ⟨BB, hBB⟩ : ∃ S, G ^ d % P = S := ⟨_, rfl⟩
 obtain ⟨YY, hYY⟩ : ∃ S, AA ^ K0 % P = S := ⟨_, rfl⟩
 obtain ⟨ZZ, hZZ⟩ : ∃ S, BB ^ K0 % P = S := ⟨_, rfl⟩
 obtain ⟨SB, hSB⟩ : ∃ S, dlB P Q AA BB K0 msg = S := ⟨_, rfl⟩
 obtain ⟨L, hL⟩ : ∃ L, SB.length = L := ⟨_, rfl⟩
 have HAE := hol hAA
 have HBE := hol hBB
 have HYE := hol hYY
 have HZE := hol hZZ
 have HSE := hol hSB
 have HMA : Hold (sigMem P Q AA) := ⟨by rw [<- hAA]; exact key_mem HP2.out.1 (by have := HP2.out; omega) HP2.out.2.2 a⟩
 have HMB : Hold (sigMem P Q BB) := ⟨by rw [<- hBB]; exact key_mem HP2.out.1 (by have := HP2.out; omega) HP2.out.2.2 d⟩
 have HOK : Hold (dlOk P Q AA BB YY ZZ msg SB) := ⟨by rw [<- hSB, <- hYY, <- hZZ]; exact dl_back HP2.out.1 (by have := HP2.out; omega) HMA.out HMB.out⟩
 have HAb : Hold (AA < B32 33) := ⟨Nat.lt_trans HMA.out.2.1 hlims.2.1⟩
 have HBb : Hold (BB < B32 33) := ⟨Nat.lt_trans HMB.out.2.1 hlims.2.1⟩
 have HYb : Hold (YY < B32 33) := ⟨by rw [<- hYY]; exact Nat.lt_trans (Nat.mod_lt _ (by omega)) hlims.2.1⟩
 have HZb : Hold (ZZ < B32 33) := ⟨by rw [<- hZZ]; exact Nat.lt_trans (Nat.mod_lt _ (by omega)) hlims.2.1⟩
 have HS8b : Hold (Bytes8 SB) := ⟨by rw [<- hSB]; exact dlB_bytes _ _ _ _ _ _⟩
 have HL2Q : Hold (2 * bsize Q = L) := ⟨by rw [<- hL, <- hSB, dlB_length]⟩
 have HLE := hol hL
 have hLb : L <= 32 := by have h1 := HL2Q.out; have h2 := HQf.out; omega
 have hLp : 1 <= L := by
  have h1 := HL2Q.out
  have h2 : ¬ bsize Q = 0 := fun h => by
   have h3 := bsize_lt Q
   rw [h] at h3
   have h4 := HP2.out.2.1
   have h5 : Q < 1 := h3
   omega
  omega
 clear h5 l5 b5 hb6 hX6 b56 hbb HR4 BG4 B4 H4 hAA hBB hYY hZZ hSB hL hlims HXl HI HI3
 go_wp2
 clear hw6
 refine wp_region_dutiesS (by kernel_rfl) (by kernel_rfl)
  [some (.pointer (some ⟨b, 0, none⟩)), some (.pointer (some ⟨b, 0, none⟩)), some (.int .u64 (a : Nat)), none, some (.pointer (some ⟨b, 0, none⟩)), some (.int .u64 (d : Nat)), none, some (.agg #[.slice pk nk ck]), some (.slice pm nm cm), none, none, none, none, some (.int .i64 0), none, none, none, some (.int .i64 0)]
  [false, false, false, true, false, false, true, false, false, true, true, true, true, false, true, true, true, false] rfl
  (fun wA wB => KT 83 (w8.heap.size) wA wB)
  (fun D sp w' => RG (w8.heap.size) w8 [] w' /\ MkO (D 14) (D 15) (sp 14) w8.heap.size (z4 83) (ClF 83 AA BB YY ZZ) w')
  (fun i v w' => match i with
   | 3 => Fit 33 (AA) v w'
   | 6 => Fit 33 (BB) v w'
   | 9 => TupP AA BB YY ZZ SB v w'
   | 10 => TupP AA BB YY ZZ SB v w'
   | 11 => ClV AA BB YY ZZ v w'
   | 12 => OwnIs 0 SB v w'
   | 16 => OwnIs 0 SB v w'
   | _ => True)
  ?_ ⟨RG.start (Nat.le_refl _) (fun x hx => by cases hx), MkO.start (Nat.le_refl _)⟩ ?_ ?_
 ·intro i v wA wB hf hb
  split at hf
  ·exact hf.kt hb
  ·exact hf.kt hb
  ·exact hf.kt hb
  ·exact hf.kt hb
  ·exact hf.kt hb
  ·exact hf.kt hb
  ·exact hf.kt hb
  ·trivial
 ·simp only [DutiesS, Nat.reduceAdd]
  refine ⟨?_, ?_, ?_, ?_, ?_, ?_, ?_, ?_, ?_, ?_, ?_, ?_, ?_, ?_, ?_, ?_, ?_, ?_, trivial⟩
  all_goals intro D sp w' hD hW hdp hg
  case refine_4 =>
   (with_reducible refine asked_call (w1 := w') (f := 54) (args := #[.pointer (some ⟨b, 0, none⟩), .int .u64 (a : Nat), .bool false]) ?_ ?_ ?_)
   ·simp [Region.wanted, yielded, Act.put, go_sem]
   ·simp [Act.eval, Act.put, go_sem]
   ·refine (memb12_fit (HG.out.below hg.1.keep.bel) HAl.out).mono ?_
    rintro en w9 ⟨u, rfl, hu, hb⟩
    rw [HAE.out] at hu
    exact ⟨u, rfl, KT.of hb hg.1.base, hu, hg.1.later hb, by simpa [upd] using hg.2.later hb (fun o h => h.below hb)⟩
  case refine_7 =>
   (with_reducible refine asked_call (w1 := w') (f := 54) (args := #[.pointer (some ⟨b, 0, none⟩), .int .u64 (d : Nat), .bool false]) ?_ ?_ ?_)
   ·simp [Region.wanted, yielded, Act.put, go_sem]
   ·simp [Act.eval, Act.put, go_sem]
   ·refine (memb12_fit (HG.out.below hg.1.keep.bel) HDl.out).mono ?_
    rintro en w9 ⟨u, rfl, hu, hb⟩
    rw [HBE.out] at hu
    exact ⟨u, rfl, KT.of hb hg.1.base, hu, hg.1.later hb, by simpa [upd] using hg.2.later hb (fun o h => h.below hb)⟩
  case refine_8 =>
   have c0 := (HXK.out.below hg.1.keep.bel HXK.out.lt).cell
   with_reducible refine asked_pl ?_ ?_
   all_goals simp [Region.wanted, yielded, execOp, Act.eval, Act.put, go_sem, c0]
  case refine_10 =>
   have k3 : Fit 33 (AA) (sp 3) w' := (hdp 3 (mq (by kernel_rfl))).2
   have k6 : Fit 33 (BB) (sp 6) w' := (hdp 6 (mq (by kernel_rfl))).2
   (with_reducible refine asked_call (w1 := w') (f := 55) (args := #[.pointer (some ⟨b, 0, none⟩), sp 3, sp 6, .agg #[.slice pk nk ck], .slice pm nm cm]) ?_ ?_ ?_)
   ·simp [Region.wanted, yielded, Act.put, go_sem]
   ·simp [Act.eval, Act.put, go_sem]
   ·refine (prove_ok (HG.out.below hg.1.keep.bel) (HT.out.below hg.1.keep.bel HT.out.size) k3 k6 (HFK.out.below hg.1.keep.bel) (by decide) HKl.out HMA.out HMB.out HPf.out HQf.out (HM.out.below hg.1.keep.bel) HZM.out HNM.out).mono ?_
    rintro en w9 ⟨c9, u9, rfl, hc, ho, hb⟩
    rw [HYE.out, HZE.out] at hc
    rw [HSE.out] at ho
    exact ⟨_, rfl, KT.of hb hg.1.base, ⟨c9, u9, rfl, hc, ho⟩, hg.1.later hb, by simpa [upd] using hg.2.later hb (fun o h => h.below hb)⟩
  case refine_11 =>
   have k9 : TupP AA BB YY ZZ SB (sp 9) w' := (hdp 9 (mq (by kernel_rfl))).2
   (with_reducible refine asked_value (w1 := w') (v := sp 9) ?_ ?_ ?_)
   ·simp [Region.wanted, yielded, Act.put, go_sem]
   ·simp [execOp, Act.eval, Act.put, go_sem]
   ·exact ⟨KT.same _ _ _, k9, hg.1, by simpa [upd] using hg.2⟩
  case refine_12 =>
   have hx : ∃ c u, sp 10 = .tuple #[c, u, .int .i64 0] /\ ClV AA BB YY ZZ c w' /\ OwnIs 0 SB u w' := (hdp 10 (mq (by kernel_rfl))).2
   (with_reducible refine Exists.elim hx fun c hx1 => Exists.elim hx1 fun u hx2 => ?_)
   have h1 := hx2.1
   (with_reducible refine asked_value (w1 := w') (v := c) ?_ ?_ ?_)
   ·simp only [Region.wanted]
   ·simp [execOp, Act.eval, Act.put, go_sem, h1]
   ·exact ⟨KT.same _ _ _, hx2.2.1, hg.1, by simpa [upd] using hg.2⟩
  case refine_13 =>
   have hx : ∃ c u, sp 10 = .tuple #[c, u, .int .i64 0] /\ ClV AA BB YY ZZ c w' /\ OwnIs 0 SB u w' := (hdp 10 (mq (by kernel_rfl))).2
   (with_reducible refine Exists.elim hx fun c hx1 => Exists.elim hx1 fun u hx2 => ?_)
   have h1 := hx2.1
   (with_reducible refine asked_value (w1 := w') (v := u) ?_ ?_ ?_)
   ·simp only [Region.wanted]
   ·simp [execOp, Act.eval, Act.put, go_sem, h1]
   ·exact ⟨KT.same _ _ _, hx2.2.2, hg.1, by simpa [upd] using hg.2⟩
  case refine_14 =>
   have hx : ∃ c u, sp 10 = .tuple #[c, u, .int .i64 0] /\ ClV AA BB YY ZZ c w' /\ OwnIs 0 SB u w' := (hdp 10 (mq (by kernel_rfl))).2
   (with_reducible refine Exists.elim hx fun c hx1 => Exists.elim hx1 fun u hx2 => ?_)
   have h1 := hx2.1
   with_reducible refine asked_pl ?_ ?_
   all_goals simp [Region.wanted, yielded, execOp, Act.eval, Act.put, go_sem, h1]
  case refine_15 =>
   have h9 : D 15 = false := hW 15 (mq (by kernel_rfl))
   rw [hD, h9] at hg
   (with_reducible refine asked_value (w1 := w'.alloc (.cells #[.slice none 0 0, .slice none 0 0, .slice none 0 0, .slice none 0 0] 83)) (v := .pointer (some ⟨w'.heap.size, 0, none⟩)) ?_ ?_ ?_)
   ·simp only [Region.wanted]
   ·simp [execOp, go_sem]
   ·have hb : Below w'.heap.size w' (w'.alloc (.cells #[.slice none 0 0, .slice none 0 0, .slice none 0 0, .slice none 0 0] 83)) := bal
    refine ⟨KT.of hb hg.1.base, trivial, hg.1.later hb, ?_⟩
    have h8 : MkO true false _ _ (z4 83) _ _ := MkO.made hg.2
    simpa [upd, h9] using h8
  case refine_16 =>
   have hx : ∃ xa xb xy xz : Option Addr × Nat × Nat, sp 11 = .agg #[.slice xa.1 xa.2.1 xa.2.2, .slice xb.1 xb.2.1 xb.2.2, .slice xy.1 xy.2.1 xy.2.2, .slice xz.1 xz.2.1 xz.2.2] /\ AtC AA BB YY ZZ xa xb xy xz w' := (hdp 11 (mq (by kernel_rfl))).2
   (with_reducible refine Exists.elim hx fun xa hx1 => Exists.elim hx1 fun xb hx2 => Exists.elim hx2 fun xy hx3 => Exists.elim hx3 fun xz hx4 => ?_)
   have h1 := hx4.1
   have h9 : D 14 = true := (hdp 14 (mq (by kernel_rfl))).1
   rw [hD, h9] at hg
   have hm := hg.2.2 rfl
   (with_reducible refine Exists.elim hm fun bq hm1 => ?_)
   have h3 := hm1.1
   have h6 : w'.heap[bq]? = some (.cells #[.slice none 0 0, .slice none 0 0, .slice none 0 0, .slice none 0 0] 83 (0, 0)) := hm1.2.2.1 rfl
   have hp := put4 (u0 := .slice xa.1 xa.2.1 xa.2.2) (u1 := .slice xb.1 xb.2.1 xb.2.2) (u2 := .slice xy.1 xy.2.1 xy.2.2) (u3 := .slice xz.1 xz.2.1 xz.2.2) h6
   have hs := slices4 (none, 0, 0) (none, 0, 0) (none, 0, 0) (none, 0, 0)
   have hkt := hp.kt h6 hs hm1.2.1
   have g0 := cells4 h6
   (with_reducible refine asked_skip (w1 := set4 w' bq (.slice xa.1 xa.2.1 xa.2.2) (.slice xb.1 xb.2.1 xb.2.2) (.slice xy.1 xy.2.1 xy.2.2) (.slice xz.1 xz.2.1 xz.2.2)) ?_ ?_ ?_)
   ·simp only [Region.wanted]
   ·simp [execOp, Act.eval, Act.put, go_sem, h1, h3, g0.1.1, g0.1.2.1, g0.1.2.2.1, g0.1.2.2.2, g0.2.1, g0.2.2.1, g0.2.2.2.1, g0.2.2.2.2, set4]
   ·refine ⟨hkt, trivial, hg.1.putO hp h6 hs hm1.2.1 (fun x hx => by cases hx), ?_⟩
    have h8 : MkO true true (sp 14) _ (z4 83) (ClF 83 AA BB YY ZZ) _ := ⟨by rw [hp.size]; exact hg.2.1, fun _ => ⟨bq, h3, hm1.2.1, StO.done hp.new ⟨xa, xb, xy, xz, rfl, hx4.2.kt hkt⟩⟩⟩
    simpa [upd, h9] using h8
  case refine_17 =>
   have k12 : OwnIs 0 SB (sp 12) w' := (hdp 12 (mq (by kernel_rfl))).2
   (with_reducible refine asked_value (w1 := w') (v := sp 12) ?_ ?_ ?_)
   ·simp [Region.wanted, yielded, Act.put, go_sem]
   ·simp [execOp, Act.eval, Act.put, go_sem]
   ·exact ⟨KT.same _ _ _, k12, hg.1, by simpa [upd] using hg.2⟩
  all_goals ((with_reducible refine asked_pl ?_ ?_); all_goals first | (simp only [Region.wanted]; done) | simp [Region.wanted, yielded, execOp, Act.eval, Act.put, go_sem])
 ·intro sp w9 hsp hk
  obtain ⟨hk1, _, hk2⟩ := hk
  obtain ⟨b15, e15, hb15, hst⟩ := hk2 rfl
  obtain ⟨_, hbox, xa, xb, xy, xz, rfl, hat⟩ := hst.2 rfl
  obtain ⟨pb, cb, eb, hpb, hzb⟩ := (show OwnIs 0 SB (sp 16) w9 from hsp 16 rfl).part HS8b.out
  rw [HLE.out] at eb hpb
  have hb := hk1.keep.bel
  have HCB9 := hol hbox
  have HCA9 := hol hat
  have HPB9 := hol hpb
  have HZB := hol hzb
  have HXK_ := HXK.out.below hb HXK.out.lt
  have HFK_ := HFK.out.below hb
  have HG_ := HG.out.below hb
  have HT_ := HT.out.below hb HT.out.size
  have HM_ := HM.out.below hb
  have HB_ := bstep HB.out hb
  clear HXK HFK HG HT HM HB
  have HXK := hol HXK_
  have HFK := hol HFK_
  have HG := hol HG_
  have HT := hol HT_
  have HM := hol HM_
  have HB := hol HB_
  clear HXK_ HFK_ HG_ HT_ HM_ HB_
  clear hsp hk1 hk2 hst hbox hat hpb hzb hb hb15
  simp only [frameOf, Nat.reduceAdd]
  rw [e15, eb]
  clear e15 eb
  generalize sp 3 = y3, sp 6 = y6, sp 9 = y9, sp 10 = y10, sp 11 = y11, sp 12 = y12, sp 15 = y15 at *
  go_simp
  go_wp2
  refine wp_region_dutiesS (by kernel_rfl) (by kernel_rfl)
   [some (.pointer (some ⟨b, 0, none⟩)), some (.pointer (some ⟨b, 0, none⟩)), some (.int .u64 (a : Nat)), none, some (.pointer (some ⟨b, 0, none⟩)), some (.int .u64 (d : Nat)), none, some (.agg #[.slice pk nk ck]), some (.slice pm nm cm), none, none, none, none, some (.int .i64 0), none, none, none, some (.int .i64 0)]
   [false, false, false, true, false, false, true, false, false, true, true, true, true, false, true, true, true, false] rfl
   (fun wA wB => KT 83 (w9.heap.size) wA wB)
   (fun D sp w' => RG (w9.heap.size) w9 [] w' /\ MkO (D 14) (D 15) (sp 14) w9.heap.size (z4 83) (ClF 83 AA BB YY ZZ) w')
   (fun i v w' => match i with
    | 3 => Fit 33 (AA) v w'
    | 6 => Fit 33 (BB) v w'
    | 9 => TupP AA BB YY ZZ SB v w'
    | 10 => TupP AA BB YY ZZ SB v w'
    | 11 => ClV AA BB YY ZZ v w'
    | 12 => OwnIs 0 SB v w'
    | 16 => OwnIs 0 SB v w'
    | _ => True)
   ?_ ⟨RG.start (Nat.le_refl _) (fun x hx => by cases hx), MkO.start (Nat.le_refl _)⟩ ?_ ?_
  ·intro i v wA wB hf hb
   split at hf
   ·exact hf.kt hb
   ·exact hf.kt hb
   ·exact hf.kt hb
   ·exact hf.kt hb
   ·exact hf.kt hb
   ·exact hf.kt hb
   ·exact hf.kt hb
   ·trivial
  ·simp only [DutiesS, Nat.reduceAdd]
   refine ⟨?_, ?_, ?_, ?_, ?_, ?_, ?_, ?_, ?_, ?_, ?_, ?_, ?_, ?_, ?_, ?_, ?_, ?_, trivial⟩
   all_goals intro D sp w' hD hW hdp hg
   case refine_4 =>
    (with_reducible refine asked_call (w1 := w') (f := 54) (args := #[.pointer (some ⟨b, 0, none⟩), .int .u64 (a : Nat), .bool false]) ?_ ?_ ?_)
    ·simp [Region.wanted, yielded, Act.put, go_sem]
    ·simp [Act.eval, Act.put, go_sem]
    ·refine (memb12_fit (HG.out.below hg.1.keep.bel) HAl.out).mono ?_
     rintro en w9 ⟨u, rfl, hu, hb⟩
     rw [HAE.out] at hu
     exact ⟨u, rfl, KT.of hb hg.1.base, hu, hg.1.later hb, by simpa [upd] using hg.2.later hb (fun o h => h.below hb)⟩
   case refine_7 =>
    (with_reducible refine asked_call (w1 := w') (f := 54) (args := #[.pointer (some ⟨b, 0, none⟩), .int .u64 (d : Nat), .bool false]) ?_ ?_ ?_)
    ·simp [Region.wanted, yielded, Act.put, go_sem]
    ·simp [Act.eval, Act.put, go_sem]
    ·refine (memb12_fit (HG.out.below hg.1.keep.bel) HDl.out).mono ?_
     rintro en w9 ⟨u, rfl, hu, hb⟩
     rw [HBE.out] at hu
     exact ⟨u, rfl, KT.of hb hg.1.base, hu, hg.1.later hb, by simpa [upd] using hg.2.later hb (fun o h => h.below hb)⟩
   case refine_8 =>
    have c0 := (HXK.out.below hg.1.keep.bel HXK.out.lt).cell
    with_reducible refine asked_pl ?_ ?_
    all_goals simp [Region.wanted, yielded, execOp, Act.eval, Act.put, go_sem, c0]
   case refine_10 =>
    have k3 : Fit 33 (AA) (sp 3) w' := (hdp 3 (mq (by kernel_rfl))).2
    have k6 : Fit 33 (BB) (sp 6) w' := (hdp 6 (mq (by kernel_rfl))).2
    (with_reducible refine asked_call (w1 := w') (f := 55) (args := #[.pointer (some ⟨b, 0, none⟩), sp 3, sp 6, .agg #[.slice pk nk ck], .slice pm nm cm]) ?_ ?_ ?_)
    ·simp [Region.wanted, yielded, Act.put, go_sem]
    ·simp [Act.eval, Act.put, go_sem]
    ·refine (prove_ok (HG.out.below hg.1.keep.bel) (HT.out.below hg.1.keep.bel HT.out.size) k3 k6 (HFK.out.below hg.1.keep.bel) (by decide) HKl.out HMA.out HMB.out HPf.out HQf.out (HM.out.below hg.1.keep.bel) HZM.out HNM.out).mono ?_
     rintro en w9 ⟨c9, u9, rfl, hc, ho, hb⟩
     rw [HYE.out, HZE.out] at hc
     rw [HSE.out] at ho
     exact ⟨_, rfl, KT.of hb hg.1.base, ⟨c9, u9, rfl, hc, ho⟩, hg.1.later hb, by simpa [upd] using hg.2.later hb (fun o h => h.below hb)⟩
   case refine_11 =>
    have k9 : TupP AA BB YY ZZ SB (sp 9) w' := (hdp 9 (mq (by kernel_rfl))).2
    (with_reducible refine asked_value (w1 := w') (v := sp 9) ?_ ?_ ?_)
    ·simp [Region.wanted, yielded, Act.put, go_sem]
    ·simp [execOp, Act.eval, Act.put, go_sem]
    ·exact ⟨KT.same _ _ _, k9, hg.1, by simpa [upd] using hg.2⟩
   case refine_12 =>
    have hx : ∃ c u, sp 10 = .tuple #[c, u, .int .i64 0] /\ ClV AA BB YY ZZ c w' /\ OwnIs 0 SB u w' := (hdp 10 (mq (by kernel_rfl))).2
    (with_reducible refine Exists.elim hx fun c hx1 => Exists.elim hx1 fun u hx2 => ?_)
    have h1 := hx2.1
    (with_reducible refine asked_value (w1 := w') (v := c) ?_ ?_ ?_)
    ·simp only [Region.wanted]
    ·simp [execOp, Act.eval, Act.put, go_sem, h1]
    ·exact ⟨KT.same _ _ _, hx2.2.1, hg.1, by simpa [upd] using hg.2⟩
   case refine_13 =>
    have hx : ∃ c u, sp 10 = .tuple #[c, u, .int .i64 0] /\ ClV AA BB YY ZZ c w' /\ OwnIs 0 SB u w' := (hdp 10 (mq (by kernel_rfl))).2
    (with_reducible refine Exists.elim hx fun c hx1 => Exists.elim hx1 fun u hx2 => ?_)
    have h1 := hx2.1
    (with_reducible refine asked_value (w1 := w') (v := u) ?_ ?_ ?_)
    ·simp only [Region.wanted]
    ·simp [execOp, Act.eval, Act.put, go_sem, h1]
    ·exact ⟨KT.same _ _ _, hx2.2.2, hg.1, by simpa [upd] using hg.2⟩
   case refine_14 =>
    have hx : ∃ c u, sp 10 = .tuple #[c, u, .int .i64 0] /\ ClV AA BB YY ZZ c w' /\ OwnIs 0 SB u w' := (hdp 10 (mq (by kernel_rfl))).2
    (with_reducible refine Exists.elim hx fun c hx1 => Exists.elim hx1 fun u hx2 => ?_)
    have h1 := hx2.1
    with_reducible refine asked_pl ?_ ?_
    all_goals simp [Region.wanted, yielded, execOp, Act.eval, Act.put, go_sem, h1]
   case refine_15 =>
    have h9 : D 15 = false := hW 15 (mq (by kernel_rfl))
    rw [hD, h9] at hg
    (with_reducible refine asked_value (w1 := w'.alloc (.cells #[.slice none 0 0, .slice none 0 0, .slice none 0 0, .slice none 0 0] 83)) (v := .pointer (some ⟨w'.heap.size, 0, none⟩)) ?_ ?_ ?_)
    ·simp only [Region.wanted]
    ·simp [execOp, go_sem]
    ·have hb : Below w'.heap.size w' (w'.alloc (.cells #[.slice none 0 0, .slice none 0 0, .slice none 0 0, .slice none 0 0] 83)) := bal
     refine ⟨KT.of hb hg.1.base, trivial, hg.1.later hb, ?_⟩
     have h8 : MkO true false _ _ (z4 83) _ _ := MkO.made hg.2
     simpa [upd, h9] using h8
   case refine_16 =>
    have hx : ∃ xa xb xy xz : Option Addr × Nat × Nat, sp 11 = .agg #[.slice xa.1 xa.2.1 xa.2.2, .slice xb.1 xb.2.1 xb.2.2, .slice xy.1 xy.2.1 xy.2.2, .slice xz.1 xz.2.1 xz.2.2] /\ AtC AA BB YY ZZ xa xb xy xz w' := (hdp 11 (mq (by kernel_rfl))).2
    (with_reducible refine Exists.elim hx fun xa hx1 => Exists.elim hx1 fun xb hx2 => Exists.elim hx2 fun xy hx3 => Exists.elim hx3 fun xz hx4 => ?_)
    have h1 := hx4.1
    have h9 : D 14 = true := (hdp 14 (mq (by kernel_rfl))).1
    rw [hD, h9] at hg
    have hm := hg.2.2 rfl
    (with_reducible refine Exists.elim hm fun bq hm1 => ?_)
    have h3 := hm1.1
    have h6 : w'.heap[bq]? = some (.cells #[.slice none 0 0, .slice none 0 0, .slice none 0 0, .slice none 0 0] 83 (0, 0)) := hm1.2.2.1 rfl
    have hp := put4 (u0 := .slice xa.1 xa.2.1 xa.2.2) (u1 := .slice xb.1 xb.2.1 xb.2.2) (u2 := .slice xy.1 xy.2.1 xy.2.2) (u3 := .slice xz.1 xz.2.1 xz.2.2) h6
    have hs := slices4 (none, 0, 0) (none, 0, 0) (none, 0, 0) (none, 0, 0)
    have hkt := hp.kt h6 hs hm1.2.1
    have g0 := cells4 h6
    (with_reducible refine asked_skip (w1 := set4 w' bq (.slice xa.1 xa.2.1 xa.2.2) (.slice xb.1 xb.2.1 xb.2.2) (.slice xy.1 xy.2.1 xy.2.2) (.slice xz.1 xz.2.1 xz.2.2)) ?_ ?_ ?_)
    ·simp only [Region.wanted]
    ·simp [execOp, Act.eval, Act.put, go_sem, h1, h3, g0.1.1, g0.1.2.1, g0.1.2.2.1, g0.1.2.2.2, g0.2.1, g0.2.2.1, g0.2.2.2.1, g0.2.2.2.2, set4]
    ·refine ⟨hkt, trivial, hg.1.putO hp h6 hs hm1.2.1 (fun x hx => by cases hx), ?_⟩
     have h8 : MkO true true (sp 14) _ (z4 83) (ClF 83 AA BB YY ZZ) _ := ⟨by rw [hp.size]; exact hg.2.1, fun _ => ⟨bq, h3, hm1.2.1, StO.done hp.new ⟨xa, xb, xy, xz, rfl, hx4.2.kt hkt⟩⟩⟩
     simpa [upd, h9] using h8
   case refine_17 =>
    have k12 : OwnIs 0 SB (sp 12) w' := (hdp 12 (mq (by kernel_rfl))).2
    (with_reducible refine asked_value (w1 := w') (v := sp 12) ?_ ?_ ?_)
    ·simp [Region.wanted, yielded, Act.put, go_sem]
    ·simp [execOp, Act.eval, Act.put, go_sem]
    ·exact ⟨KT.same _ _ _, k12, hg.1, by simpa [upd] using hg.2⟩
   all_goals ((with_reducible refine asked_pl ?_ ?_); all_goals first | (simp only [Region.wanted]; done) | simp [Region.wanted, yielded, execOp, Act.eval, Act.put, go_sem])
  ·intro sp w10 hsp hk
   obtain ⟨hk1, _, hk2⟩ := hk
   obtain ⟨b18, e18, _, _⟩ := hk2 rfl
   obtain ⟨pc, cc, ec, hpc, _⟩ := (show OwnIs 0 SB (sp 16) w10 from hsp 16 rfl).part HS8b.out
   rw [HLE.out] at ec hpc
   have hb := hk1.keep.bel
   have HCB10 := hol ((hb.block _ (Array.getElem?_eq_some_iff.1 HCB9.out).1).trans HCB9.out)
   have HCA := hol (HCA9.out.below hb)
   have HPB := hol (HPB9.out.below hb)
   have HPC := hol hpc
   have HXK_ := HXK.out.below hb HXK.out.lt
   have HFK_ := HFK.out.below hb
   have HG_ := HG.out.below hb
   have HT_ := HT.out.below hb HT.out.size
   have HM_ := HM.out.below hb
   have HB_ := bstep HB.out hb
   clear HXK HFK HG HT HM HB
   have HXK := hol HXK_
   have HFK := hol HFK_
   have HG := hol HG_
   have HT := hol HT_
   have HM := hol HM_
   have HB := hol HB_
   clear HXK_ HFK_ HG_ HT_ HM_ HB_
   clear hsp hk1 hk2 hpc hb HCB9 HCA9 HPB9
   have HCB : Hold (∀ w', Below w10.heap.size w10 w' -> w'.heap[b15]? = some (.cells #[.slice xa.1 xa.2.1 xa.2.2, .slice xb.1 xb.2.1 xb.2.2, .slice xy.1 xy.2.1 xy.2.2, .slice xz.1 xz.2.1 xz.2.2] 83 (0, 0))) := ⟨fun w' hb => (hb.block _ (Array.getElem?_eq_some_iff.1 HCB10.out).1).trans HCB10.out⟩
   simp only [frameOf, Nat.reduceAdd]
   rw [e18, ec]
   clear e18 ec
   generalize sp 3 = y3, sp 6 = y6, sp 9 = y9, sp 10 = y10, sp 11 = y11, sp 12 = y12, sp 15 = y15 at *
   go_simp
   obtain ⟨S, hS⟩ : ∃ S, strOf SB = S := ⟨_, rfl⟩
   have HSS := hol hS
   have HLm : Hold (L <= 140737488355328) := ⟨by omega⟩
   have HLm1 : Hold (SB.length + 1 <= 140737488355328) := ⟨by rw [HLE.out]; omega⟩
   obtain ⟨NL, hNL⟩ : ∃ n, (SB ++ [y]).length = n := ⟨_, rfl⟩
   have HNL := hol hNL
   have hnl1 : NL = L + 1 := by rw [<- hNL, List.length_append, HLE.out]; rfl
   have HLG8 : Hold (Bytes8 (SB ++ [y])) := ⟨fun z hz => by
    rcases List.mem_append.1 hz with h | h
    ·exact HS8b.out z h
    ·rw [List.mem_singleton.1 h]; exact HYb8.out⟩
   have HN1 : Hold (¬ dlOk P Q AA BB YY ZZ msg (SB ++ [y])) := ⟨fun h => by
    have h1 := h.1.1
    rw [hNL, hnl1, <- HL2Q.out] at h1
    omega⟩
   obtain ⟨L1, hL1e⟩ : ∃ L1, L = L1 + 1 := ⟨L - 1, by omega⟩
   have hL2 : ((L : Nat) : Int) - 1 = (L1 : Int) := by omega
   have hL1 : IntKind.i64.wrap (L1 : Int) = (L1 : Int) := by rw [IntKind.wrap_i64]; omega
   have HSLI : Hold (∀ w', (Instr.sliceAt 60 (.slice pb L cb) none (some (.int .i64 (L1 : Int))) none).run Tryz.prog w' = .ok (.slice pb L1 cb) w') := ⟨fun w' => slice_hi8 (n := L) (c := cb) (W := L1) (by omega) HPB.out.row.cap w'⟩
   have HSH : Hold (PartOk w10 ⟨pb, L1, cb, SB.take L1⟩) := ⟨⟨HPB.out.row.take L1 (show L1 <= L by omega), HPB.out.bytes.take L1⟩⟩
   have HN2 : Hold (¬ dlOk P Q AA BB YY ZZ msg (SB.take L1)) := ⟨fun h => by
    have h1 := h.1.1
    rw [List.length_take, HLE.out, HL2Q.out] at h1
    omega⟩
   clear hS hNL hnl1 hL1e
   go_wp2
   refine wp_region_dutiesS (by kernel_rfl) (by kernel_rfl)
    [some (.int .i64 0), some (.bool true), some (.bool true), some (.int .i64 0), some (.bool true), some (.bool true), some (.bool true), some (.slice pb L cb), some (.string S), some (.slice pc L cc), some (.string S), some (.bool true), some (.bool true), some (.bool true), some (.pointer (some ⟨b, 0, none⟩)), some (.agg #[.slice xa.1 xa.2.1 xa.2.2, .slice xb.1 xb.2.1 xb.2.2, .slice xy.1 xy.2.1 xy.2.2, .slice xz.1 xz.2.1 xz.2.2]), some (.slice pm nm cm), some (.slice pb L cb), none, some (.bool true), some (.bool true), some (.pointer (some ⟨b, 0, none⟩)), some (.agg #[.slice xa.1 xa.2.1 xa.2.2, .slice xb.1 xb.2.1 xb.2.2, .slice xy.1 xy.2.1 xy.2.2, .slice xz.1 xz.2.1 xz.2.2]), some (.slice pm nm cm), none, some (.slice pb L cb), none, some (.int .u8 (y : Nat)), none, none, none, some (.bool true), some (.bool true), some (.bool true), some (.pointer (some ⟨b, 0, none⟩)), some (.agg #[.slice xa.1 xa.2.1 xa.2.2, .slice xb.1 xb.2.1 xb.2.2, .slice xy.1 xy.2.1 xy.2.2, .slice xz.1 xz.2.1 xz.2.2]), some (.slice pm nm cm), some (.slice pb L cb), some (.slice pb L cb), some (.int .i64 (L : Nat)), some (.int .i64 (L1 : Nat)), some (.slice pb L1 cb), none, some (.bool true), some (.bool true), some (.bool true)]
    [false, false, false, false, false, false, false, false, false, false, false, false, false, false, false, false, false, false, true, false, false, false, false, false, true, false, true, false, true, true, true, false, false, false, false, false, false, false, false, false, false, false, true, false, false, false] rfl
    (fun _ _ => True) (fun D sp w' => BkG w10 SB y (D 24) (D 26) (D 28) (D 29) (sp 24) (sp 26) (sp 28) (sp 29) w')
    (fun i v w' => match i with | 18 => v = .bool true | 30 => v = .bool false | 42 => v = .bool false | _ => True)
    ?_ BkG.start ?_ ?_
   ·intro i v wA wB hf hb
    split at hf
    ·exact hf
    ·exact hf
    ·exact hf
    ·trivial
   ·simp only [DutiesS, Nat.reduceAdd]
    refine ⟨?_, ?_, ?_, ?_, ?_, ?_, ?_, ?_, ?_, ?_, ?_, ?_, ?_, ?_, ?_, ?_, ?_, ?_, ?_, ?_, ?_, ?_, ?_, ?_, ?_, ?_, ?_, ?_, ?_, ?_, ?_, ?_, ?_, ?_, ?_, ?_, ?_, ?_, ?_, ?_, ?_, ?_, ?_, ?_, ?_, ?_, trivial⟩
    all_goals intro D sp w' hD hW hdp hg
    case refine_9 =>
     have cs := convert_in (HPB.out.below hg.bel).row
     rw [HSS.out] at cs
     with_reducible refine asked_pl ?_ ?_
     all_goals simp [Region.wanted, yielded, execOp, Act.eval, Act.put, go_sem, cs]
    case refine_11 =>
     have cs := convert_in (HPC.out.below hg.bel).row
     rw [HSS.out] at cs
     with_reducible refine asked_pl ?_ ?_
     all_goals simp [Region.wanted, yielded, execOp, Act.eval, Act.put, go_sem, cs]
    case refine_16 | refine_23 | refine_36 =>
     have g0 := (cells4 (HCB.out w' hg.bel)).1
     with_reducible refine asked_pl ?_ ?_
     all_goals simp [Region.wanted, yielded, execOp, Act.eval, Act.put, go_sem, g0.1, g0.2.1, g0.2.2.1, g0.2.2.2]
    case refine_19 =>
     (with_reducible refine asked_call (w1 := w') (f := 58) (args := #[.pointer (some ⟨b, 0, none⟩), .agg #[.slice xa.1 xa.2.1 xa.2.2, .slice xb.1 xb.2.1 xb.2.2, .slice xy.1 xy.2.1 xy.2.2, .slice xz.1 xz.2.1 xz.2.2], .slice pm nm cm, .slice pb L cb]) ?_ ?_ ?_)
     ·simp [Region.wanted, yielded, Act.put, go_sem]
     ·simp [Act.eval, Act.put, go_sem]
     ·refine (dlverify_fit (HG.out.below hg.bel) (HT.out.below hg.bel HT.out.size) (HCA.out.below hg.bel) HAb.out HBb.out HYb.out HZb.out HPf.out HQf.out (HM.out.below hg.bel) (HPB.out.below hg.bel)).mono ?_
      rintro en w9 ⟨X9, rfl, hX9, hb⟩
      have hf9 : X9 = true := hX9.2 HOK.out
      rw [hf9]
      exact ⟨_, rfl, trivial, rfl, by simpa [upd] using hg.later hb⟩
    case refine_20 =>
     have k18 : (sp 18) = .bool true := (hdp 18 (mq (by kernel_rfl))).2
     with_reducible refine asked_pl ?_ ?_
     all_goals simp [Region.wanted, yielded, execOp, Act.eval, Act.put, go_sem, k18]
    case refine_25 =>
     rw [hD] at hg
     (with_reducible refine asked_value (w1 := w'.alloc (.cells #[] 5)) (v := .slice (some ⟨w'.heap.size, 0, none⟩) 0 0) ?_ ?_ ?_)
     ·simp [Region.wanted, yielded, Act.put, go_sem]
     ·simp [execOp, Act.eval, go_sem]
     ·exact ⟨trivial, trivial, by simpa [upd] using hg.put24⟩
    case refine_27 =>
     rw [hD] at hg
     have d24 : D 24 = true := (hdp 24 (mq (by kernel_rfl))).1
     have h26 := hg.p24 d24 rfl
     (with_reducible refine Exists.elim h26 fun g h27 => ?_)
     have e24 := h27.1
     (with_reducible refine run_app0E h27.2.2 h27.2.1 (HPB.out.below hg.bel).row HZB.out HLm.out 60 (fun v' w5 hr ho hb => ?_))
     (with_reducible refine asked_value (v := v') (w1 := w5) ?_ ?_ ?_)
     ·simp [Region.wanted, yielded, Act.put, go_sem]
     ·simp [execOp, resolve, invoke, builtin, Act.eval, Act.put, e24, hr, Result.andThen]
     ·exact ⟨trivial, trivial, by simpa [upd] using (hg.later hb).put26 ho⟩
    case refine_29 =>
     rw [hD] at hg
     (with_reducible refine asked_value (w1 := w'.alloc (.cells #[.int .u8 (y : Nat)] 5)) (v := .slice (some ⟨w'.heap.size, 0, none⟩) 1 1) ?_ ?_ ?_)
     ·simp [Region.wanted, yielded, Act.put, go_sem]
     ·simp [execOp, Act.eval, Act.put, go_sem]
     ·exact ⟨trivial, trivial, by simpa [upd] using hg.put28⟩
    case refine_30 =>
     rw [hD] at hg
     have d26 : D 26 = true := (hdp 26 (mq (by kernel_rfl))).1
     have d28 : D 28 = true := (hdp 28 (mq (by kernel_rfl))).1
     rw [d26, d28] at hg
     have h28 := hg.p28 rfl rfl
     (with_reducible refine Exists.elim h28 fun g h29 => ?_)
     have e28 := h29.1
     (with_reducible refine run_appE (hg.p26 rfl rfl) h29.2 (fun h => by cases h) HLm1.out hg.bel.size 60 (fun v' w5 hr ho hgr => ?_))
     (with_reducible refine asked_value (v := v') (w1 := w5) ?_ ?_ ?_)
     ·simp [Region.wanted, yielded, Act.put, go_sem]
     ·simp [execOp, resolve, invoke, builtin, Act.eval, Act.put, e28, hr, Result.andThen]
     ·exact ⟨trivial, trivial, by simpa [upd, d26, d28] using hg.put29 ho hgr⟩
    case refine_31 =>
     have d29 : D 29 = true := (hdp 29 (mq (by kernel_rfl))).1
     have h30 := hg.p29 d29
     (with_reducible refine h30.elim (fun p9 c9 hv hr hn hz => ?_))
     have hv2 : (sp 29) = .slice p9 NL c9 := by rw [<- HNL.out]; exact hv
     have hpk : PartOk w' ⟨p9, NL, c9, SB ++ [y]⟩ := ⟨by rw [<- HNL.out]; exact hr, HLG8.out⟩
     (with_reducible refine asked_call (w1 := w') (f := 58) (args := #[.pointer (some ⟨b, 0, none⟩), .agg #[.slice xa.1 xa.2.1 xa.2.2, .slice xb.1 xb.2.1 xb.2.2, .slice xy.1 xy.2.1 xy.2.2, .slice xz.1 xz.2.1 xz.2.2], .slice pm nm cm, .slice p9 NL c9]) ?_ ?_ ?_)
     ·simp [Region.wanted, yielded, Act.put, go_sem]
     ·simp [Act.eval, Act.put, go_sem, hv2]
     ·refine (dlverify_fit (HG.out.below hg.bel) (HT.out.below hg.bel HT.out.size) (HCA.out.below hg.bel) HAb.out HBb.out HYb.out HZb.out HPf.out HQf.out (HM.out.below hg.bel) hpk).mono ?_
      rintro en w9 ⟨X9, rfl, hX9, hb⟩
      have hf9 : X9 = false := notok12 hX9 HN1.out
      rw [hf9]
      exact ⟨_, rfl, trivial, rfl, by simpa [upd] using hg.later hb⟩
    case refine_32 =>
     have k30 : (sp 30) = .bool false := (hdp 30 (mq (by kernel_rfl))).2
     with_reducible refine asked_pl ?_ ?_
     all_goals simp [Region.wanted, yielded, execOp, Act.eval, Act.put, go_sem, k30]
    case refine_40 =>
     (with_reducible refine asked_value (w1 := w') (v := .int .i64 (L : Nat)) ?_ ?_ ?_)
     ·simp [Region.wanted, yielded, Act.put, go_sem]
     ·simp [Act.eval, Act.put, go_sem]
     ·exact ⟨rfl, rfl⟩
    case refine_41 =>
     (with_reducible refine asked_value (w1 := w') (v := .int .i64 (L1 : Nat)) ?_ ?_ ?_)
     ·simp [Region.wanted, yielded, Act.put, go_sem]
     ·simp [execOp, Act.eval, Act.put, go_sem, hL1, hL2]
     ·exact ⟨rfl, rfl⟩
    case refine_42 =>
     have cs := HSLI.out w'
     with_reducible refine asked_pl ?_ ?_
     all_goals simp [Region.wanted, yielded, execOp, Act.eval, Act.put, go_sem, cs]
    case refine_43 =>
     (with_reducible refine asked_call (w1 := w') (f := 58) (args := #[.pointer (some ⟨b, 0, none⟩), .agg #[.slice xa.1 xa.2.1 xa.2.2, .slice xb.1 xb.2.1 xb.2.2, .slice xy.1 xy.2.1 xy.2.2, .slice xz.1 xz.2.1 xz.2.2], .slice pm nm cm, .slice pb L1 cb]) ?_ ?_ ?_)
     ·simp [Region.wanted, yielded, Act.put, go_sem]
     ·simp [Act.eval, Act.put, go_sem]
     ·refine (dlverify_fit (HG.out.below hg.bel) (HT.out.below hg.bel HT.out.size) (HCA.out.below hg.bel) HAb.out HBb.out HYb.out HZb.out HPf.out HQf.out (HM.out.below hg.bel) (HSH.out.below hg.bel)).mono ?_
      rintro en w9 ⟨X9, rfl, hX9, hb⟩
      have hf9 : X9 = false := notok12 hX9 HN2.out
      rw [hf9]
      exact ⟨_, rfl, trivial, rfl, by simpa [upd] using hg.later hb⟩
    case refine_44 =>
     have k42 : (sp 42) = .bool false := (hdp 42 (mq (by kernel_rfl))).2
     with_reducible refine asked_pl ?_ ?_
     all_goals simp [Region.wanted, yielded, execOp, Act.eval, Act.put, go_sem, k42]
    all_goals ((with_reducible refine asked_pl ?_ ?_); all_goals first | (simp only [Region.wanted]; done) | simp [Region.wanted, yielded, execOp, Act.eval, Act.put, go_sem])
   ·intro sp w11 hsp hg
    have HBf := hol (bstep HB.out hg.bel)
    clear hsp hg hL1 hL2
    simp only [frameOf, Nat.reduceAdd]
    generalize sp 18 = y18, sp 24 = y24, sp 26 = y26, sp 28 = y28, sp 29 = y29, sp 30 = y30, sp 42 = y42 at *
    go_simp
    go_wp2
    go_ret
    exact ⟨rfl, HBf.out⟩
end Go.Proofs.YthgoeiegdhphjaaGreatDoor
