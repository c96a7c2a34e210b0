/- Two messages of one byte: their tags differ by as much as r times what they differ by: the law. -/
import Derived.Test.YthpfpnialeoclaaTagN
import Derived.Test.YthpfpnialeoclaaTagO
import Derived.Deep.QuietTactic
import Derived.BigQuiet
namespace Go.Proofs.Ythpfpnialeoclaa
open Go Go.RowKit Go.Proofs.Ythpfpnialeoclaa.Flow

theorem keyed {r : Nat} {s : List Nat} : (List.replicate 16 0 ++ s).set 0 r = (r :: List.replicate 15 0) ++ s := rfl
theorem clamp_same (r : Nat) : clamp (r :: List.replicate 15 0) = r :: List.replicate 15 0 := by
  simp [clamp, high6, low4, four, three, List.replicate]
theorem clamp_one (r : Nat) : le (clamp (r :: List.replicate 15 0)) = r := by
  rw [clamp_same]
  show r + 256 * 0 = r
  rw [Nat.mul_zero, Nat.add_zero]
theorem one_tag {r x : Nat} {s : List Nat} (hr : r < 256) (hx : x < 256) : tagNum ((r :: List.replicate 15 0) ++ s) [x] = (x + 256) * r + le s := by
  unfold tagNum
  have e1 : ((r :: List.replicate 15 0) ++ s).take 16 = r :: List.replicate 15 0 := List.take_left' (by simp)
  have e2 : ((r :: List.replicate 15 0) ++ s).drop 16 = s := List.drop_left' (by simp)
  rw [e1, e2, clamp_one]
  have h : (x + 256) * r < pp := by
    have h1 : (x + 256) * r ≤ 511 * 255 := Nat.mul_le_mul (by omega) (by omega)
    exact Nat.lt_of_le_of_lt h1 (by decide)
  have e3 : stirred r [x].length 0 [x] = (x + 256) * r := by
    show (if [x] = [] then 0 else stirred r 0 (stir r 0 [x]) ([x].drop 16)) = _
    rw [if_neg (by simp)]
    show stir r 0 [x] = _
    unfold stir
    rw [show [x].take 16 ++ [1] = [x, 1] from rfl, show le [x, 1] = x + 256 from rfl, Nat.zero_add, Nat.mod_eq_of_lt h]
  rw [e3]
theorem low_two (N : Nat) : ∃ a b, (bytesLE N 16)[0]? = some a ∧ (bytesLE N 16)[1]? = some b ∧ a < 256 ∧ b < 256 ∧ a + 256 * b = N % 65536 := by
  refine ⟨N % 256, N / 256 % 256, ?_, ?_, Nat.mod_lt _ (by omega), Nat.mod_lt _ (by omega), by omega⟩
  · rw [bytesLE_get (by omega), B8_zero, Nat.div_one]
  · rw [bytesLE_get (by omega)]; rfl

theorem far_off {a0 a1 b0 b1 x y r S : Nat} (ea : a0 + 256 * a1 = ((x + 256) * r + S) % 65536) (eb : b0 + 256 * b1 = ((y + 256) * r + S) % 65536) :
    (((((a0 : Int) + 256 * a1) - b0 - 256 * b1) - r * ((x : Int) - y)).tmod 65536 = 0) := by
  rw [Nat.add_mul] at ea eb
  have h1 : (r : Int) * ((x : Int) - y) = ((x * r : Nat) : Int) - ((y * r : Nat) : Int) := by
    rw [Int.mul_sub, Int.natCast_mul, Int.natCast_mul, Int.mul_comm (r : Int), Int.mul_comm (r : Int)]
  rw [h1]
  generalize x * r = P at *
  generalize y * r = Q at *
  clear h1
  have h : ((a0 : Int) + 256 * a1) - b0 - 256 * b1 - ((P : Int) - Q) = 65536 * ((((Q + 256 * r + S) / 65536 : Nat) : Int) - (((P + 256 * r + S) / 65536 : Nat) : Int)) := by omega
  rw [h]
  exact Int.mul_tmod_right _ _

set_option maxHeartbeats 4000000 in
set_option maxRecDepth 100000 in
theorem adds_calls (hof : OfDoes) (w : World) (r x y : Nat) (hr8 : r < 256) (hx8 : x < 256) (hy8 : y < 256) (ps : Option Addr) (ns cs : Nat) (s : List Nat) (hs : RowIn w .u8 ps ns cs s) (hs8 : Bytes8 s) :
    Calls Try.prog 5 #[.int .u8 r, .slice ps ns cs, .int .u8 x, .int .u8 y] w fun e w' => e = .returned (.bool true) ∧ Below w.heap.size w w' := by
  have HR : Hold _ := ⟨hs⟩
  have H8 : Hold _ := ⟨hs8⟩
  have mkc := hs.cap
  have mkx := hs.max
  have HSL : Hold (ns = s.length) := ⟨hs.len⟩
  have HOF : Hold OfDoes := ⟨hof⟩
  clear hs hs8 hof
  by_cases h16 : ns < 16
  · have h16' : (ns : Int) < 16 := by omega
    go_enter Try.func5, Try.ntmps5
    go_wp2_with fail
    refine (lives_calls HOF.out w).mono ?_
    rintro e w1 ⟨rfl, hb1⟩
    go_wp2_with fail
    refine (lives_calls HOF.out w1).mono ?_
    rintro e w2 ⟨rfl, hb2⟩
    go_wp2
    go_ret
    exact ⟨rfl, bstepS hb1 hb2⟩
  have h16' : ¬ (ns : Int) < 16 := by omega
  have hn16 : 16 ≤ ns := by omega
  have h16c : (16 : Int) ≤ cs := by omega
  go_enter Try.func5, Try.ntmps5
  go_wp2_with fail
  refine (lives_calls HOF.out w).mono ?_
  rintro e w1 ⟨rfl, hb1⟩
  have HB1 : Hold (Below w.heap.size w w1) := ⟨hb1⟩
  have HS16 : Hold (RowIn w1 .u8 ps 16 cs (s.take 16)) := ⟨(HR.out.below hb1).take 16 hn16⟩
  have hmk := fun wx => make_u8 16 (by omega) wx
  have hmk' : ∀ wx : World, (Instr.makeSlice 22 (.int .i64 16) (.int .i64 16)).run Try.prog wx = .ok (.slice (some ⟨wx.heap.size, 0, none⟩) 16 16) (wx.alloc (.cells (zeros .u8 16) 5)) := fun wx => make_u8 16 (by omega) wx
  have hl16 : Hold ((s.take 16).length = 16) := ⟨by rw [List.length_take, ← HSL.out]; omega⟩
  clear hb1 hmk
  go_wp2
  refine wp_region_duties (by kernel_rfl) (by kernel_rfl)
    [none, some (.slice ps ns cs), some (.slice ps 16 cs), none, none]
    [true, false, false, true, true] rfl
    (fun w1 w2 => Below w1.heap.size w1 w2) (fun _ w' => Below w1.heap.size w1 w')
    (fun i v w' => match i with
      | 0 => Nought16 v w'
      | 3 => Own w' w1.heap.size v (List.replicate 16 0 ++ s.take 16)
      | 4 => Own w' w1.heap.size v (List.replicate 16 0 ++ s.take 16)
      | _ => True)
    ?_ ((Below.refl _ _).drew) ?_ ?_
  · intro i v w1 w2 hf hb
    split at hf
    · exact hf.below hb
    · exact hf.belowS hb
    · exact hf.belowS hb
    · trivial
  · simp only [Duties, Nat.reduceAdd]
    refine ⟨?_, ?_, ?_, ?_, ?_, trivial⟩
    case refine_1 =>
      intro D sp w' hD hW hdp hG
      have hb : Below w'.heap.size w' (w'.alloc (.cells (zeros .u8 16) 5)) := (Below.refl _ _).alloc (Nat.le_refl _) _
      (with_reducible refine asked_value (v := .slice (some ⟨w'.heap.size, 0, none⟩) 16 16) (w1 := w'.alloc (.cells (zeros .u8 16) 5)) ?_ ?_ ⟨hb, Nought16.of _ _ (Blk.zeros w' 5 .u8 16), bstepS hG hb⟩)
      · simp [Region.wanted, go_sem]
      · simp [execOp, Act.eval, go_sem, hmk']
    case refine_4 =>
      intro D sp w' hD hW hdp hG
      have hf : Nought16 (sp 0) w' := (hdp 0 (List.mem_of_elem_eq_true (by kernel_rfl))).2
      (with_reducible refine hf.elim (fun g hv hblk => ?_))
      clear hf
      (with_reducible refine run_app_full (n := 16) hblk (by simp) (HS16.out.below hG) (by decide) (by decide) 22 (fun v' w5 hr ho hb => ?_))
      (with_reducible refine asked_value (v := v') (w1 := w5) ?_ ?_ ⟨hb, ho.mono hG.size, bstepS hG hb⟩)
      · simp [Region.wanted, go_sem]
      · simp [execOp, resolve, invoke, builtin, Act.eval, Act.put, hv, hr, Result.andThen]
    case refine_5 =>
      intro D sp w' hD hW hdp hG
      have hf : Own w' w1.heap.size (sp 3) (List.replicate 16 0 ++ s.take 16) := (hdp 3 (List.mem_of_elem_eq_true (by kernel_rfl))).2
      (with_reducible refine asked_value (v := sp 3) (w1 := w') ?_ ?_ ⟨Below.refl _ _, hf, hG⟩)
      · simp [Region.wanted, go_sem]
      · simp [execOp, Act.eval, Act.put, go_sem]
    all_goals
      intro D sp w' hD hW hdp hG
      simp [asked, Region.wanted, Oper.gives, execOp, Act.eval, Act.put, go_sem, h16c]
  · intro sp w2 hsp hG
    have hkey : Own w2 w1.heap.size (sp 4) (List.replicate 16 0 ++ s.take 16) := hsp 4 rfl
    have hlk : Hold ((List.replicate 16 0 ++ s.take 16).length = 32) := ⟨by rw [List.length_append, List.length_replicate, hl16.out]⟩
    have h8s : Hold (Bytes8 (s.take 16)) := ⟨H8.out.take 16⟩
    have h8k : Hold (Bytes8 (List.replicate 16 0 ++ s.take 16)) := ⟨fun x hx => by
      rcases List.mem_append.1 hx with h | h
      · rw [List.eq_of_mem_replicate h]; omega
      · exact h8s.out x h⟩
    obtain ⟨g, cK, hv, hgw, hgl⟩ := hkey.there (by rw [hlk.out]; omega)
    rw [hlk.out] at hv
    have HG : Hold (Below w1.heap.size w1 w2) := ⟨hG⟩
    obtain ⟨Key, hKey⟩ : ∃ K, List.replicate 16 0 ++ s.take 16 = K := ⟨_, rfl⟩
    rw [hKey] at hkey hlk h8k
    have HKey : Hold _ := ⟨hKey⟩
    rw [hv] at hkey
    have hci : w2.cell? ⟨g, 0, none⟩ = some (.int .u8 (0 : Nat)) := hkey.cell (i := 0) (x := 0) (by rw [← hKey]; rfl)
    have hfr := hkey.free 0
    have hset := hkey.set 0 r
    have HKO : Hold _ := ⟨hset.1⟩
    have HB2 : Hold (Below w1.heap.size w1 (w2.setCell ⟨g, 0, none⟩ (.int .u8 (r : Nat)))) := ⟨hG.grown hset.2 hG.size (fun j hj => by cases hj; exact hgw)⟩
    have hK2 : Hold (Key.set 0 r = (r :: List.replicate 15 0) ++ s.take 16) := ⟨by rw [← hKey]; exact keyed⟩
    have h8K2 : Hold (Bytes8 (Key.set 0 r)) := ⟨h8k.out.set 0 hr8⟩
    have hlK2 : (Key.set 0 r).length = 32 := by rw [List.length_set, hlk.out]
    obtain ⟨_, _, e, hrk, _, _, _⟩ := hset.1.elim
    rw [hlK2] at e hrk
    simp only [Value.slice.injEq, true_and] at e
    obtain ⟨rfl, rfl⟩ := e
    have HKR : Hold _ := ⟨hrk⟩
    clear hsp hG hkey hKey hmk' hrk hset hlK2
    simp only [frameOf, Nat.reduceAdd]
    rw [hv]
    generalize sp 0 = u0
    generalize sp 3 = u3
    clear hv
    have hws : (w2.setCell ⟨g, 0, none⟩ (.int .u8 (r : Nat))).heap.size = w2.heap.size := by simp
    obtain ⟨w3, hw3⟩ : ∃ w3, w2.setCell ⟨g, 0, none⟩ (.int .u8 (r : Nat)) = w3 := ⟨_, rfl⟩
    have HX1 : Hold (RowIn (w3.alloc (.cells #[.int .u8 (x : Nat)] 5)) .u8 (some ⟨w3.heap.size, 0, none⟩) 1 1 [x]) := ⟨lit_row w3 [x] (by simp)⟩
    have HBx : Hold (Below w3.heap.size w3 (w3.alloc (.cells #[.int .u8 (x : Nat)] 5))) := ⟨(Below.refl _ _).alloc (Nat.le_refl _) _⟩
    obtain ⟨Key2, hKey2⟩ : ∃ K, Key.set 0 r = K := ⟨_, rfl⟩
    rw [hKey2] at h8K2 hK2 HKR HKO
    rw [hw3] at HKR HKO HB2 hws
    have HK3 : Hold _ := ⟨HKR.out.below HBx.out⟩
    have HB3 : Hold (Below w1.heap.size w1 w3) := ⟨HB2.out⟩
    subst hw3
    rw [hws] at HX1
    clear hKey2 HKey hlk h8k HB2
    go_simp
    go_wp2_with fail
    refine (HOF.out _ (some ⟨g, 0, none⟩) 32 cK Key2 (some ⟨w2.heap.size, 0, none⟩) 1 1 [x] HK3.out h8K2.out (fun h => nomatch h) HX1.out (fun z hz => by rw [List.mem_singleton.1 hz]; exact hx8) (fun h => nomatch h) (by omega)).mono ?_
    rintro e w4 ⟨hya, hno⟩
    clear hno
    obtain ⟨va, rfl, hva, hb4⟩ := hya rfl
    have HB4 : Hold (Below w1.heap.size w1 w4) := ⟨bstepS (bstepS HB3.out HBx.out) hb4⟩
    have HK4 : Hold _ := ⟨HK3.out.below hb4⟩
    refine hva.elim fun pa ca hvv hra _ hzv => ?_
    rw [tagOf_length] at hvv hra
    subst hvv
    have HA4 : Hold (RowIn w4 .u8 pa 16 ca (tagOf Key2 [x])) := ⟨hra⟩
    have HX2 : Hold (RowIn (w4.alloc (.cells #[.int .u8 (y : Nat)] 5)) .u8 (some ⟨w4.heap.size, 0, none⟩) 1 1 [y]) := ⟨lit_row w4 [y] (by simp)⟩
    have HBy : Hold (Below w4.heap.size w4 (w4.alloc (.cells #[.int .u8 (y : Nat)] 5))) := ⟨(Below.refl _ _).alloc (Nat.le_refl _) _⟩
    have HK5 : Hold _ := ⟨HK4.out.below HBy.out⟩
    clear hya hva hb4 hra hzv HX1 HK3 HBx HB3 HKR HKO hci hfr hws HS16
    go_wp2_with fail
    refine (HOF.out _ (some ⟨g, 0, none⟩) 32 cK Key2 (some ⟨w4.heap.size, 0, none⟩) 1 1 [y] HK5.out h8K2.out (fun h => nomatch h) HX2.out (fun z hz => by rw [List.mem_singleton.1 hz]; exact hy8) (fun h => nomatch h) (by omega)).mono ?_
    rintro e w6 ⟨hyb, hno⟩
    clear hno
    obtain ⟨vb, rfl, hvb, hb6⟩ := hyb rfl
    refine hvb.elim fun pb cb hvv hrb _ hzv => ?_
    rw [tagOf_length] at hvv hrb
    subst hvv
    have HB6 : Hold (Below w.heap.size w w6) := ⟨bstepS HB1.out (bstepS HB4.out (bstepS HBy.out hb6))⟩
    have hra := HA4.out.below (bstepS HBy.out hb6)
    obtain ⟨ba, oa, rfl, hbla, hca⟩ := (hra.row (by omega)).pos (by omega)
    obtain ⟨bb, ob, rfl, hblb, hcb⟩ := (hrb.row (by omega)).pos (by omega)
    obtain ⟨a0, a1, ga0, ga1, la0, la1, ea⟩ := low_two (tagNum Key2 [x])
    obtain ⟨b0, b1, gb0, gb1, lb0, lb1, eb⟩ := low_two (tagNum Key2 [y])
    have ca0 : w6.cell? ⟨ba, oa, none⟩ = some (.int .u8 (a0 : Nat)) := hca 0 a0 ga0
    have ca1 : w6.cell? ⟨ba, oa + 1, none⟩ = some (.int .u8 (a1 : Nat)) := hca 1 a1 ga1
    have cb0 : w6.cell? ⟨bb, ob, none⟩ = some (.int .u8 (b0 : Nat)) := hcb 0 b0 gb0
    have cb1 : w6.cell? ⟨bb, ob + 1, none⟩ = some (.int .u8 (b1 : Nat)) := hcb 1 b1 gb1
    have hfin : Hold (((((a0 : Int) + 256 * a1) - b0 - 256 * b1) - r * ((x : Int) - y)).tmod 65536 = 0) := ⟨by
      rw [hK2.out, one_tag hr8 hx8] at ea
      rw [hK2.out, one_tag hr8 hy8] at eb
      exact far_off ea eb⟩
    clear hyb hvb hb6 hrb hra hca hcb ga0 ga1 gb0 gb1 ea eb HA4 HX2 HBy HK5 HK4 hzv HB4
    have t0 : IntKind.i64.wrap (256 * (a1 : Int)) = 256 * (a1 : Int) := IntWalk.i64_in _ (by omega)
    have t1 : IntKind.i64.wrap ((a0 : Int) + 256 * (a1 : Int)) = (a0 : Int) + 256 * (a1 : Int) := IntWalk.i64_in _ (by omega)
    have t2 : IntKind.i64.wrap ((a0 : Int) + 256 * (a1 : Int) - b0) = (a0 : Int) + 256 * (a1 : Int) - b0 := IntWalk.i64_in _ (by omega)
    have t3 : IntKind.i64.wrap (256 * (b1 : Int)) = 256 * (b1 : Int) := IntWalk.i64_in _ (by omega)
    have t4 : IntKind.i64.wrap ((a0 : Int) + 256 * (a1 : Int) - b0 - 256 * (b1 : Int)) = (a0 : Int) + 256 * (a1 : Int) - b0 - 256 * (b1 : Int) := IntWalk.i64_in _ (by omega)
    have t5 : IntKind.i64.wrap ((x : Int) - y) = (x : Int) - y := IntWalk.i64_in _ (by omega)
    have hprod : -65536 ≤ (r : Int) * ((x : Int) - y) ∧ (r : Int) * ((x : Int) - y) ≤ 65536 := by
      rw [Int.mul_sub]
      have e1 : (r : Int) * x = ((r * x : Nat) : Int) := by simp
      have e2 : (r : Int) * y = ((r * y : Nat) : Int) := by simp
      have h1 : r * x ≤ 255 * 255 := Nat.mul_le_mul (by omega) (by omega)
      have h2 : r * y ≤ 255 * 255 := Nat.mul_le_mul (by omega) (by omega)
      rw [e1, e2]
      omega
    have t6 : IntKind.i64.wrap ((r : Int) * ((x : Int) - y)) = (r : Int) * ((x : Int) - y) := IntWalk.i64_in _ (by omega)
    have t7 : IntKind.i64.wrap ((a0 : Int) + 256 * (a1 : Int) - b0 - 256 * (b1 : Int) - (r : Int) * ((x : Int) - y)) = (a0 : Int) + 256 * (a1 : Int) - b0 - 256 * (b1 : Int) - (r : Int) * ((x : Int) - y) := IntWalk.i64_in _ (by omega)
    go_wp2
    go_quiet (fail)
    go_wp2
    go_ret
    exact ⟨by rw [hfin.out]; rfl, below_drewN HB6.out _⟩
end Go.Proofs.Ythpfpnialeoclaa
