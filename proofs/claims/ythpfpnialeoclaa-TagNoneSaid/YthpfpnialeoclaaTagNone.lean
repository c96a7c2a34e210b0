/- The tag of no bytes is the key's second half; with a first half of noughts each tag is: the law. -/
import Derived.Test.YthpfpnialeoclaaTagN
import Derived.Test.YthpfpnialeoclaaTagTags
import Derived.Test.YthpfpnialeoclaaTagO
namespace Go.Proofs.Ythpfpnialeoclaa
open Go Go.RowKit Go.Proofs.Ythpfpnialeoclaa.Flow

set_option maxHeartbeats 4000000 in
set_option maxRecDepth 100000 in
theorem none_calls (hof : OfDoes) (w : World) (ps pb : Option Addr) (ns nb cs cb : Nat) (s xs : List Nat) (hs : RowIn w .u8 ps ns cs s) (hs8 : Bytes8 s)
    (hb : RowIn w .u8 pb nb cb xs) (hb8 : Bytes8 xs) (hzb : pb = none → cb = 0) :
    Calls Try.prog 4 #[.slice ps ns cs, .slice pb nb cb] w fun e w' => e = .returned (.bool true) ∧ Below w.heap.size w w' := by
  have HR : Hold _ := ⟨hs⟩
  have HB : Hold _ := ⟨hb⟩
  have H8 : Hold _ := ⟨hs8⟩
  have HB8 : Hold _ := ⟨hb8⟩
  have HZb : Hold _ := ⟨hzb⟩
  have mkc := hs.cap
  have mkx := hs.max
  have mbc := hb.cap
  have mbx := hb.max
  have HSL : Hold (ns = s.length) := ⟨hs.len⟩
  have HOF : Hold OfDoes := ⟨hof⟩
  clear hs hb hs8 hb8 hzb hof
  by_cases h16 : ns < 16
  · have h16' : (ns : Int) < 16 := by omega
    go_enter Try.func4, Try.ntmps4
    go_wp2_with fail
    refine (lives_calls HOF.out w).mono ?_
    rintro e w1 ⟨rfl, hb1⟩
    go_wp2_with fail
    refine (lives_calls HOF.out w1).mono ?_
    rintro e w2 ⟨rfl, hb2⟩
    go_wp2
    go_ret
    exact ⟨rfl, bstepS hb1 hb2⟩
  have h16' : ¬ (ns : Int) < 16 := by omega
  by_cases h300 : 300 < nb
  · have h300' : (300 : Int) < nb := by omega
    go_enter Try.func4, Try.ntmps4
    go_wp2_with fail
    refine (lives_calls HOF.out w).mono ?_
    rintro e w1 ⟨rfl, hb1⟩
    go_wp2_with fail
    refine (lives_calls HOF.out w1).mono ?_
    rintro e w2 ⟨rfl, hb2⟩
    go_wp2
    go_ret
    exact ⟨rfl, bstepS hb1 hb2⟩
  have h300' : ¬ (300 : Int) < nb := by omega
  have hn16 : 16 ≤ ns := by omega
  have h16c : (16 : Int) ≤ cs := by omega
  go_enter Try.func4, Try.ntmps4
  go_wp2_with fail
  refine (lives_calls HOF.out w).mono ?_
  rintro e w1 ⟨rfl, hb1⟩
  have HB1 : Hold (Below w.heap.size w w1) := ⟨hb1⟩
  have HS16 : Hold (RowIn w1 .u8 ps 16 cs (s.take 16)) := ⟨(HR.out.below hb1).take 16 hn16⟩
  have hmk := fun wx => make_u8 16 (by omega) wx
  have hmk' : ∀ wx : World, (Instr.makeSlice 22 (.int .i64 16) (.int .i64 16)).run Try.prog wx = .ok (.slice (some ⟨wx.heap.size, 0, none⟩) 16 16) (wx.alloc (.cells (zeros .u8 16) 5)) := fun wx => make_u8 16 (by omega) wx
  have hl16 : Hold ((s.take 16).length = 16) := ⟨by rw [List.length_take, ← HSL.out]; omega⟩
  clear hb1 hmk
  go_wp2
  refine wp_region_duties (by kernel_rfl) (by kernel_rfl)
    [none, some (.slice ps ns cs), some (.slice ps 16 cs), none, none]
    [true, false, false, true, true] rfl
    (fun w1 w2 => Below w1.heap.size w1 w2) (fun _ w' => Below w1.heap.size w1 w')
    (fun i v w' => match i with
      | 0 => Nought16 v w'
      | 3 => Own w' w1.heap.size v (List.replicate 16 0 ++ s.take 16)
      | 4 => Own w' w1.heap.size v (List.replicate 16 0 ++ s.take 16)
      | _ => True)
    ?_ ((Below.refl _ _).drew) ?_ ?_
  · intro i v w1 w2 hf hb
    split at hf
    · exact hf.below hb
    · exact hf.belowS hb
    · exact hf.belowS hb
    · trivial
  · simp only [Duties, Nat.reduceAdd]
    refine ⟨?_, ?_, ?_, ?_, ?_, trivial⟩
    case refine_1 =>
      intro D sp w' hD hW hdp hG
      have hb : Below w'.heap.size w' (w'.alloc (.cells (zeros .u8 16) 5)) := (Below.refl _ _).alloc (Nat.le_refl _) _
      (with_reducible refine asked_value (v := .slice (some ⟨w'.heap.size, 0, none⟩) 16 16) (w1 := w'.alloc (.cells (zeros .u8 16) 5)) ?_ ?_ ⟨hb, Nought16.of _ _ (Blk.zeros w' 5 .u8 16), bstepS hG hb⟩)
      · simp [Region.wanted, go_sem]
      · simp [execOp, Act.eval, go_sem, hmk']
    case refine_4 =>
      intro D sp w' hD hW hdp hG
      have hf : Nought16 (sp 0) w' := (hdp 0 (List.mem_of_elem_eq_true (by kernel_rfl))).2
      (with_reducible refine hf.elim (fun g hv hblk => ?_))
      clear hf
      (with_reducible refine run_app_full (n := 16) hblk (by simp) (HS16.out.below hG) (by decide) (by decide) 22 (fun v' w5 hr ho hb => ?_))
      (with_reducible refine asked_value (v := v') (w1 := w5) ?_ ?_ ⟨hb, ho.mono hG.size, bstepS hG hb⟩)
      · simp [Region.wanted, go_sem]
      · simp [execOp, resolve, invoke, builtin, Act.eval, Act.put, hv, hr, Result.andThen]
    case refine_5 =>
      intro D sp w' hD hW hdp hG
      have hf : Own w' w1.heap.size (sp 3) (List.replicate 16 0 ++ s.take 16) := (hdp 3 (List.mem_of_elem_eq_true (by kernel_rfl))).2
      (with_reducible refine asked_value (v := sp 3) (w1 := w') ?_ ?_ ⟨Below.refl _ _, hf, hG⟩)
      · simp [Region.wanted, go_sem]
      · simp [execOp, Act.eval, Act.put, go_sem]
    all_goals
      intro D sp w' hD hW hdp hG
      simp [asked, Region.wanted, Oper.gives, execOp, Act.eval, Act.put, go_sem, h16c]
  · intro sp w2 hsp hG
    have hkey : Own w2 w1.heap.size (sp 4) (List.replicate 16 0 ++ s.take 16) := hsp 4 rfl
    have hlk : Hold ((List.replicate 16 0 ++ s.take 16).length = 32) := ⟨by rw [List.length_append, List.length_replicate, hl16.out]⟩
    have h8s : Hold (Bytes8 (s.take 16)) := ⟨H8.out.take 16⟩
    have h8k : Hold (Bytes8 (List.replicate 16 0 ++ s.take 16)) := ⟨fun x hx => by
      rcases List.mem_append.1 hx with h | h
      · rw [List.eq_of_mem_replicate h]; omega
      · exact h8s.out x h⟩
    obtain ⟨g, cK, hv, hgw, hgl⟩ := hkey.there (by rw [hlk.out]; omega)
    rw [hlk.out] at hv
    have HG : Hold (Below w1.heap.size w1 w2) := ⟨hG⟩
    have hTN : Hold (tagOf (List.replicate 16 0 ++ s.take 16) xs = s.take 16) := ⟨tag_nought h8s.out hl16.out⟩
    obtain ⟨Key, hKey⟩ : ∃ K, List.replicate 16 0 ++ s.take 16 = K := ⟨_, rfl⟩
    rw [hKey] at hkey hlk h8k hTN
    have HKey : Hold _ := ⟨hKey⟩
    rw [hv] at hkey
    have HKO : Hold _ := ⟨hkey⟩
    obtain ⟨_, _, e, hrk, _, _, _⟩ := hkey.elim
    rw [hlk.out] at e hrk
    simp only [Value.slice.injEq, true_and] at e
    obtain ⟨rfl, rfl⟩ := e
    have HKR : Hold _ := ⟨hrk⟩
    clear hsp hG hkey hKey hmk' hrk
    simp only [frameOf, Nat.reduceAdd]
    rw [hv]
    generalize sp 0 = u0
    generalize sp 3 = u3
    clear hv
    go_simp
    go_wp2_with fail
    refine (HOF.out w2 (some ⟨g, 0, none⟩) 32 cK Key pb nb cb xs HKR.out h8k.out (fun h => nomatch h) (HB.out.below (bstepS HB1.out HG.out)) HB8.out HZb.out (by omega)).mono ?_
    rintro e w3 ⟨hy, hno⟩
    clear hno
    obtain ⟨v, rfl, hv, hb3⟩ := hy rfl
    rw [hTN.out] at hv
    refine hv.elim fun pv cv hvv hr _ hzv => ?_
    rw [hl16.out] at hvv hr
    subst hvv
    have HR3 : Hold (RowIn w3 .u8 pv 16 cv (s.take 16)) := ⟨hr⟩
    have HB3 : Hold (Below w2.heap.size w2 w3) := ⟨hb3⟩
    have HS3 : Hold _ := ⟨HS16.out.below (bstepS HG.out hb3)⟩
    have HX3 : Hold _ := ⟨HB.out.below (bstepS (bstepS HB1.out HG.out) hb3)⟩
    obtain ⟨S, hS⟩ : ∃ S, strOf (s.take 16) = S := ⟨_, rfl⟩
    have HS : Hold _ := ⟨hS⟩
    clear hy hv hr hzv hb3 hS HB hTN
    go_wp2
    refine wp_region_duties (by kernel_rfl) (by kernel_rfl)
      [some (.int .i64 0), some (.bool false), some (.bool false), some (.slice pv 16 cv), some (.string S), some (.slice ps ns cs), some (.slice ps 16 cs), some (.string S), some (.bool false), some (.bool false)]
      [false, false, false, false, false, false, false, false, false, false] rfl
      (fun w1 w2 => Below w1.heap.size w1 w2) (fun _ w' => Below w3.heap.size w3 w')
      (fun i v w' => True)
      ?_ ((Below.refl _ _).drew) ?_ ?_
    · intro i v w1 w2 hf hb
      trivial
    · simp only [Duties, Nat.reduceAdd]
      refine ⟨?_, ?_, ?_, ?_, ?_, ?_, ?_, ?_, ?_, ?_, trivial⟩
      case refine_5 =>
        intro D sp w' hD hW hdp hG
        have k := convert_in (HR3.out.below hG)
        rw [HS.out] at k
        (with_reducible refine asked_value (v := .string S) (w1 := w') ?_ ?_ ⟨rfl, rfl⟩)
        · simp [Region.wanted, yielded, Act.put, go_sem]
        · simp [execOp, Act.eval, Act.put, go_sem, k]
      case refine_8 =>
        intro D sp w' hD hW hdp hG
        have k := convert_in (HS3.out.below hG)
        rw [HS.out] at k
        (with_reducible refine asked_value (v := .string S) (w1 := w') ?_ ?_ ⟨rfl, rfl⟩)
        · simp [Region.wanted, yielded, Act.put, go_sem]
        · simp [execOp, Act.eval, Act.put, go_sem, k]
      all_goals
        intro D sp w' hD hW hdp hG
        simp [asked, Region.wanted, yielded, Oper.gives, execOp, Act.eval, Act.put, go_sem, h16c]
    · intro sp w4 hsp hG
      have HO4 : Hold _ := ⟨HKO.out.belowS (bstepS HB3.out hG)⟩
      have HX4 : Hold _ := ⟨HX3.out.below hG⟩
      have HS4 : Hold _ := ⟨HS3.out.below hG⟩
      have HB4 : Hold (Below w.heap.size w w4) := ⟨bstepS (bstepS (bstepS HB1.out HG.out) HB3.out) hG⟩
      clear hsp hG HX3 HS3 HR3 HKO HKR HS16
      simp only [frameOf]
      go_simp
      go_wp2_with (refine wpList_copy_into rfl (.tmp 43) (.tmp 44) rfl HO4.out hlk.out.symm rfl rfl HX4.out hgw ?_)
      intro w5 j ho5 hb5
      obtain ⟨Key2, hKey2⟩ : ∃ K, xs.take (min nb 32) ++ Key.drop (min nb 32) = K := ⟨_, rfl⟩
      rw [hKey2] at ho5
      have hxl := HX4.out.len
      have hl2 : Hold (Key2.length = 32) := ⟨by rw [← hKey2, List.length_append, List.length_take, List.length_drop, hlk.out, ← hxl]; omega⟩
      have h82 : Hold (Bytes8 Key2) := ⟨by
        rw [← hKey2]; intro x hx
        rcases List.mem_append.1 hx with h | h
        · exact HB8.out x (List.mem_of_mem_take h)
        · exact h8k.out x (List.mem_of_mem_drop h)⟩
      have hD : Hold (nb ≤ 16 → Key2.drop 16 = s.take 16) := ⟨fun h => by
        rw [← hKey2, Nat.min_eq_left (by omega), List.drop_append, List.drop_of_length_le (by rw [List.length_take]; omega), List.nil_append, List.drop_drop, List.length_take, ← hxl, Nat.min_self, ← HKey.out, List.drop_append, List.length_replicate, List.drop_of_length_le (by rw [List.length_replicate]; omega), List.nil_append]
        rw [show nb + (16 - nb) - 16 = 0 by omega, List.drop_zero]⟩
      have HB5 : Hold (Below w.heap.size w w5) := ⟨HB4.out.trans (hb5.mono HB1.out.size)⟩
      obtain ⟨_, _, e, hrk, _, _, _⟩ := ho5.elim
      rw [hl2.out] at e hrk
      simp only [Value.slice.injEq, true_and] at e
      obtain ⟨rfl, rfl⟩ := e
      have HK5 : Hold _ := ⟨hrk⟩
      have hnil : Hold (RowIn w5 .u8 none 0 0 []) := ⟨⟨rfl, Nat.le_refl _, by omega, fun h => absurd h (by omega)⟩⟩
      have hT2 : Hold (tagOf Key2 [] = Key2.drop 16) := ⟨tag_nothing h82.out hl2.out⟩
      have hl2d : Hold ((Key2.drop 16).length = 16) := ⟨by rw [List.length_drop, hl2.out]⟩
      clear ho5 hb5 hKey2 hrk HO4 HX4 hxl HKey hlk h8k HS4 HB4
      generalize goInt j = gj
      go_wp2_with fail
      refine (HOF.out w5 (some ⟨g, 0, none⟩) 32 cK Key2 none 0 0 [] HK5.out h82.out (fun h => nomatch h) hnil.out (fun x hx => by cases hx) (fun _ => rfl) (by omega)).mono ?_
      rintro e w6 ⟨hy, hno⟩
      clear hno
      obtain ⟨u, rfl, hv, hb6⟩ := hy rfl
      rw [hT2.out] at hv
      refine hv.elim fun pu cu hvv hr _ hzv => ?_
      rw [hl2d.out] at hvv hr
      subst hvv
      have HR6 : Hold (RowIn w6 .u8 pu 16 cu (Key2.drop 16)) := ⟨hr⟩
      have HB6 : Hold (Below w.heap.size w w6) := ⟨bstepS HB5.out hb6⟩
      have HS6 : Hold (RowIn w6 .u8 ps 16 cs (s.take 16)) := ⟨(HR.out.below HB6.out).take 16 hn16⟩
      clear hy hv hr hzv hb6 HK5 hnil hT2 hl2d
      by_cases h17 : 16 < nb
      · have h17' : (16 : Int) < nb := by omega
        go_wp2
        refine wp_region_duties (by kernel_rfl) (by kernel_rfl)
          [some (.int .i64 0), some (.bool true), some (.bool true), some (.slice pb nb cb), some (.int .i64 nb), some (.bool true), some (.bool true), some undef, some undef, some undef, some undef, some undef, some undef, some (.bool true), some (.bool true), some (.bool true)]
          [false, false, false, false, false, false, false, false, false, false, false, false, false, false, false, false] rfl
          (fun w1 w2 => Below w1.heap.size w1 w2) (fun _ w' => Below w6.heap.size w6 w')
          (fun i v w' => True)
          ?_ ((Below.refl _ _).drew) ?_ ?_
        · intro i v w1 w2 hf hb
          trivial
        · simp only [Duties, Nat.reduceAdd]
          refine ⟨?_, ?_, ?_, ?_, ?_, ?_, ?_, ?_, ?_, ?_, ?_, ?_, ?_, ?_, ?_, ?_, trivial⟩
          all_goals
            intro D sp w' hD hW hdp hG
            simp [asked, Region.wanted, yielded, Oper.gives, execOp, Act.eval, Act.put, go_sem, h17']
        · intro sp w7 hsp hG
          clear hsp
          simp only [frameOf]
          go_simp
          go_wp2
          go_ret
          exact ⟨rfl, bstepS HB6.out hG⟩
      · have h17' : ¬ (16 : Int) < nb := by omega
        have hdd : Hold (Key2.drop 16 = s.take 16) := ⟨hD.out (by omega)⟩
        go_wp2
        refine wp_region_duties (by kernel_rfl) (by kernel_rfl)
          [some (.int .i64 0), some (.bool true), some (.bool true), some (.slice pb nb cb), some (.int .i64 nb), some (.bool false), some (.bool false), some (.slice pu 16 cu), some (.string S), some (.slice ps ns cs), some (.slice ps 16 cs), some (.string S), some (.bool true), some (.bool true), some (.bool true), some (.bool true)]
          [false, false, false, false, false, false, false, false, false, false, false, false, false, false, false, false] rfl
          (fun w1 w2 => Below w1.heap.size w1 w2) (fun _ w' => Below w6.heap.size w6 w')
          (fun i v w' => True)
          ?_ ((Below.refl _ _).drew) ?_ ?_
        · intro i v w1 w2 hf hb
          trivial
        · simp only [Duties, Nat.reduceAdd]
          refine ⟨?_, ?_, ?_, ?_, ?_, ?_, ?_, ?_, ?_, ?_, ?_, ?_, ?_, ?_, ?_, ?_, trivial⟩
          case refine_9 =>
            intro D sp w' hD hW hdp hG
            have k := convert_in (HR6.out.below hG)
            rw [hdd.out, HS.out] at k
            (with_reducible refine asked_value (v := .string S) (w1 := w') ?_ ?_ ⟨rfl, rfl⟩)
            · simp [Region.wanted, yielded, Act.put, go_sem]
            · simp [execOp, Act.eval, Act.put, go_sem, k]
          case refine_12 =>
            intro D sp w' hD hW hdp hG
            have k := convert_in (HS6.out.below hG)
            rw [HS.out] at k
            (with_reducible refine asked_value (v := .string S) (w1 := w') ?_ ?_ ⟨rfl, rfl⟩)
            · simp [Region.wanted, yielded, Act.put, go_sem]
            · simp [execOp, Act.eval, Act.put, go_sem, k]
          all_goals
            intro D sp w' hD hW hdp hG
            simp [asked, Region.wanted, yielded, Oper.gives, execOp, Act.eval, Act.put, go_sem, h17', h16c]
        · intro sp w7 hsp hG
          clear hsp
          simp only [frameOf]
          go_simp
          go_wp2
          go_ret
          exact ⟨rfl, bstepS HB6.out hG⟩
end Go.Proofs.Ythpfpnialeoclaa
