/- Any message's tag under any key is the document's, or refused as it says: the law. -/
import Derived.Test.YthpfpnialeoclaaGen
import Derived.Laws.BytesArg
import Derived.Laws.BytesString
import Derived.WideShapes
import Derived.Test.YthpfpnialeoclaaTagX
import Derived.Test.YthpfpnialeoclaaTagO
/-! Bytes as a string. -/
namespace Go.Proofs.Ythpfpnialeoclaa
open Go Go.RowKit

/-- Bytes as a string. -/
def strOf (bs : List Nat) : ByteArray := strOfNums (bs.map fun (x : Nat) => (x : Int))

theorem convert_row {w : World} {p : Option Addr} {n c : Nat} {bs : List Nat} (h : Row w .u8 p n c bs) :
    (convert 22 9 (.slice p n c)).run Try.prog w = .ok (.string (strOf bs)) w := by
  rcases h.at_ with ⟨rfl, rfl, rfl⟩ | ⟨b, off, rfl, hb, hc⟩
  · have hl := h.len
    have : bs = [] := List.eq_nil_of_length_eq_zero hl.symm
    subst this
    rw [run_convert_bytes_nil w 22 5 (by kernel_rfl) (by kernel_rfl) _ _ _ (by kernel_rfl)]
    rfl
  · refine run_convert_bytes_arg w 22 5 (by kernel_rfl) (by kernel_rfl) b off n c _ (by simp [h.len]) ?_ _ (by kernel_rfl)
    intro i hi
    have hl := h.len
    rw [hc i (bs.getD i 0) (by rw [List.getD_eq_getElem?_getD]; simp [show i < bs.length by omega])]
    simp [List.getD_eq_getElem?_getD, show i < bs.length by omega]

theorem convert_empty (w : World) (p : Option Addr) (c : Nat) : (convert 22 9 (.slice p 0 c)).run Try.prog w = .ok (.string (strOf [])) w := by
  rw [run_convert_bytes_string w 22 9 5 p 0 c (by kernel_rfl) (by kernel_rfl) (by kernel_rfl)]
  cases p with
  | none => rfl
  | some a => rfl

theorem convert_in {w : World} {p : Option Addr} {n c : Nat} {bs : List Nat} (h : RowIn w .u8 p n c bs) :
    (convert 22 9 (.slice p n c)).run Try.prog w = .ok (.string (strOf bs)) w := by
  rcases Nat.eq_zero_or_pos n with rfl | h0
  · have : bs = [] := List.eq_nil_of_length_eq_zero h.len.symm
    rw [this]
    exact convert_empty w p c
  · exact convert_row (h.row h0)

end Go.Proofs.Ythpfpnialeoclaa

namespace Go.Proofs.Ythpfpnialeoclaa
open Go Go.RowKit Go.Proofs.Ythpfpnialeoclaa.Flow

set_option maxHeartbeats 4000000 in
set_option maxRecDepth 100000 in
theorem tags_calls (hof : OfDoes) (w : World) (pk pb : Option Addr) (nk nb ck cb : Nat) (key xs : List Nat) (hk : RowIn w .u8 pk nk ck key) (hk8 : Bytes8 key) (hzk : pk = none → ck = 0)
    (hb : RowIn w .u8 pb nb cb xs) (hb8 : Bytes8 xs) (hzb : pb = none → cb = 0) (hs : ck ≤ 140737488351232) :
    Calls Try.prog 3 #[.slice pk nk ck, .slice pb nb cb] w fun e w' => e = .returned (.bool true) ∧ Below w.heap.size w w' := by
  have HK : Hold _ := ⟨hk⟩
  have HB : Hold _ := ⟨hb⟩
  have H8 : Hold _ := ⟨hk8⟩
  have HB8 : Hold _ := ⟨hb8⟩
  have HZk : Hold _ := ⟨hzk⟩
  have HZb : Hold _ := ⟨hzb⟩
  have HKL : Hold (nk = key.length) := ⟨hk.len⟩
  have mkc := hk.cap
  have mkx := hk.max
  have mbc := hb.cap
  have mbx := hb.max
  have HOF : Hold OfDoes := ⟨hof⟩
  clear hk hb hk8 hb8 hzk hzb hof
  by_cases h300 : nb ≤ 300
  · go_enter Try.func3, Try.ntmps3
    go_wp2_with fail
    refine (lives_calls HOF.out w).mono ?_
    rintro e w1 ⟨rfl, hb1⟩
    have hbd : Below w1.heap.size w1 (w1.alloc (.cells #[] 5)) := (Below.refl _ _).alloc (Nat.le_refl _) _
    have hrow0 : Hold (RowIn (w1.alloc (.cells #[] 5)) .u8 pk nk ck key) := ⟨HK.out.below (bstepS hb1 hbd)⟩
    have HO0 : Hold (Own (w1.alloc (.cells #[] 5)) w1.heap.size (.slice (some ⟨w1.heap.size, 0, none⟩) 0 0) []) := ⟨Own.lit w1 [] (by decide)⟩
    have hmx : Hold (([] : List Nat).length + nk ≤ 140737488355328) := ⟨by rw [List.length_nil]; omega⟩
    have hsz3 := hbd.size
    go_wp2_with (at_builtin; refine wpList_app rfl _ _ rfl rfl HO0.out rfl hrow0.out HZk.out hmx.out hsz3 ?_; intro v1 w2 ho1 hg1; refine Paused.out ?_)
    refine ⟨?_⟩
    rw [List.nil_append] at ho1
    have HB2 : Hold (Below w.heap.size w w2) := ⟨bstepS hb1 (hbd.trans (grown_below hg1 hsz3 (fun b hb => by cases hb; exact Nat.le_refl _)))⟩
    clear hg1 hrow0 HO0 hmx hsz3 hbd hb1
    obtain ⟨q1, c1, rfl, r1, _, z1, _⟩ := ho1.elim
    rw [← HKL.out] at r1
    rw [← HKL.out]
    have HQ : Hold (RowIn w2 .u8 q1 nk c1 key) := ⟨r1⟩
    have HZq : Hold (q1 = none → c1 = 0) := ⟨z1⟩
    clear ho1 r1 z1
    go_wp2_with fail
    refine (HOF.out w2 q1 nk c1 key pb nb cb xs HQ.out H8.out HZq.out (HB.out.below HB2.out) HB8.out HZb.out (by omega)).mono ?_
    rintro e w3 ⟨hy, hno⟩
    by_cases h32 : nk = 32
    · have h32' : ((nk : Int) != 32) = false := by simp; omega
      have h32e : ¬ (nk : Int) ≠ 32 := by omega
      obtain ⟨v, rfl, hv, hb3⟩ := hy h32
      refine hv.elim fun pv cv hvv hr _ hzv => ?_
      rw [tagOf_length] at hvv hr
      subst hvv
      have HR : Hold (RowIn w3 .u8 pv 16 cv (tagOf key xs)) := ⟨hr⟩
      have HB3 : Hold (Below w.heap.size w w3) := ⟨bstepS HB2.out hb3⟩
      have HQ3 : Hold _ := ⟨HQ.out.below hb3⟩
      have HK3 : Hold _ := ⟨HK.out.below HB3.out⟩
      have HX3 : Hold _ := ⟨HB.out.below HB3.out⟩
      obtain ⟨S, hS⟩ : ∃ S, strOf (tagOf key xs) = S := ⟨_, rfl⟩
      obtain ⟨X, hX⟩ : ∃ X, strOf key = X := ⟨_, rfl⟩
      have HS : Hold _ := ⟨hS⟩
      have HX : Hold _ := ⟨hX⟩
      have H32 : Hold (nk = 32) := ⟨h32⟩
      clear hy hno hv hr hzv hb3 hS hX HQ HB HK h32 HB2 HZq HKL
      go_wp2
      refine wp_region_duties (by kernel_rfl) (by kernel_rfl)
        [some (.int .i64 0), some (.bool true), some (.bool true), some (.slice pv 16 cv), some (.string S), some (.slice pk nk ck), some (.slice pb nb cb), none, some (.string S), some (.bool true), some (.bool true), some (.bool true), some (.slice q1 nk c1), some (.string X), some (.slice pk nk ck), some (.string X), some (.bool true), some (.bool true), some (.bool true)]
        [false, false, false, false, false, false, false, true, false, false, false, false, false, false, false, false, false, false, false] rfl
        (fun w1 w2 => Below w1.heap.size w1 w2) (fun _ w' => Below w3.heap.size w3 w')
        (fun i v w' => match i with
          | 7 => OwnIs 0 (tagOf key xs) v w'
          | _ => True)
        ?_ ((Below.refl _ _).drew) ?_ ?_
      · intro i v w1 w2 hf hb
        split at hf
        · exact hf.below hb
        · trivial
      · simp only [Duties, Nat.reduceAdd]
        refine ⟨?_, ?_, ?_, ?_, ?_, ?_, ?_, ?_, ?_, ?_, ?_, ?_, ?_, ?_, ?_, ?_, ?_, ?_, ?_, trivial⟩
        case refine_5 =>
          intro D sp w' hD hW hdp hG
          have k := convert_in (HR.out.below hG)
          rw [HS.out] at k
          (with_reducible refine asked_value (v := .string S) (w1 := w') ?_ ?_ ⟨rfl, rfl⟩)
          · simp [Region.wanted, yielded, Act.put, go_sem]
          · simp [execOp, Act.eval, Act.put, go_sem, k]
        case refine_8 =>
          intro D sp w' hD hW hdp hG
          (with_reducible refine asked_call (w1 := w') (f := 8) (args := #[.slice pk nk ck, .slice pb nb cb]) ?_ ?_ ?_)
          · simp [Region.wanted, yielded, Act.put, go_sem]
          · simp [Act.eval, Act.put, go_sem]
          · refine (refof_calls w' pk nk ck key pb nb cb xs (HK3.out.below hG) H8.out H32.out (HX3.out.below hG) HB8.out (by omega)).mono ?_
            rintro e w5 ⟨v, rfl, ho, hb⟩
            exact ⟨_, rfl, hb, ho.zero, bstepS hG hb⟩
        case refine_9 =>
          intro D sp w' hD hW hdp hG
          have hf : OwnIs 0 (tagOf key xs) (sp 7) w' := (hdp 7 (List.mem_of_elem_eq_true (by kernel_rfl))).2
          (with_reducible refine hf.elim (fun p' c' hv hr _ _ => ?_))
          clear hf
          have k := convert_in hr
          rw [HS.out] at k
          (with_reducible refine asked_value (v := .string S) (w1 := w') ?_ ?_ ⟨rfl, rfl⟩)
          · simp [Region.wanted, yielded, Act.put, go_sem]
          · simp [execOp, Act.eval, Act.put, go_sem, hv, k]
        case refine_14 =>
          intro D sp w' hD hW hdp hG
          have k := convert_in (HQ3.out.below hG)
          rw [HX.out] at k
          (with_reducible refine asked_value (v := .string X) (w1 := w') ?_ ?_ ⟨rfl, rfl⟩)
          · simp [Region.wanted, yielded, Act.put, go_sem]
          · simp [execOp, Act.eval, Act.put, go_sem, k]
        case refine_16 =>
          intro D sp w' hD hW hdp hG
          have k := convert_in (HK3.out.below hG)
          rw [HX.out] at k
          (with_reducible refine asked_value (v := .string X) (w1 := w') ?_ ?_ ⟨rfl, rfl⟩)
          · simp [Region.wanted, yielded, Act.put, go_sem]
          · simp [execOp, Act.eval, Act.put, go_sem, k]
        all_goals
          intro D sp w' hD hW hdp hG
          simp [asked, Region.wanted, yielded, Oper.gives, execOp, Act.eval, Act.put, go_sem]
      · intro sp w' hsp hG
        clear hsp
        simp only [frameOf, Nat.reduceAdd]
        generalize sp 7 = u7
        go_simp
        go_wp2
        go_ret
        exact ⟨rfl, bstepS HB3.out hG⟩
    · have h32' : ((nk : Int) != 32) = true := by simp; omega
      obtain ⟨rfl, hb3⟩ := hno h32
      have HB3 : Hold (Below w.heap.size w w3) := ⟨bstepS HB2.out hb3⟩
      clear hy hno hb3
      go_wp2
      go_ret
      exact ⟨rfl, HB3.out⟩
  · have hs' : (300 : Int) < nb := by omega
    go_enter Try.func3, Try.ntmps3
    go_wp2_with fail
    refine (lives_calls HOF.out w).mono ?_
    rintro e w1 ⟨rfl, hb1⟩
    go_wp2_with fail
    refine (lives_calls HOF.out w1).mono ?_
    rintro e w2 ⟨rfl, hb2⟩
    go_wp2
    go_ret
    exact ⟨rfl, bstepS hb1 hb2⟩
end Go.Proofs.Ythpfpnialeoclaa
