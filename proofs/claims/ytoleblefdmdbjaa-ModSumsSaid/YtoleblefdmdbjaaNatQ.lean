/- Is a number the document's? -/
import Derived.Test.YtoleblefdmdbjaaNatP
import Derived.Laws.BytesArg
namespace Go.Proofs.Ytoleblefdmdbjaa
open Go Go.RowKit Go.Proofs.Ytoleblefdmdbjaa.Flow

/-- Bytes as a string. -/
def strOf (bs : List Nat) : ByteArray := strOfNums (bs.map fun (x : Nat) => (x : Int))

theorem convert_row {w : World} {p : Option Addr} {n c : Nat} {bs : List Nat} (h : Row w .u8 p n c bs) :
    (convert 22 9 (.slice p n c)).run Try.prog w = .ok (.string (strOf bs)) w := by
  rcases h.at_ with ⟨rfl, rfl, rfl⟩ | ⟨b, off, rfl, hb, hc⟩
  · have hl := h.len
    have : bs = [] := List.eq_nil_of_length_eq_zero hl.symm
    subst this
    rw [run_convert_bytes_nil w 22 5 (by kernel_rfl) (by kernel_rfl) _ _ _ (by kernel_rfl)]
    rfl
  · refine run_convert_bytes_arg w 22 5 (by kernel_rfl) (by kernel_rfl) b off n c _ (by simp [h.len]) ?_ _ (by kernel_rfl)
    intro i hi
    have hl := h.len
    rw [hc i (bs.getD i 0) (by rw [List.getD_eq_getElem?_getD]; simp [show i < bs.length by omega])]
    simp [List.getD_eq_getElem?_getD, show i < bs.length by omega]

set_option maxHeartbeats 1000000 in
theorem same_calls (w : World) (p : Option Addr) (n c N : Nat) (q : Option Addr) (m d M : Nat) (hA : NatAt w p n c N) (hn : n < 1000000) (hN : blen N ≤ 1000000) (hB : BitsAt w q m d M) (hNM : N = M) :
    Calls Try.prog 16 #[.agg #[.slice p n c], .slice q m d] w fun e w' => e = .returned (.bool true) ∧ Below w.heap.size w w' := by
  subst hNM
  have hbx := Box1.mk1 w (.slice p n c) 26
  have hm : m = blen N := by have := hB.len; rwa [bitsOf_length] at this
  have hw7 : IntKind.i64.wrap ((m : Int) + 7) = (m : Int) + 7 := IntWalk.i64_in _ (by omega)
  have hbs : ((m : Int) + 7) / 8 = (bsize N : Nat) := by unfold bsize; omega
  have hw8 : IntKind.i64.wrap (((m : Int) + 7) / 8) = (bsize N : Nat) := by rw [← hbs]; exact IntWalk.i64_in _ (by omega)
  have hw9 : wrap64 (((m : Int) + 7).tdiv 8) = (bsize N : Nat) := by
    rw [Int.tdiv_eq_ediv_of_nonneg (by omega), ← hbs]; exact IntWalk.wrap64_in _ (by omega)
  have hb9 : bsize N ≤ 1000000 := by unfold bsize; omega
  clear hm hbs
  go_enter Try.func16, Try.ntmps16
  go_wp2_with fail
  refine (rbytes_calls _ q m d N (bsize N) (hB.below hbx.bel) hb9 (by omega)).mono ?_
  rintro e w1 ⟨v, rfl, hv, hb1⟩
  rw [if_pos (Nat.le_refl _)] at hv
  have hbx1 := hbx.later hb1
  go_wp2
  refine wp_region_duties (by kernel_rfl) (by kernel_rfl)
    [some (.agg #[.slice p n c]), none, some (.string (strOf (beOf N (bsize N)))), some v, some (.string (strOf (beOf N (bsize N)))), some (.bool true), some (.bool true)]
    [false, true, false, false, false, false, false] rfl
    (fun w1 w2 => Below w1.heap.size w1 w2)
    (fun _ w' => Box1 w w' (.slice p n c) ∧ BytesVal (beOf N (bsize N)) (w.heap.size + 1) v w')
    (fun _ v w' => BytesVal (beOf N (bsize N)) w.heap.size v w')
    ?_ ⟨hbx1.below (Below.refl _ _).drew (Nat.le_refl _), by simpa using hv.below (Below.refl _ _).drew⟩ ?_ ?_
  · intro i v w1 w2 hf hb
    exact hf.below hb
  · simp only [Duties, Nat.reduceAdd]
    refine ⟨?_, ?_, ?_, ?_, ?_, ?_, ?_, trivial⟩
    case refine_2 =>
      intro D sp w' hD hW hdp ⟨hbx', hv'⟩
      (with_reducible refine asked_call (w1 := w') (f := 39) (args := #[.agg #[.slice p n c]]) ?_ ?_ ?_)
      · simp only [Region.wanted]
      · simp [Act.eval, Act.put, go_sem]
      · refine (least_calls w' p n c N (hA.below hbx'.bel) hn hN).mono ?_
        rintro e w2 ⟨v2, rfl, hv2, hb2⟩
        obtain ⟨q2, m2, d2, k1, k2, k3⟩ := hv2
        exact ⟨_, rfl, hb2, ⟨q2, m2, d2, k1, k2, k3.mono hbx'.bel.size⟩, hbx'.later hb2, hv'.below hb2⟩
    case refine_3 =>
      intro D sp w' hD hW hdp ⟨hbx', hv'⟩
      have h2 : ∃ q n d, sp 1 = .slice q n d ∧ Row w' .u8 q n d (beOf N (bsize N)) ∧ New w.heap.size q := (hdp 1 (List.mem_of_elem_eq_true (by kernel_rfl))).2
      (with_reducible refine Exists.elim h2 fun q2 hq2 => ?_)
      (with_reducible refine Exists.elim hq2 fun m2 hm2 => ?_)
      (with_reducible refine Exists.elim hm2 fun d2 hd2 => ?_)
      have k1 := hd2.1
      have k2 := convert_row hd2.2.1
      simp [asked, Region.wanted, Oper.gives, execOp, Act.eval, Act.put, go_sem, k1, k2]
    case refine_5 =>
      intro D sp w' hD hW hdp ⟨hbx', hv'⟩
      have hv2 : ∃ q n d, v = .slice q n d ∧ Row w' .u8 q n d (beOf N (bsize N)) ∧ New (w.heap.size + 1) q := hv'
      (with_reducible refine Exists.elim hv2 fun q2 hq2 => ?_)
      (with_reducible refine Exists.elim hq2 fun m2 hm2 => ?_)
      (with_reducible refine Exists.elim hm2 fun d2 hd2 => ?_)
      have k1 := hd2.1
      have k2 := convert_row hd2.2.1
      simp [asked, Region.wanted, Oper.gives, execOp, Act.eval, Act.put, go_sem, k1, k2]
    all_goals
      intro D sp w' hD hW hdp ⟨hbx', hv'⟩
      have c0 := hbx'.c0
      simp [asked, Region.wanted, Oper.gives, execOp, Act.eval, Act.put, go_sem, c0]
  · intro sp w' hsp ⟨hbx', hv'⟩
    clear hsp hv hv'
    simp only [frameOf, Nat.reduceAdd]
    generalize sp 1 = u at *
    go_simp
    go_wp2
    go_ret
    exact ⟨rfl, hbx'.bel⟩

end Go.Proofs.Ytoleblefdmdbjaa
