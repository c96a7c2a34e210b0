/- A number's fewest bytes. -/
import Derived.Test.YtoleblefdmdbjaaNatK
namespace Go.Proofs.Ytoleblefdmdbjaa
open Go Go.RowKit Go.Proofs.Ytoleblefdmdbjaa.Flow

/-- A row of bytes in new memory. -/
def BytesVal (bs : List Nat) (B : Nat) (v : Value) (w : World) : Prop := ∃ q n d, v = .slice q n d ∧ Row w .u8 q n d bs ∧ New B q
theorem BytesVal.below {bs : List Nat} {B : Nat} {v : Value} {w w' : World} (h : BytesVal bs B v w) (hb : Below w.heap.size w w') : BytesVal bs B v w' :=
  let ⟨q, n, d, h1, h2, h3⟩ := h
  ⟨q, n, d, h1, h2.below hb, h3⟩


set_option maxHeartbeats 1000000 in
theorem least_calls (w : World) (p : Option Addr) (n c N : Nat) (h : NatAt w p n c N) (hn : n < 1000000) (hN : blen N ≤ 1000000) :
    Calls Try.prog 39 #[.agg #[.slice p n c]] w fun e w' => ∃ v, e = .returned v ∧ BytesVal (beOf N (bsize N)) w.heap.size v w' ∧ Below w.heap.size w w' := by
  have hbx := Box1.mk1 w (.slice p n c) 26
  have hbs : bsize N ≤ 1000000 := by unfold bsize; omega
  go_enter Try.func39, Try.ntmps39
  go_wp2
  refine wp_region_duties (by kernel_rfl) (by kernel_rfl)
    [some (.agg #[.slice p n c]), some (.agg #[.slice p n c]), none, none, none, none, none, none, none]
    [false, false, true, true, true, true, true, true, true] rfl
    (fun w1 w2 => Below w1.heap.size w1 w2)
    (fun _ w' => Box1 w w' (.slice p n c))
    (fun i v w' => match i with
      | 2 => v = .int .i64 (bsize N : Nat)
      | 3 | 4 => ∃ u, v = .tuple #[u, .int .i64 0] ∧ BytesVal (beOf N (bsize N)) w.heap.size u w'
      | 5 | 7 => BytesVal (beOf N (bsize N)) w.heap.size v w'
      | _ => v = .int .i64 0)
    ?_ (hbx.below (Below.refl _ _).drew (Nat.le_refl _)) ?_ ?_
  · intro i v w1 w2 hf hb
    split at hf
    · exact hf
    · exact hf.imp fun u h => ⟨h.1, h.2.below hb⟩
    · exact hf.imp fun u h => ⟨h.1, h.2.below hb⟩
    · exact hf.below hb
    · exact hf.below hb
    · exact hf
  · simp only [Duties, Nat.reduceAdd]
    refine ⟨?_, ?_, ?_, ?_, ?_, ?_, ?_, ?_, ?_, trivial⟩
    case refine_3 =>
      intro D sp w' hD hW hdp hbx'
      (with_reducible refine asked_call (w1 := w') (f := 56) (args := #[.agg #[.slice p n c]]) ?_ ?_ ?_)
      · simp only [Region.wanted]
      · simp [Act.eval, Act.put, go_sem]
      · refine (size_calls w' p n c N (h.below hbx'.bel) hn (by omega)).mono ?_
        rintro e w2 ⟨rfl, hb⟩
        exact ⟨_, rfl, hb, rfl, hbx'.later hb⟩
    case refine_4 =>
      intro D sp w' hD hW hdp hbx'
      have h2 : sp 2 = .int .i64 (bsize N : Nat) := (hdp 2 (List.mem_of_elem_eq_true (by kernel_rfl))).2
      (with_reducible refine asked_call (w1 := w') (f := 17) (args := #[.agg #[.slice p n c], .int .i64 (bsize N : Nat)]) ?_ ?_ ?_)
      · simp only [Region.wanted]
      · simp [Act.eval, Act.put, go_sem, h2]
      · refine (bytes_calls w' p n c N (bsize N : Nat) (h.below hbx'.bel) hn (by omega) (by omega) (by omega)).mono ?_
        rintro e w2 ⟨q, m, d, k, rfl, hrow, hk, hb, hq⟩
        have e1 : ¬ ((bsize N : Nat) : Int) < 0 := by omega
        have e2 : ¬ ((bsize N : Nat) : Int) < bsize N := by omega
        rw [if_neg e1, if_neg e2] at hrow hk
        rw [hk]
        exact ⟨_, rfl, hb, ⟨_, rfl, q, m, d, rfl, hrow, hq.mono hbx'.bel.size⟩, hbx'.later hb⟩
    case refine_5 =>
      intro D sp w' hD hW hdp hbx'
      have hx : ∃ u, sp 3 = .tuple #[u, .int .i64 0] ∧ BytesVal (beOf N (bsize N)) w.heap.size u w' := (hdp 3 (List.mem_of_elem_eq_true (by kernel_rfl))).2
      (with_reducible refine Exists.elim hx fun u hu => ?_)
      have h1 := hu.1
      have h2 := hu.2
      (with_reducible refine asked_value (w1 := w') (v := .tuple #[u, .int .i64 0]) ?_ ?_ ?_)
      · simp only [Region.wanted]
      · simp [execOp, Act.eval, Act.put, go_sem, h1]
      · exact ⟨Below.refl _ _, ⟨u, rfl, h2⟩, hbx'⟩
    case refine_6 =>
      intro D sp w' hD hW hdp hbx'
      have hx : ∃ u, sp 4 = .tuple #[u, .int .i64 0] ∧ BytesVal (beOf N (bsize N)) w.heap.size u w' := (hdp 4 (List.mem_of_elem_eq_true (by kernel_rfl))).2
      (with_reducible refine Exists.elim hx fun u hu => ?_)
      have h1 := hu.1
      have h2 := hu.2
      (with_reducible refine asked_value (w1 := w') (v := u) ?_ ?_ ?_)
      · simp only [Region.wanted]
      · simp [execOp, Act.eval, Act.put, go_sem, h1]
      · exact ⟨Below.refl _ _, h2, hbx'⟩
    case refine_7 =>
      intro D sp w' hD hW hdp hbx'
      have hx : ∃ u, sp 4 = .tuple #[u, .int .i64 0] ∧ BytesVal (beOf N (bsize N)) w.heap.size u w' := (hdp 4 (List.mem_of_elem_eq_true (by kernel_rfl))).2
      (with_reducible refine Exists.elim hx fun u hu => ?_)
      have h1 := hu.1
      have h2 := hu.2
      (with_reducible refine asked_value (w1 := w') (v := .int .i64 0) ?_ ?_ ?_)
      · simp only [Region.wanted]
      · simp [execOp, Act.eval, Act.put, go_sem, h1]
      · exact ⟨Below.refl _ _, rfl, hbx'⟩
    case refine_8 =>
      intro D sp w' hD hW hdp hbx'
      have h2 : BytesVal (beOf N (bsize N)) w.heap.size (sp 5) w' := (hdp 5 (List.mem_of_elem_eq_true (by kernel_rfl))).2
      (with_reducible refine asked_value (w1 := w') (v := sp 5) ?_ ?_ ?_)
      · simp only [Region.wanted]
      · simp [execOp, Act.eval, Act.put, go_sem]
      · exact ⟨Below.refl _ _, h2, hbx'⟩
    case refine_9 =>
      intro D sp w' hD hW hdp hbx'
      have h2 : sp 6 = .int .i64 0 := (hdp 6 (List.mem_of_elem_eq_true (by kernel_rfl))).2
      (with_reducible refine asked_value (w1 := w') (v := .int .i64 0) ?_ ?_ ?_)
      · simp only [Region.wanted]
      · simp [execOp, Act.eval, Act.put, go_sem, h2]
      · exact ⟨Below.refl _ _, rfl, hbx'⟩
    all_goals
      intro D sp w' hD hW hdp hbx'
      have c0 := hbx'.c0
      simp [asked, Region.wanted, Oper.gives, execOp, Act.eval, Act.put, go_sem, c0]
  · intro sp w' hsp hbx'
    have h7 : BytesVal (beOf N (bsize N)) w.heap.size (sp 7) w' := hsp 7 rfl
    clear hsp
    simp only [frameOf, Nat.reduceAdd]
    generalize sp 7 = u at *
    go_simp
    go_wp2
    go_ret
    exact ⟨_, rfl, h7, hbx'.bel⟩

end Go.Proofs.Ytoleblefdmdbjaa
