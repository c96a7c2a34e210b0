/- The inked sectors: Inked. -/
import Derived.Test.YtpodoleopebioaaSlE
import Derived.Test.YtpodoleopebioaaSlLay
namespace Go.Proofs.Ytpodoleopebioaa
open Go Go.RowKit Go.Maps Go.Sort Go.Shelf Go.Proofs.Ytpodoleopebioaa.Flow
set_option maxRecDepth 100000

/-- slices.Sort's two contracts, at the fence that asks nothing. -/
theorem sortsI (m : Nat) : AnyZI.SortsIn Try.prog sortedI_ren Fence.wide m :=
  ⟨fun blk off cap ss W hH hblk hsz => callsIn_wide.2 (AnyM.slices_Sort_int sortI blk off cap ss W hH hblk hsz),
   fun p cap W => callsIn_wide.2 (AnyM.slices_Sort_int_none sortI p cap W)⟩

/-- A slice of the call's own that holds these numbers. -/
def GivesInts (w : World) (zs : List Int) (v : Value) (w' : World) : Prop :=
  w'.ownsRow w.heap.size 3 1 v zs.length (zs.map encZ) ∧ (v = .slice none 0 0 ↔ zs = []) ∧ Below w.heap.size w w'

theorem sorted_inked {S : SM} {ss : List Int} {l : List Int} (h : ss.Perm l) (hl : (S.inked.map fun (j : Nat) => (j : Int)).Perm l) : ss.mergeSort (fun x y => decide (x ≤ y)) = S.inked.map fun (j : Nat) => (j : Int) := by
  have h1 : ss.mergeSort leI = (S.inked.map fun (j : Nat) => (j : Int)).mergeSort leI := mergeSort_of_perm_i (h.trans hl.symm)
  have h2 : (S.inked.map fun (j : Nat) => (j : Int)).Pairwise (fun a b => leI a b = true) := by
    refine List.pairwise_map.2 ((SM.inked_sorted S).imp (fun {a b} hab => ?_))
    simp only [leI, decide_eq_true_eq]; omega
  exact h1.trans (List.mergeSort_of_pairwise h2)

set_option maxHeartbeats 2000000 in
set_option maxRecDepth 100000 in
theorem inked_calls {w : World} {b g m : Nat} {S : SM} (h : SlabAt w b g m S) : Calls Try.prog 16 #[.pointer (some ⟨b, 0, none⟩)] w fun e w' =>
    ∃ v, e = .returned v ∧ GivesInts w (S.inked.map fun (j : Nat) => (j : Int)) v w' := by
  refine (callsIn_wide (n := 6)).1 ?_
  obtain ⟨D0, hown, hat⟩ := h.ink.ex
  have hn := h.ok.n4096
  have hbl := hown.lt
  have hf := inkF_in h.ok
  have hperm := MapIs.keys hown hat hf
  have e0 : ((List.range S.n).filter fun (j : Nat) => (inkF S (j : Int)).isSome) = S.inked := by
    unfold SM.inked
    refine List.filter_congr (fun j _ => ?_)
    cases hi : S.ink j with
    | none => rw [inkF_none hi]; rfl
    | some x => rw [inkF_some hi]; rfl
  rw [e0] at hperm
  have hsz : Maps.size D0 ≤ S.n := hown.size_le
  have hseq : SeqGives Fence.wide 2 Try.prog 44 #[.pointer (some ⟨w.heap.size, 0, none⟩)] encZ (fun ss => ss.Perm (intKeys D0)) (Maps.size D0) (w.alloc (.cells #[.map (some m)] 61)) :=
    AnyZI.keys_gives (ρ := keysF_ren) { keysF with } Fence.wide _ trivial rfl (by omega) w.heap.size m S.n D0 _ (by simp) (by simp) (by
      obtain ⟨es, clock, hb, Ft, hs, hD⟩ := hown
      exact ⟨es, clock, (Below.heap_alloc _ _ m hbl).trans hb, Ft, hs, hD⟩)
  have cK : ∀ mb W, CallsIn Fence.wide 5 Try.prog 35 #[.map mb] W fun e w' => e = .returned (.func (.func 44) #[] #[.pointer (some ⟨W.heap.size, 0, none⟩)]) ∧ w' = W.alloc (.cells #[.map mb] 61) := fun mb W => AnyZI.keys_in keysF Fence.wide 5 trivial rfl mb W
  have cS := AnyZI.sorted_in sortedI Fence.wide 5 trivial trivial trivial trivial rfl (by omega) (sortsI _) (enters_of Try.func43 (by kernel_rfl) rfl) 44 #[.pointer (some ⟨w.heap.size, 0, none⟩)] trivial (enters_of Try.func44 (by kernel_rfl) rfl) _ _ (by unfold maxLen; omega) (by omega) _ hseq
  change CallsIn _ _ Try.prog 34 _ _ _ at cS
  have hfK : Fence.wide.fn 35 := trivial
  have hfS : Fence.wide.fn 34 := trivial
  have c1 := h.cells.2.1
  have HP : Hold _ := ⟨hperm⟩
  clear hperm e0 hsz hseq hat hf hown hbl h
  refine callsIn_of_wp Try.func16 rfl trivial ?_ rfl
  simp only [Try.ntmps16, List.size_toArray, List.length_cons, List.length_nil, Nat.reduceAdd, Nat.reduceSub, Array.replicate_succ, Array.replicate_zero, List.push_toArray, List.append_toArray, List.nil_append, List.cons_append]
  gi_wp2_with (first
    | (gi_at_call 35; refine (cK _ _).mono ?_; rintro e w' ⟨rfl, rfl⟩)
    | (gi_at_call 34; refine cS.mono ?_; rintro e w' ⟨v, ss, rfl, hS, hrow, hnil, hb⟩))
  go_ret
  have e1 := sorted_inked hS HP.out
  have hlen : ss.length = (S.inked.map fun (j : Nat) => (j : Int)).length := (hS.trans HP.out.symm).length_eq
  refine ⟨v, rfl, ?_, ?_, ((Below.refl _ w).alloc (Nat.le_refl _) _).trans (hb.mono (by simp))⟩
  · rw [← e1, List.length_mergeSort]
    exact ownsRow_base_a hrow (by simp)
  · rw [hnil]
    constructor
    · intro e; subst e; exact List.eq_nil_of_length_eq_zero hlen.symm
    · intro e; rw [e] at hlen; exact List.eq_nil_of_length_eq_zero hlen

end Go.Proofs.Ytpodoleopebioaa
