/- What a sector shows: Face. -/
import Derived.Test.YtpodoleopebioaaSlC
namespace Go.Proofs.Ytpodoleopebioaa
open Go Go.RowKit Go.Maps Go.Proofs.Ytpodoleopebioaa.Flow
set_option maxRecDepth 100000

/-- What Face gives. -/
def GivesFace (w : World) (S : SM) (k : Int) (e : Ending) (w' : World) : Prop :=
  (S.reach k ≠ 0 ∧ e = .returned (.tuple #[.slice none 0 0, .int .i64 (S.reach k)]) ∧ w' = w) ∨
  (S.reach k = 0 ∧ ∃ q, e = .returned (.tuple #[.slice (some ⟨q, 0, none⟩) 64 64, .int .i64 0]) ∧ w.heap.size ≤ q ∧ Blk w' q 66 .u8 (S.shown k.toNat) ∧ Below w.heap.size w w')

theorem zero_face (w : World) : (zeroValue 66).run Try.prog w = .ok (faceV (plainN 0)) w := Try.zeroValue66 w

theorem wf_at {n : Nat} {k : Int} (hn : n ≤ 4096) (h0 : 0 ≤ k) (h1 : k < n) : (Lit.int .i64 k).wf = true := by
  have h2 : IntKind.i64.min = -9223372036854775808 := by decide
  have h3 : IntKind.i64.max = 9223372036854775807 := by decide
  simp only [Lit.wf, Bool.and_eq_true, decide_eq_true_eq]
  omega

set_option maxHeartbeats 1000000 in
set_option maxRecDepth 100000 in
theorem face_calls {w : World} {b g m : Nat} {S : SM} (h : SlabAt w b g m S) (k : Int) : Calls Try.prog 9 #[.pointer (some ⟨b, 0, none⟩), .int .i64 k] w fun e w' => GivesFace w S k e w' := by
  have HR : Hold _ := ⟨reach_calls h k⟩
  obtain ⟨R, hR⟩ : ∃ R, S.reach k = R := ⟨_, rfl⟩
  have HRE : Hold _ := ⟨hR⟩
  by_cases h0 : R = 0
  · subst h0
    obtain ⟨hs, hk0, hk1⟩ := SM.reach_zero hR
    obtain ⟨K, rfl⟩ : ∃ K : Nat, k = K := ⟨k.toNat, by omega⟩
    have hwf := wf_at h.ok.n4096 hk0 hk1
    have hlk := h.ink.look_ok (Try.underlying61) (zero_face w) hwf
    obtain ⟨c0, c1, c2, c3⟩ := h.cells
    clear c2 c3
    have HS : Hold _ := ⟨h⟩
    have HL : Hold _ := ⟨h.lts⟩
    clear h hs
    cases hi : S.ink K with
    | none =>
      rw [inkF_none hi] at hlk
      simp only [Option.getD_none, Option.isSome_none] at hlk
      obtain ⟨A, hA⟩ : ∃ A, ((plainN 0).map fun (x : Nat) => Value.int .u8 x).toArray = A := ⟨_, rfl⟩
      have hlk' : (Instr.lookup 61 (Value.map (some m)) (Value.int IntKind.i64 K) true).run Try.prog w = Result.ok (Value.tuple #[.agg A, Value.bool false]) w := by rw [hlk, ← hA]; rfl
      obtain ⟨A2, hA2⟩ : ∃ A, ((S.bur K).map fun (x : Nat) => Value.int .u8 x).toArray = A := ⟨_, rfl⟩
      have HA : Hold _ := ⟨hA⟩
      have HA2 : Hold _ := ⟨hA2⟩
      have HSH : Hold (S.shown K = S.bur K) := ⟨by unfold SM.shown; rw [hi]; rfl⟩
      clear hA hA2 hi hlk
      go_enter Try.func9, Try.ntmps9
      go_wp2_with fail
      refine HR.out.mono ?_
      rintro e w1 ⟨rfl, rfl⟩
      rw [HRE.out]
      go_wp2_with (refine wpList_store_face rfl _ _ rfl _ rfl _ (heap_alloc_new _ _) (by rfl) _ rfl _ (plainN_len 0) HA.out ?_; intro w2 hb2 hm2; refine Paused.out ?_)
      have hbl : Below w1.heap.size w1 w2 := ((Below.refl w1.heap.size w1).alloc (Nat.le_refl _) _).trans (hm2.below (Nat.le_refl _) (by simp))
      have HS2 : Hold _ := ⟨HS.out.later hbl⟩
      have c0' := HS2.out.cells.1
      have hk2 : K < S.n := by omega
      have hld := HS2.out.load hk2
      have HBL : Hold _ := ⟨hbl⟩
      have HBK : Hold _ := ⟨hb2⟩
      obtain ⟨Q, hQ⟩ : ∃ Q, w1.heap.size = Q := ⟨_, rfl⟩
      have HQ : Hold _ := ⟨hQ⟩
      rw [hQ] at hb2
      have HBK : Hold _ := ⟨hb2⟩
      clear hbl hm2 hb2 c0 c1 hlk'
      refine ⟨?_⟩
      rw [hQ]
      clear hQ
      go_wp2_with (first
        | (refine wpList_load_face rfl _ rfl _ rfl A2 (by rw [← HA2.out]; exact hld) ?_; refine Paused.out ?_)
        | (refine wpList_store_face' rfl _ _ rfl _ rfl _ HBK.out (plainN_len 0) _ rfl _ (HS.out.ok.bur K).1 HA2.out ?_; intro w3 hb3 hm3; refine Paused.out ?_))
      refine ⟨?_⟩
      go_wp2_with (first
        | (refine wpList_store_face' rfl _ _ rfl _ rfl _ HBK.out (plainN_len 0) _ rfl _ (HS.out.ok.bur K).1 HA2.out ?_; intro w3 hb3 hm3; refine Paused.out ?_))
      refine ⟨?_⟩
      have HB3 : Hold _ := ⟨hb3⟩
      have HM3 : Hold _ := ⟨hm3⟩
      clear hb3 hm3 c0' hld hk2
      go_wp2
      exact bodyPost_ret (v := .tuple #[.slice (some ⟨Q, 0, none⟩) 64 64, .int .i64 0]) (by simp [results, Try.results9, go_sem]) rfl
        (.inr ⟨HRE.out, Q, rfl, by rw [HQ.out]; exact Nat.le_refl _, by rw [Int.toNat_natCast, HSH.out]; exact HB3.out, HBL.out.trans (HM3.out.below (by rw [HQ.out]; exact Nat.le_refl _) (Nat.le_trans (Nat.le_refl _) HBL.out.size))⟩)
    | some x =>
      rw [inkF_some hi] at hlk
      simp only [Option.getD_some, Option.isSome_some] at hlk
      obtain ⟨A, hA⟩ : ∃ A, (x.map fun (x : Nat) => Value.int .u8 x).toArray = A := ⟨_, rfl⟩
      have hlk' : (Instr.lookup 61 (Value.map (some m)) (Value.int IntKind.i64 K) true).run Try.prog w = Result.ok (Value.tuple #[.agg A, Value.bool true]) w := by rw [hlk, ← hA]; rfl
      have HA : Hold _ := ⟨hA⟩
      have HX : Hold _ := ⟨(HS.out.ok.ink K x hi).2.1⟩
      have HSH : Hold (S.shown K = x) := ⟨by unfold SM.shown; rw [hi]; rfl⟩
      clear hA hi hlk
      go_enter Try.func9, Try.ntmps9
      go_wp2_with fail
      refine HR.out.mono ?_
      rintro e w1 ⟨rfl, rfl⟩
      rw [HRE.out]
      go_wp2_with (refine wpList_store_face rfl _ _ rfl _ rfl _ (heap_alloc_new _ _) (by rfl) _ rfl _ HX.out HA.out ?_; intro w2 hb2 hm2; refine Paused.out ?_)
      have hbl : Below w1.heap.size w1 w2 := ((Below.refl w1.heap.size w1).alloc (Nat.le_refl _) _).trans (hm2.below (Nat.le_refl _) (by simp))
      have HBL : Hold _ := ⟨hbl⟩
      obtain ⟨Q, hQ⟩ : ∃ Q, w1.heap.size = Q := ⟨_, rfl⟩
      have HQ : Hold _ := ⟨hQ⟩
      rw [hQ] at hb2
      have HB3 : Hold _ := ⟨hb2⟩
      clear hbl hm2 hb2 c0 c1 hlk'
      refine ⟨?_⟩
      rw [hQ]
      clear hQ
      go_wp2
      exact bodyPost_ret (v := .tuple #[.slice (some ⟨Q, 0, none⟩) 64 64, .int .i64 0]) (by simp [results, Try.results9, go_sem]) rfl
        (.inr ⟨HRE.out, Q, rfl, by rw [HQ.out]; exact Nat.le_refl _, by rw [Int.toNat_natCast, HSH.out]; exact HB3.out, HBL.out⟩)
  · go_enter Try.func9, Try.ntmps9
    go_wp2_with fail
    refine HR.out.mono ?_
    rintro e w1 ⟨rfl, rfl⟩
    rw [HRE.out]
    have h9 : ¬ R = 0 := h0
    clear hR
    go_wp2
    exact bodyPost_ret (v := .tuple #[.slice none 0 0, .int .i64 R]) (by simp [results, Try.results9, go_sem]) rfl (.inl ⟨by rw [HRE.out]; exact h0, by rw [HRE.out], rfl⟩)

end Go.Proofs.Ytpodoleopebioaa
