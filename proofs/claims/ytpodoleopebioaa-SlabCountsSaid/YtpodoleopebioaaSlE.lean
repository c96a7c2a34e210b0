/- A sector is inked: Ink. -/
import Derived.Test.YtpodoleopebioaaSlD
namespace Go.Proofs.Ytpodoleopebioaa
open Go Go.RowKit Go.Maps Go.Proofs.Ytpodoleopebioaa.Flow
set_option maxRecDepth 100000

/-- The sector's entry in the map, stored. -/
theorem SlabAt.putInk {w : World} {b g m : Nat} {S : SM} (h : SlabAt w b g m S) {K : Nat} (hk : K < S.n) {bs : List Nat} (hl : bs.length = 64) (h8 : Bytes8 bs) {A : Array Value} (hA : (bs.map fun (x : Nat) => Value.int .u8 x).toArray = A) :
    ∃ w', (Instr.mapUpdate 61 (.map (some m)) (.int .i64 (K : Nat)) (.agg A)).run Try.prog w = .ok () w' ∧ SlabAt w' b g m { S with ink := fun j => if j = K then some bs else S.ink j } ∧ Oth b g m w w' := by
  subst hA
  have hn := h.ok.n4096
  obtain ⟨w', hr, h1, h2⟩ := h.ink.put (by unfold maxLen; omega) Try.underlying61 (wf_at hn (by omega) (by omega : (K : Int) < S.n)) (faceV bs)
  obtain ⟨a1, a2, a3⟩ := h.apart
  have hok : SM.Ok { S with ink := fun j => if j = K then some bs else S.ink j } := by
    refine ⟨h.ok.n4, hn, h.ok.bur, fun j x e => ?_, h.ok.sup, h.ok.made⟩
    have e' : (if j = K then some bs else S.ink j) = some x := e
    split at e'
    · rename_i hj
      cases e'
      exact ⟨by show j < S.n; omega, hl, h8⟩
    · exact h.ok.ink j x e'
  refine ⟨w', hr, ⟨hok, ?_, ?_, ?_⟩, Oth.grown h2 (.inr (.inr rfl))⟩
  · rw [h2.block b h.lts.1 (fun e => by cases e; exact a2 rfl)]; exact h.blk
  · unfold Blk
    rw [h2.block g h.lts.2.1 (fun e => by cases e; exact a3 rfl)]; exact h.row
  · have e : inkF { S with ink := fun j => if j = K then some bs else S.ink j } = fun y => if y = (K : Int) then some (faceV bs) else inkF S y := by
      funext y
      show (if 0 ≤ y then (if y.toNat = K then some bs else S.ink y.toNat).map faceV else none) = _
      by_cases hy : y = (K : Int)
      · subst hy; simp
      · rw [if_neg hy]
        unfold inkF
        by_cases h0 : 0 ≤ y
        · rw [if_pos h0, if_pos h0, if_neg (by omega)]
        · rw [if_neg h0, if_neg h0]
    show MapIs w' m S.n (inkF { S with ink := fun j => if j = K then some bs else S.ink j })
    have h3 := h1.tight (n := S.n) (fun x v e9 => inkF_in hok x v (by rw [e]; exact e9))
    rw [e]; exact h3

theorem array_at (w : World) (pa : Addr) (c : Nat) : (Instr.arrayAt 66 (.slice (some pa) 64 c)).run Try.prog w = .ok (.pointer (some pa)) w := by
  simp [Instr.arrayAt, run_underlying Try.underlying66, Result.andThen_ok]

/-- The first 64 bytes of a row, loaded as a face. -/
theorem load_bytes {w : World} {a : Addr} {n c : Nat} {bs : List Nat} (h : Row w .u8 (some a) n c bs) (hl : bs.length = 64) {A : Array Value} (hA : (bs.map fun (x : Nat) => Value.int .u8 x).toArray = A) :
    (loadVar 66 a).run Try.prog w = .ok (.agg A) w := by
  subst hA
  obtain ⟨b, off, e, _, hc⟩ := h.pos (by have := h.len; omega)
  cases e
  refine run_loadVar_cells w ⟨b, off, none⟩ _ (bs.map fun (x : Nat) => Value.int .u8 x) _ (fun j v hj => ?_) Try.underlying66 rfl (by rw [Try.info_face]; simp [hl])
  simp only [List.getElem?_map, Option.map_eq_some_iff] at hj
  obtain ⟨y, hy, rfl⟩ := hj
  rw [add_plain]
  exact hc j y hy

theorem Row.oth {b g m : Nat} {w w' : World} {k : IntKind} {p : Option Addr} {n c : Nat} {xs : List Nat} (h : Row w k p n c xs) (ho : Oth b g m w w') (hp : ∀ q, p = some q → q.block ≠ b ∧ q.block ≠ g ∧ q.block ≠ m) : Row w' k p n c xs := by
  refine ⟨h.len, h.cap, h.max, ?_⟩
  rcases h.at_ with h1 | ⟨b', off, h1, h2, h3⟩
  · exact .inl h1
  · exact .inr ⟨b', off, h1, Nat.lt_of_lt_of_le h2 ho.size, fun i x hx => Mid.cell ho (a := ⟨b', off + i, none⟩) (show b' ≠ b ∧ b' ≠ g ∧ b' ≠ m from hp _ h1) (h3 i x hx)⟩
theorem RowIn.oth {b g m : Nat} {w w' : World} {k : IntKind} {p : Option Addr} {n c : Nat} {xs : List Nat} (h : RowIn w k p n c xs) (ho : Oth b g m w w') (hp : 0 < n → ∀ q, p = some q → q.block ≠ b ∧ q.block ≠ g ∧ q.block ≠ m) : RowIn w' k p n c xs :=
  ⟨h.len, h.cap, h.max, fun h0 => (h.row h0).oth ho (hp h0)⟩

set_option maxHeartbeats 2000000 in
set_option maxRecDepth 100000 in
theorem ink_calls {w : World} {b g m : Nat} {S : SM} (h : SlabAt w b g m S) (k : Int) {p : Option Addr} {n c : Nat} {bs : List Nat} (hp : RowIn w .u8 p n c bs) (h8 : Bytes8 bs) (hne : ∀ q, p = some q → q.block ≠ b ∧ q.block ≠ g ∧ q.block ≠ m) :
    Calls Try.prog 12 #[.pointer (some ⟨b, 0, none⟩), .int .i64 k, .slice p n c] w fun e w' => e = .returned (.int .i64 (S.put k bs).1) ∧ SlabAt w' b g m (S.put k bs).2 ∧ Oth b g m w w' := by
  have HR : Hold _ := ⟨reach_calls h k⟩
  have HS : Hold _ := ⟨h⟩
  obtain ⟨R, hR⟩ : ∃ R, S.reach k = R := ⟨_, rfl⟩
  have HRE : Hold _ := ⟨hR⟩
  by_cases h0 : R = 0
  · subst h0
    obtain ⟨hs, hk0, hk1⟩ := SM.reach_zero hR
    obtain ⟨K, rfl⟩ : ∃ K : Nat, k = K := ⟨k.toNat, by omega⟩
    have hlen := hp.len
    have hmax := hp.max
    have hcap := hp.cap
    by_cases hn : n = 64
    · subst hn
      have HP : Hold (S.put (K : Int) bs = (0, S.inkAt K bs)) := ⟨by unfold SM.put; rw [hR, if_neg (by decide), if_neg (by omega), Int.toNat_natCast]⟩
      have HROW : Hold _ := ⟨hp.row (by omega)⟩
      obtain ⟨pb, po, e, _, _⟩ := HROW.out.pos (by omega)
      obtain ⟨pa, rfl⟩ : ∃ pa, p = some pa := ⟨_, e⟩
      have HL : Hold (bs.length = 64) := ⟨by omega⟩
      have HNE : Hold _ := ⟨hne⟩
      have H8 : Hold _ := ⟨h8⟩
      have HK : Hold _ := ⟨(show K < S.n by omega)⟩
      have HST : Hold _ := ⟨stroke_calls h hs⟩
      obtain ⟨A, hA⟩ : ∃ A, (bs.map fun (x : Nat) => Value.int .u8 x).toArray = A := ⟨_, rfl⟩
      have HA : Hold _ := ⟨hA⟩
      clear h hp h8 hne hR hs hk0 hk1 hlen hmax e hA
      go_enter Try.func12, Try.ntmps12
      go_wp2_with fail
      refine HR.out.mono ?_
      rintro e w1 ⟨rfl, rfl⟩
      rw [HRE.out]
      go_wp2_with fail
      refine HST.out.mono ?_
      rintro e wx ⟨rfl, hsx, hox⟩
      have HSX : Hold _ := ⟨hsx⟩
      have HOX : Hold _ := ⟨hox⟩
      have HLD : Hold (∀ w2, Oth b g m wx w2 → (loadVar 66 pa).run Try.prog w2 = .ok (.agg A) w2) := ⟨fun w2 ho => load_bytes ((HROW.out.oth HOX.out HNE.out).oth ho HNE.out) HL.out HA.out⟩
      have HPUT : Hold (∀ w2, SlabAt w2 b g m S.stroke → ∀ C : Prop, (∀ w', (Instr.mapUpdate 61 (.map (some m)) (.int .i64 (K : Nat)) (.agg A)).run Try.prog w2 = .ok () w' → SlabAt w' b g m (S.inkAt K bs) → Oth b g m w2 w' → C) → C) := ⟨fun w2 hs2 C hC => let ⟨w', h1, h2, h3⟩ := hs2.putInk HK.out HL.out H8.out HA.out; hC w' h1 h2 h3⟩
      obtain ⟨S1, hS1⟩ : ∃ S1, S.stroke = S1 := ⟨_, rfl⟩
      obtain ⟨S', hS'⟩ : ∃ S', S.inkAt K bs = S' := ⟨_, rfl⟩
      rw [hS1, hS'] at HPUT
      rw [hS1] at HSX
      rw [hS'] at HP
      clear hsx hox hS1 hS' HST HL H8 HK HROW HA
      go_wp2
      refine wp_region_duties (by kernel_rfl) (by kernel_rfl)
        [some (.pointer (some ⟨b, 0, none⟩)), some (.pointer (some ⟨b, 0, none⟩)), some (.pointer (some ⟨b, 1, none⟩)), some (.map (some m)), some (.int .i64 (K : Nat)), some (.slice (some pa) 64 c), some (.pointer (some pa)), some (.agg A), none]
        [false, false, false, false, false, false, false, false, true] rfl
        (fun w1 w2 => True)
        (fun D w' => SlabAt w' b g m (cond (D 8) S' S1) ∧ Oth b g m wx w')
        (fun i v w' => match i with
          | 8 => True
          | _ => True)
        ?_ ⟨HSX.out.later (Below.refl _ _).drew, Oth.of (Below.refl _ _).drew⟩ ?_ ?_
      · intro i v w1 w2 hf hb
        split at hf
        · exact hf
        · trivial
      · simp only [Duties, Nat.reduceAdd]
        refine ⟨?_, ?_, ?_, ?_, ?_, ?_, ?_, ?_, ?_, trivial⟩
        case refine_1 =>
          intro D sp w' hD hW hdp hbx'
          (with_reducible refine asked_value (w1 := w') (v := .pointer (some ⟨b, 0, none⟩)) ?_ ?_ ?_)
          · first | (simp only [Region.wanted]; done) | simp [Region.wanted, yielded, Act.put, go_sem]
          · simp [execOp, Act.eval, go_sem]
          · exact ⟨rfl, rfl⟩
        case refine_2 =>
          intro D sp w' hD hW hdp hbx'
          (with_reducible refine asked_value (w1 := w') (v := .pointer (some ⟨b, 0, none⟩)) ?_ ?_ ?_)
          · first | (simp only [Region.wanted]; done) | simp [Region.wanted, yielded, Act.put, go_sem]
          · simp [execOp, Act.eval, Act.put, go_sem]
          · exact ⟨rfl, rfl⟩
        case refine_3 =>
          intro D sp w' hD hW hdp hbx'
          (with_reducible refine asked_value (w1 := w') (v := .pointer (some ⟨b, 1, none⟩)) ?_ ?_ ?_)
          · first | (simp only [Region.wanted]; done) | simp [Region.wanted, yielded, Act.put, go_sem]
          · simp [execOp, Act.eval, Act.put, go_sem]
          · exact ⟨rfl, rfl⟩
        case refine_4 =>
          intro D sp w' hD hW hdp hbx'
          have c1 := hbx'.1.cells.2.1
          (with_reducible refine asked_value (w1 := w') (v := .map (some m)) ?_ ?_ ?_)
          · first | (simp only [Region.wanted]; done) | simp [Region.wanted, yielded, Act.put, go_sem]
          · simp [execOp, Act.eval, Act.put, go_sem, c1]
          · exact ⟨rfl, rfl⟩
        case refine_5 =>
          intro D sp w' hD hW hdp hbx'
          (with_reducible refine asked_value (w1 := w') (v := .int .i64 (K : Nat)) ?_ ?_ ?_)
          · first | (simp only [Region.wanted]; done) | simp [Region.wanted, yielded, Act.put, go_sem]
          · simp [execOp, Act.eval, Act.put, go_sem]
          · exact ⟨rfl, rfl⟩
        case refine_6 =>
          intro D sp w' hD hW hdp hbx'
          (with_reducible refine asked_value (w1 := w') (v := .slice (some pa) 64 c) ?_ ?_ ?_)
          · first | (simp only [Region.wanted]; done) | simp [Region.wanted, yielded, Act.put, go_sem]
          · simp [execOp, Act.eval, Act.put, go_sem]
          · exact ⟨rfl, rfl⟩
        case refine_7 =>
          intro D sp w' hD hW hdp hbx'
          (with_reducible refine asked_value (w1 := w') (v := .pointer (some pa)) ?_ ?_ ?_)
          · first | (simp only [Region.wanted]; done) | simp [Region.wanted, yielded, Act.put, go_sem]
          · simp [execOp, Act.eval, Act.put, array_at, Result.andThen_ok]
          · exact ⟨rfl, rfl⟩
        case refine_8 =>
          intro D sp w' hD hW hdp hbx'
          (with_reducible refine asked_value (w1 := w') (v := .agg A) ?_ ?_ ?_)
          · first | (simp only [Region.wanted]; done) | simp [Region.wanted, yielded, Act.put, go_sem]
          · have cl := HLD.out w' hbx'.2
            simp [execOp, Act.eval, Act.put, Instr.loadAt, Instr.sureAddr, Result.andThen_ok, cl]
          · exact ⟨rfl, rfl⟩
        case refine_9 =>
          intro D sp w' hD hW hdp hbx'
          have hs0 : SlabAt w' b g m S1 := by have h9 := hbx'.1; rw [hD] at h9; exact h9
          (with_reducible refine HPUT.out w' hs0 _ (fun w2 hr hs2 ho2 => ?_))
          (with_reducible refine asked_skip (w1 := w2) ?_ ?_ ?_)
          · first | (simp only [Region.wanted]; done) | simp [Region.wanted, yielded, Act.put, go_sem]
          · simp [execOp, Act.eval, Act.put, go_sem, hr, Result.andThen_ok]
          · exact ⟨trivial, trivial, by simp; exact hs2, hbx'.2.trans ho2⟩
      · intro sp w7 hsp hbx'
        have HF1 : Hold (SlabAt w7 b g m S') := ⟨hbx'.1⟩
        have HF2 : Hold (Oth b g m w1 w7) := ⟨HOX.out.trans hbx'.2⟩
        clear hsp hbx'
        simp only [frameOf, Nat.reduceAdd]
        go_simp
        go_wp2
        go_ret
        rw [HP.out]
        exact ⟨rfl, HF1.out, HF2.out⟩
    · have HP : Hold (S.put (K : Int) bs = (3, S)) := ⟨by unfold SM.put; rw [hR, if_neg (by decide), if_pos (by omega)]⟩
      have hn' : ¬ (n : Int) = 64 := by omega
      clear h hp h8 hne hR hs hk0 hk1 hlen hmax hcap hn
      go_enter Try.func12, Try.ntmps12
      go_wp2_with fail
      refine HR.out.mono ?_
      rintro e w1 ⟨rfl, rfl⟩
      rw [HRE.out]
      go_wp2
      go_ret
      rw [HP.out]
      exact ⟨rfl, HS.out, Oth.refl _ _ _ _⟩
  · have HP : Hold (S.put k bs = (R, S)) := ⟨by unfold SM.put; rw [hR, if_pos h0]⟩
    have h9 : ¬ R = 0 := h0
    clear hR h hp h8 hne
    go_enter Try.func12, Try.ntmps12
    go_wp2_with fail
    refine HR.out.mono ?_
    rintro e w1 ⟨rfl, rfl⟩
    rw [HRE.out]
    go_wp2
    go_ret
    rw [HP.out]
    exact ⟨rfl, HS.out, Oth.refl _ _ _ _⟩

end Go.Proofs.Ytpodoleopebioaa
