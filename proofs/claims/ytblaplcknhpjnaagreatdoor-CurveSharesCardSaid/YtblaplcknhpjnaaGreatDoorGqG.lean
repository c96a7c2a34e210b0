/- Whether a group's parameters are too long; New of a group, of the program. -/
import Derived.Test.YtblaplcknhpjnaaGreatDoorCpF
import Derived.Test.YtblaplcknhpjnaaGreatDoorCpD
import Derived.Test.YtblaplcknhpjnaaGreatDoorCpE
import Derived.Test.YtblaplcknhpjnaaGreatDoorCertK
import Derived.Test.YtblaplcknhpjnaaGreatDoorGrpN
import Derived.Test.YtblaplcknhpjnaaGreatDoorGqF
/-! Whether a step's primes are known, of the program. -/
namespace Go.Proofs.YtblaplcknhpjnaaGreatDoor
open Go Go.RowKit Go.Proofs.YtblaplcknhpjnaaGreatDoor.Flow
set_option maxRecDepth 100000

/-- What areKnown asks. -/
def KnownAll (bs ps : List Nat) : Prop := ps ≠ [] ∧ ps.length ≤ 32 ∧ ∀ i P, ps[i]? = some P → KnownP bs P ∧ P ∉ ps.take i

open Classical in
set_option maxHeartbeats 4000000 in
set_option maxRecDepth 1000000 in
theorem areknown_calls {w : World} {e : Nat} {pp : Option Addr} {np cp : Nat} {ps : List Nat} {pb : Option Addr} {nb cb : Nat} {bs : List Nat} (hp : PList w e pp np cp ps) (hb : PList w e pb nb cb bs) (he : e ≤ 200) :
    Calls Tryz.prog 149 #[.slice pp np cp, .slice pb nb cb] w fun en w' => en = .returned (.bool (decide (KnownAll bs ps))) ∧ Below w.heap.size w w' := by
  have hNmax : np ≤ 9223372036854775807 := Nat.le_trans hp.cap hp.max
  have hcap := hp.cap
  have hcmax := hp.max
  have HP : Hold _ := ⟨hp⟩
  have HLP : Hold _ := ⟨hp.len⟩
  have HB0 : Hold _ := ⟨hb⟩
  obtain ⟨ANS, hANS⟩ : ∃ X, decide (KnownAll bs ps) = X := ⟨_, rfl⟩
  have HANS : Hold _ := ⟨hANS⟩
  rw [hANS]
  clear hANS hp hb
  by_cases h1 : np = 0
  · have HF : Hold (ANS = false) := ⟨by
      rw [← HANS.out]
      exact decide_eq_false fun h => h.1 (List.eq_nil_of_length_eq_zero (by rw [← HLP.out]; exact h1))⟩
    subst h1
    go_enter Tryz.func149, Tryz.ntmps149
    go_wp2
    go_ret
    exact ⟨by rw [HF.out]; rfl, Below.refl _ _⟩
  by_cases h2 : 32 < np
  · have HF : Hold (ANS = false) := ⟨by
      rw [← HANS.out]
      exact decide_eq_false fun h => by have := h.2.1; have := HLP.out; omega⟩
    have h1' : ((np : Int) == 0) = false := by rw [beq_eq_false_iff_ne]; omega
    have h2' : (32 : Int) < np := by omega
    go_enter Tryz.func149, Tryz.ntmps149
    go_wp2
    go_ret
    exact ⟨by rw [HF.out]; rfl, Below.refl _ _⟩
  have h1' : ((np : Int) == 0) = false := by rw [beq_eq_false_iff_ne]; omega
  have h2' : ¬ (32 : Int) < np := by omega
  go_enter Tryz.func149, Tryz.ntmps149
  go_wp2
  go_loopw [5, 6, 17] (fun _ _ iv wr => ∃ (k : Nat), k ≤ np ∧ iv = .int .i64 k ∧ Hold (Below w.heap.size w wr) ∧ Hold (∀ i P, i < k → ps[i]? = some P → KnownP bs P ∧ P ∉ ps.take i)) (fun _ _ iv _ => np - (intOf iv).toNat)
  case atStart => exact ⟨0, by omega, rfl, ⟨Below.refl _ _⟩, ⟨fun i P h => by omega⟩⟩
  case round =>
    obtain ⟨k, hk, rfl, HBr, HD⟩ := hrel
    by_cases hkn : k < np
    · obtain ⟨PP, hPk⟩ : ∃ P, ps[k]? = some P := ⟨ps[k]'(by rw [← HLP.out]; exact hkn), List.getElem?_eq_getElem _⟩
      have HPl : Hold _ := ⟨HP.out.below HBr.out⟩
      obtain ⟨b, off, rfl, hb, hc⟩ := HPl.out.at_ (by omega)
      obtain ⟨q, m, d, hx, hnx, hlim⟩ := hc k PP hPk
      have hkn' : (k : Int) < np := by omega
      have hkc : ¬ cp < k := by omega
      have HPk : Hold _ := ⟨hPk⟩
      have hba : Below wr.heap.size wr (wr.alloc (.cells #[.slice q m d] 36)) := (Below.refl _ _).alloc (Nat.le_refl _) _
      have HBP : Hold _ := ⟨NatBox.made wr (.slice q m d)⟩
      obtain ⟨wb, hwb⟩ : ∃ wb, wr.alloc (.cells #[.slice q m d] 36) = wb := ⟨_, rfl⟩
      rw [hwb] at hba HBP
      have HF : Hold _ := ⟨(Fit.of hnx hlim).below hba⟩
      have HBwb : Hold _ := ⟨bstep HBr.out hba⟩
      have HL : Hold _ := ⟨HB0.out.below HBwb.out⟩
      have HT : Hold _ := ⟨(HPl.out.take (Nat.le_of_lt hkn)).below hba⟩
      clear hc hnx hlim hPk hba
      by_cases hkp : KnownP bs PP
      · have HKN : Hold (decide (KnownP bs PP) = true) := ⟨decide_eq_true hkp⟩
        obtain ⟨CC, hCC⟩ : ∃ X, decide (PP ∈ ps.take k) = X := ⟨_, rfl⟩
        have HC : Hold _ := ⟨hCC⟩
        have HKP : Hold _ := ⟨hkp⟩
        clear hCC hkp
        go_wp2
        refine wp_region_duties (by kernel_rfl) (by kernel_rfl)
          [some (.agg #[.slice q m d]), some (.slice pb nb cb), none, some (.bool false), some (.bool false), some (.slice (some ⟨b, off, none⟩) np cp), some (.int .i64 k), some (.slice (some ⟨b, off, none⟩) k cp), some (.agg #[.slice q m d]), none, some (.bool CC)]
          [false, false, true, false, false, false, false, false, false, true, false] rfl
          (fun w1 w2 => Below w1.heap.size w1 w2)
          (fun _ w' => Below wb.heap.size wb w')
          (fun i v w' => match i with
            | 2 => v = .bool true
            | 9 => v = .bool CC
            | _ => True)
          ?_ (Below.refl _ _).drew ?_ ?_
        · intro i v w1 w2 hf hb
          split at hf
          · exact hf
          · exact hf
          · trivial
        · simp only [Duties, Nat.reduceAdd]
          refine ⟨?_, ?_, ?_, ?_, ?_, ?_, ?_, ?_, ?_, ?_, ?_, trivial⟩
          case refine_1 =>
            intro D sp w' hD hW hdp hbx'
            have c0 := (HBP.out.below hbx' HBP.out.lt).cell
            (with_reducible refine asked_value (w1 := w') (v := .agg #[.slice q m d]) ?_ ?_ ?_)
            · first | (simp only [Region.wanted]; done) | simp [Region.wanted, yielded, Act.put, go_sem]
            · simp [execOp, Act.eval, go_sem, c0]
            · exact ⟨rfl, rfl⟩
          case refine_2 =>
            intro D sp w' hD hW hdp hbx'
            (with_reducible refine asked_value (w1 := w') (v := .slice pb nb cb) ?_ ?_ ?_)
            · first | (simp only [Region.wanted]; done) | simp [Region.wanted, yielded, Act.put, go_sem]
            · simp [execOp, Act.eval, Act.put, go_sem]
            · exact ⟨rfl, rfl⟩
          case refine_3 =>
            intro D sp w' hD hW hdp hbx'
            (with_reducible refine asked_call (w1 := w') (f := 157) (args := #[.agg #[.slice q m d], .slice pb nb cb]) ?_ ?_ ?_)
            · first | (simp only [Region.wanted]; done) | simp [Region.wanted, yielded, Act.put, go_sem]
            · simp [Act.eval, Act.put, go_sem]
            · refine (known_calls (HF.out.below hbx') (HL.out.below hbx') he).mono ?_
              rintro en w9 ⟨rfl, hb⟩
              rw [HKN.out]
              exact ⟨_, rfl, hb, rfl, bstep hbx' hb⟩
          case refine_4 =>
            intro D sp w' hD hW hdp hbx'
            have k2 : (sp 2) = .bool true := (hdp 2 (List.mem_of_elem_eq_true (by kernel_rfl))).2
            (with_reducible refine asked_value (w1 := w') (v := .bool false) ?_ ?_ ?_)
            · first | (simp only [Region.wanted]; done) | simp [Region.wanted, yielded, Act.put, go_sem, k2]
            · simp [execOp, Act.eval, Act.put, go_sem, k2]
            · exact ⟨rfl, rfl⟩
          case refine_5 =>
            intro D sp w' hD hW hdp hbx'
            (with_reducible refine asked_value (w1 := w') (v := .bool false) ?_ ?_ ?_)
            · first | (simp only [Region.wanted]; done) | simp [Region.wanted, yielded, Act.put, go_sem]
            · simp [execOp, Act.eval, Act.put, go_sem]
            · exact ⟨rfl, rfl⟩
          case refine_6 =>
            intro D sp w' hD hW hdp hbx'
            (with_reducible refine asked_value (w1 := w') (v := .slice (some ⟨b, off, none⟩) np cp) ?_ ?_ ?_)
            · first | (simp only [Region.wanted]; done) | simp [Region.wanted, yielded, Act.put, go_sem]
            · simp [execOp, Act.eval, Act.put, go_sem]
            · exact ⟨rfl, rfl⟩
          case refine_7 =>
            intro D sp w' hD hW hdp hbx'
            (with_reducible refine asked_value (w1 := w') (v := .int .i64 k) ?_ ?_ ?_)
            · first | (simp only [Region.wanted]; done) | simp [Region.wanted, yielded, Act.put, go_sem]
            · simp [execOp, Act.eval, Act.put, go_sem]
            · exact ⟨rfl, rfl⟩
          case refine_8 =>
            intro D sp w' hD hW hdp hbx'
            (with_reducible refine asked_value (w1 := w') (v := .slice (some ⟨b, off, none⟩) k cp) ?_ ?_ ?_)
            · first | (simp only [Region.wanted]; done) | simp [Region.wanted, yielded, Act.put, go_sem]
            · simp [execOp, Act.eval, Act.put, go_sem, hkc]
            · exact ⟨rfl, rfl⟩
          case refine_9 =>
            intro D sp w' hD hW hdp hbx'
            have c0 := (HBP.out.below hbx' HBP.out.lt).cell
            (with_reducible refine asked_value (w1 := w') (v := .agg #[.slice q m d]) ?_ ?_ ?_)
            · first | (simp only [Region.wanted]; done) | simp [Region.wanted, yielded, Act.put, go_sem]
            · simp [execOp, Act.eval, Act.put, go_sem, c0]
            · exact ⟨rfl, rfl⟩
          case refine_10 =>
            intro D sp w' hD hW hdp hbx'
            (with_reducible refine asked_call (w1 := w') (f := 158) (args := #[.slice (some ⟨b, off, none⟩) k cp, .agg #[.slice q m d]]) ?_ ?_ ?_)
            · first | (simp only [Region.wanted]; done) | simp [Region.wanted, yielded, Act.put, go_sem]
            · simp [Act.eval, Act.put, go_sem]
            · refine (contains_calls w' e _ k cp (ps.take k) _ PP (HT.out.below hbx') (HF.out.below hbx') (by omega)).mono ?_
              rintro en w9 ⟨rfl, hb⟩
              rw [HC.out]
              exact ⟨_, rfl, hb, rfl, bstep hbx' hb⟩
          case refine_11 =>
            intro D sp w' hD hW hdp hbx'
            have k9 : (sp 9) = .bool CC := (hdp 9 (List.mem_of_elem_eq_true (by kernel_rfl))).2
            (with_reducible refine asked_value (w1 := w') (v := .bool CC) ?_ ?_ ?_)
            · first | (simp only [Region.wanted]; done) | simp [Region.wanted, yielded, Act.put, go_sem, k9]
            · simp [execOp, Act.eval, Act.put, go_sem, k9]
            · exact ⟨rfl, rfl⟩
        · intro sp w7 hsp hbx'
          have HBe : Hold _ := ⟨bstep HBwb.out hbx'⟩
          clear hsp hbx'
          simp only [frameOf, Nat.reduceAdd]
          generalize sp 2 = y2 at *
          generalize sp 9 = y9 at *
          go_simp
          cases CC with
          | true =>
            have HA : Hold (ANS = false) := ⟨by
              rw [← HANS.out]
              exact decide_eq_false fun h => (h.2.2 k PP HPk.out).2 (of_decide_eq_true HC.out)⟩
            go_wp2
            go_ret
            exact ⟨by rw [HA.out]; rfl, HBe.out⟩
          | false =>
            have HD' : Hold (∀ i P, i < k + 1 → ps[i]? = some P → KnownP bs P ∧ P ∉ ps.take i) := ⟨fun i P hi hP => by
              rcases (by omega : i < k ∨ i = k) with h | rfl
              · exact HD.out i P h hP
              · have := HPk.out
                rw [hP] at this
                cases this
                exact ⟨HKP.out, of_decide_eq_false HC.out⟩⟩
            go_wp2
            go_roundw
            case rel => exact ⟨k + 1, by omega, by go_num, HBe, HD'⟩
            case measure => simp [intOf]; omega
      · have HKN : Hold (decide (KnownP bs PP) = false) := ⟨decide_eq_false hkp⟩
        have HA : Hold (ANS = false) := ⟨by
          rw [← HANS.out]
          exact decide_eq_false fun h => hkp (h.2.2 k PP HPk.out).1⟩
        clear hkp
        go_wp2
        refine wp_region_duties (by kernel_rfl) (by kernel_rfl)
          [some (.agg #[.slice q m d]), some (.slice pb nb cb), none, some (.bool true), some (.bool true), some (undef), some (undef), some (undef), some (undef), some (undef), some (.bool true)]
          [false, false, true, false, false, false, false, false, false, false, false] rfl
          (fun w1 w2 => Below w1.heap.size w1 w2)
          (fun _ w' => Below wb.heap.size wb w')
          (fun i v w' => match i with
            | 2 => v = .bool false
            | _ => True)
          ?_ (Below.refl _ _).drew ?_ ?_
        · intro i v w1 w2 hf hb
          split at hf
          · exact hf
          · trivial
        · simp only [Duties, Nat.reduceAdd]
          refine ⟨?_, ?_, ?_, ?_, ?_, ?_, ?_, ?_, ?_, ?_, ?_, trivial⟩
          case refine_1 =>
            intro D sp w' hD hW hdp hbx'
            have c0 := (HBP.out.below hbx' HBP.out.lt).cell
            (with_reducible refine asked_value (w1 := w') (v := .agg #[.slice q m d]) ?_ ?_ ?_)
            · first | (simp only [Region.wanted]; done) | simp [Region.wanted, yielded, Act.put, go_sem]
            · simp [execOp, Act.eval, go_sem, c0]
            · exact ⟨rfl, rfl⟩
          case refine_2 =>
            intro D sp w' hD hW hdp hbx'
            (with_reducible refine asked_value (w1 := w') (v := .slice pb nb cb) ?_ ?_ ?_)
            · first | (simp only [Region.wanted]; done) | simp [Region.wanted, yielded, Act.put, go_sem]
            · simp [execOp, Act.eval, Act.put, go_sem]
            · exact ⟨rfl, rfl⟩
          case refine_3 =>
            intro D sp w' hD hW hdp hbx'
            (with_reducible refine asked_call (w1 := w') (f := 157) (args := #[.agg #[.slice q m d], .slice pb nb cb]) ?_ ?_ ?_)
            · first | (simp only [Region.wanted]; done) | simp [Region.wanted, yielded, Act.put, go_sem]
            · simp [Act.eval, Act.put, go_sem]
            · refine (known_calls (HF.out.below hbx') (HL.out.below hbx') he).mono ?_
              rintro en w9 ⟨rfl, hb⟩
              rw [HKN.out]
              exact ⟨_, rfl, hb, rfl, bstep hbx' hb⟩
          case refine_4 =>
            intro D sp w' hD hW hdp hbx'
            have k2 : (sp 2) = .bool false := (hdp 2 (List.mem_of_elem_eq_true (by kernel_rfl))).2
            (with_reducible refine asked_value (w1 := w') (v := .bool true) ?_ ?_ ?_)
            · first | (simp only [Region.wanted]; done) | simp [Region.wanted, yielded, Act.put, go_sem, k2]
            · simp [execOp, Act.eval, Act.put, go_sem, k2]
            · exact ⟨rfl, rfl⟩
          case refine_5 =>
            intro D sp w' hD hW hdp hbx'
            (with_reducible refine asked_value (w1 := w') (v := .bool true) ?_ ?_ ?_)
            · first | (simp only [Region.wanted]; done) | simp [Region.wanted, yielded, Act.put, go_sem]
            · simp [execOp, Act.eval, Act.put, go_sem]
            · exact ⟨rfl, rfl⟩
          case refine_6 =>
            intro D sp w' hD hW hdp hbx'
            (with_reducible refine asked_not ?_ ?_)
            · (simp [Region.wanted, yielded, Act.put, go_sem] <;> exact fun h => by cases h)
            · exact ⟨rfl, rfl⟩
          case refine_7 =>
            intro D sp w' hD hW hdp hbx'
            (with_reducible refine asked_not ?_ ?_)
            · (simp [Region.wanted, yielded, Act.put, go_sem] <;> exact fun h => by cases h)
            · exact ⟨rfl, rfl⟩
          case refine_8 =>
            intro D sp w' hD hW hdp hbx'
            (with_reducible refine asked_not ?_ ?_)
            · (simp [Region.wanted, yielded, Act.put, go_sem] <;> exact fun h => by cases h)
            · exact ⟨rfl, rfl⟩
          case refine_9 =>
            intro D sp w' hD hW hdp hbx'
            (with_reducible refine asked_not ?_ ?_)
            · (simp [Region.wanted, yielded, Act.put, go_sem] <;> exact fun h => by cases h)
            · exact ⟨rfl, rfl⟩
          case refine_10 =>
            intro D sp w' hD hW hdp hbx'
            (with_reducible refine asked_not ?_ ?_)
            · (simp [Region.wanted, yielded, Act.put, go_sem] <;> exact fun h => by cases h)
            · exact ⟨rfl, rfl⟩
          case refine_11 =>
            intro D sp w' hD hW hdp hbx'
            (with_reducible refine asked_value (w1 := w') (v := .bool true) ?_ ?_ ?_)
            · first | (simp only [Region.wanted]; done) | simp [Region.wanted, yielded, Act.put, go_sem]
            · simp [execOp, Act.eval, Act.put, go_sem]
            · exact ⟨rfl, rfl⟩
        · intro sp w7 hsp hbx'
          have HBe : Hold _ := ⟨bstep HBwb.out hbx'⟩
          clear hsp hbx'
          simp only [frameOf, Nat.reduceAdd]
          generalize sp 2 = y2 at *
          go_simp
          go_wp2
          go_ret
          exact ⟨by rw [HA.out]; rfl, HBe.out⟩
    · obtain rfl : k = np := by omega
      have hkn' : ¬ (k : Int) < k := by omega
      have HF : Hold (ANS = true) := ⟨by
        rw [← HANS.out]
        exact decide_eq_true ⟨fun e => h1 (by rw [HLP.out, e]; rfl), by rw [← HLP.out]; omega, fun i P hP => HD.out i P (by rw [HLP.out]; exact (List.getElem?_eq_some_iff.1 hP).1) hP⟩⟩
      go_wp2
      go_ret
      exact ⟨by rw [HF.out]; rfl, HBr.out⟩

end Go.Proofs.YtblaplcknhpjnaaGreatDoor

/-! Whether a step holds, of the program. -/
namespace Go.Proofs.YtblaplcknhpjnaaGreatDoor
open Go Go.RowKit Go.Proofs.YtblaplcknhpjnaaGreatDoor.Flow
set_option maxRecDepth 100000

theorem holds_iff {N Bs : Nat} {ps bs : List Nat} (hN : 2 ≤ N) : HoldsP N Bs ps bs ↔ KnownAll bs ps ∧ ((∀ p ∈ ps, (N - 1) % p = 0) ∧ N - 1 + 1 < pwl (N - 1) ps * pwl (N - 1) ps) ∧ (Bs ^ (N - 1) % N = 1 ∧ ∀ p ∈ ps, Nat.gcd ((Bs ^ ((N - 1) / p) % N + N - 1) % N) N = 1) := by
  rw [show N - 1 + 1 = N by omega]
  constructor
  · intro h
    have hm : ∀ p ∈ ps, ∃ i, OneOk N Bs bs ps i p := fun p hp => by
      obtain ⟨i, hi⟩ := List.getElem?_of_mem hp
      exact ⟨i, h.each i p hi⟩
    refine ⟨⟨h.some, h.few, fun i p hp => ?_⟩, ⟨fun p hp => ?_, h.great⟩, h.one, fun p hp => ?_⟩
    · have := h.each i p hp
      refine ⟨?_, this.1⟩
      rcases this.2.1 with k | k
      · exact .inl k
      · exact .inr ⟨this.2.2.1, k⟩
    · obtain ⟨i, hi⟩ := hm p hp; exact hi.2.2.2.1
    · obtain ⟨i, hi⟩ := hm p hp; exact hi.2.2.2.2
  · rintro ⟨h1, h2, h3⟩
    refine ⟨hN, h1.1, h1.2.1, fun i p hp => ?_, h3.1, h2.2⟩
    have hk := h1.2.2 i p hp
    have hm := List.mem_of_getElem? hp
    refine ⟨hk.2, ?_, ?_, h2.1 p hm, h3.2 p hm⟩
    · rcases hk.1 with k | k
      · exact .inl k
      · exact .inr k.2
    · rcases hk.1 with k | k
      · exact k.1
      · exact k.1
theorem known_two {bs ps : List Nat} (h : KnownAll bs ps) : ∀ p ∈ ps, 2 ≤ p := fun p hp => by
  obtain ⟨i, hi⟩ := List.getElem?_of_mem hp
  rcases (h.2.2 i p hi).1 with k | k
  · exact k.1
  · exact k.1

open Classical in
set_option maxHeartbeats 4000000 in
set_option maxRecDepth 1000000 in
theorem holds_e (e : Nat) (he : e ≤ 100) : ∀ (w : World) (N B : Nat) (p0 : Option Addr) (n0 c0 : Nat) (p1 : Option Addr) (n1 c1 : Nat) (pp : Option Addr) (np cp : Nat) (ps : List Nat) (pb : Option Addr) (nb cb : Nat) (bs : List Nat),
    NatAt w p0 n0 c0 N → N < B32 e → NatAt w p1 n1 c1 B → B < B32 e → PList w e pp np cp ps → PList w e pb nb cb bs → np ≤ 1000 → nb ≤ 1000 →
    Calls Tryz.prog 138 #[.agg #[.slice p0 n0 c0, .slice p1 n1 c1, .slice pp np cp], .slice pb nb cb] w fun en w' => en = .returned (.bool (decide (HoldsP N B ps bs))) ∧ Below w.heap.size w w' := by
  intro w N Bs p0 n0 c0 p1 n1 c1 pp np cp ps pb nb cb bs hN hNl hB hBl hp hb hnp hnb
  have hbx : Below w.heap.size w (w.alloc (.cells #[.slice p0 n0 c0, .slice p1 n1 c1, .slice pp np cp] 114)) := (Below.refl _ _).alloc (Nat.le_refl _) _
  have HBX3 : Hold _ := ⟨Box3.made 114 w (.slice p0 n0 c0) (.slice p1 n1 c1) (.slice pp np cp)⟩
  obtain ⟨wa, hwa⟩ : ∃ wa, w.alloc (.cells #[.slice p0 n0 c0, .slice p1 n1 c1, .slice pp np cp] 114) = wa := ⟨_, rfl⟩
  rw [hwa] at hbx HBX3
  have HNF : Hold _ := ⟨(Fit.of hN hNl).below hbx⟩
  have HBF : Hold _ := ⟨(Fit.of hB hBl).below hbx⟩
  have HP : Hold _ := ⟨hp.below hbx⟩
  have HBe : Hold _ := ⟨hb.below hbx⟩
  have HLP : Hold _ := ⟨hp.len⟩
  have HX : Hold _ := ⟨hbx⟩
  obtain ⟨ANS, hANS⟩ : ∃ X, decide (HoldsP N Bs ps bs) = X := ⟨_, rfl⟩
  have HANS : Hold _ := ⟨hANS⟩
  rw [hANS]
  have hca := HBX3.out.cells.1
  clear hANS hN hNl hB hBl hp hb hbx
  go_enter Tryz.func138, Tryz.ntmps138
  go_wp2_with fail
  refine (rngnew_fit HNF.out (by omega)).mono ?_
  rintro en w1 ⟨hb1, ⟨hlow, rfl⟩ | ⟨hN2, r, rfl, hR, _⟩⟩
  · have HF : Hold (ANS = false) := ⟨by rw [← HANS.out]; exact decide_eq_false fun h => by have := h.two; omega⟩
    have HBe1 : Hold _ := ⟨bstep HX.out hb1⟩
    clear hb1 hca
    go_wp2
    go_ret
    exact ⟨by rw [HF.out]; rfl, HBe1.out⟩
  have HR : Hold _ := ⟨hR⟩
  have HB1 : Hold _ := ⟨hb1⟩
  have HX1 : Hold _ := ⟨HBX3.out.below hb1 HBX3.out.lt⟩
  clear hb1 hR hca
  go_wp2
  refine wp_region_dutiesS (by kernel_rfl) (by kernel_rfl)
    [some (.pointer (some ⟨w.heap.size, 0, none⟩)), some (.agg #[.slice p0 n0 c0]), none, none, none, none, some (.bool true), none, none, some (.bool true)]
    [false, false, true, true, true, true, false, true, true, false] rfl
    (fun w2 w3 => Keep w1.heap.size w2 w3)
    (fun D sp w' => Below w1.heap.size w1 w' ∧ (D 7 = true → BoxOf (sp 7) w1.heap.size (N - 1) (D 8) w'))
    (fun i v w' => match i with
      | 2 => Fit 1 1 v w'
      | 3 => SubVal (N - 1) v w'
      | 4 => SubVal (N - 1) v w'
      | 5 => AggVal (N - 1) v w'
      | _ => True)
    ?_ ⟨(Below.refl _ _).drew, (fun a => by cases a)⟩ ?_ ?_
  · intro i v w2 w3 hf hb
    split at hf
    · exact Fit.keep hf hb
    · exact SubVal.keep hf hb
    · exact SubVal.keep hf hb
    · exact AggVal.keep hf hb
    · trivial
  · simp only [DutiesS, Nat.reduceAdd]
    refine ⟨?_, ?_, ?_, ?_, ?_, ?_, ?_, ?_, ?_, ?_, trivial⟩
    case refine_2 =>
      intro D sp w' hD hW hdp hg
      have c0 := (HX1.out.below hg.1 HX1.out.lt).cells.1
      simp [asked, Region.wanted, Oper.gives, execOp, Act.eval, Act.put, go_sem, c0]
    case refine_3 =>
      intro D sp w' hD hW hdp hg
      (with_reducible refine asked_call (w1 := w') (f := 15) (args := #[.int .u64 1]) ?_ ?_ ?_)
      · simp only [Region.wanted]
      · simp [Act.eval, Act.put, go_sem]
      · refine (one_fit w').mono ?_
        rintro en w5 ⟨u, rfl, hu, hb⟩
        exact ⟨u, rfl, Keep.of hb hg.1.size, hu, bstep hg.1 hb, by simpa [upd] using fun a => (hg.2 a).later hb⟩
    case refine_4 =>
      intro D sp w' hD hW hdp hg
      have k2 : Fit 1 1 (sp 2) w' := (hdp 2 (List.mem_of_elem_eq_true (by kernel_rfl))).2
      (with_reducible refine asked_call (w1 := w') (f := 85) (args := #[.agg #[.slice p0 n0 c0], sp 2]) ?_ ?_ ?_)
      · simp only [Region.wanted]
      · simp [Act.eval, Act.put, go_sem]
      · refine (sub_exact ((HNF.out.below HB1.out).below hg.1) k2 (by omega) (by omega) (by omega)).mono ?_
        rintro en w5 ⟨u, rfl, hu, hb⟩
        exact ⟨u, rfl, Keep.of hb hg.1.size, hu, bstep hg.1 hb, by simpa [upd] using fun a => (hg.2 a).later hb⟩
    case refine_5 =>
      intro D sp w' hD hW hdp hg
      have k3 : SubVal (N - 1) (sp 3) w' := (hdp 3 (List.mem_of_elem_eq_true (by kernel_rfl))).2
      (with_reducible refine asked_value (w1 := w') (v := sp 3) ?_ ?_ ?_)
      · simp only [Region.wanted]
      · simp [execOp, Act.eval, Act.put, go_sem]
      · exact ⟨Keep.same _ _, k3, hg.1, by simpa [upd] using hg.2⟩
    case refine_6 =>
      intro D sp w' hD hW hdp hg
      have hx : ∃ p n c, sp 4 = .tuple #[.agg #[.slice p n c], .bool true] ∧ NatAt w' p n c (N - 1) := (hdp 4 (List.mem_of_elem_eq_true (by kernel_rfl))).2
      (with_reducible refine Exists.elim hx fun p hx1 => ?_)
      (with_reducible refine Exists.elim hx1 fun n hx2 => ?_)
      (with_reducible refine Exists.elim hx2 fun c hx3 => ?_)
      have h1 := hx3.1
      (with_reducible refine asked_value (w1 := w') (v := .agg #[.slice p n c]) ?_ ?_ ?_)
      · simp only [Region.wanted]
      · simp [execOp, Act.eval, Act.put, go_sem, h1]
      · exact ⟨Keep.same _ _, ⟨p, n, c, rfl, hx3.2⟩, hg.1, by simpa [upd] using hg.2⟩
    case refine_7 =>
      intro D sp w' hD hW hdp hg
      have hx : ∃ p n c, sp 4 = .tuple #[.agg #[.slice p n c], .bool true] ∧ NatAt w' p n c (N - 1) := (hdp 4 (List.mem_of_elem_eq_true (by kernel_rfl))).2
      (with_reducible refine Exists.elim hx fun p hx1 => ?_)
      (with_reducible refine Exists.elim hx1 fun n hx2 => ?_)
      (with_reducible refine Exists.elim hx2 fun c hx3 => ?_)
      have h1 := hx3.1
      simp [asked, Region.wanted, Oper.gives, execOp, Act.eval, Act.put, go_sem, h1]
    case refine_8 =>
      intro D sp w' hD hW hdp hg
      have h8 : D 8 = false := hW 8 (List.mem_of_elem_eq_true (by kernel_rfl))
      (with_reducible refine asked_value (w1 := w'.alloc (.cells #[.slice none 0 0] 36)) (v := .pointer (some ⟨w'.heap.size, 0, none⟩)) ?_ ?_ ?_)
      · simp only [Region.wanted]
      · simp [execOp, go_sem]
      · have hb : Below w'.heap.size w' (w'.alloc (.cells #[.slice none 0 0] 36)) := (Below.refl _ _).alloc (Nat.le_refl _) _
        refine ⟨Keep.of hb hg.1.size, trivial, bstep hg.1 hb, fun _ => ?_⟩
        have := BoxOf.made w' hg.1.size (N - 1)
        simpa [upd, h8] using this
    case refine_9 =>
      intro D sp w' hD hW hdp hg
      have hx : ∃ p n c, sp 5 = .agg #[.slice p n c] ∧ NatAt w' p n c (N - 1) := (hdp 5 (List.mem_of_elem_eq_true (by kernel_rfl))).2
      have hy : ∃ b, sp 7 = .pointer (some ⟨b, 0, none⟩) ∧ w1.heap.size ≤ b ∧ ∃ p n c, NatBox w' b (.slice p n c) ∧ (D 8 = true → NatAt w' p n c (N - 1)) := hg.2 (hdp 7 (List.mem_of_elem_eq_true (by kernel_rfl))).1
      (with_reducible refine Exists.elim hx fun p hx1 => ?_)
      (with_reducible refine Exists.elim hx1 fun n hx2 => ?_)
      (with_reducible refine Exists.elim hx2 fun c hx3 => ?_)
      (with_reducible refine Exists.elim hy fun bb hy1 => ?_)
      have hlo := hy1.2.1
      (with_reducible refine Exists.elim hy1.2.2 fun p2 hy2 => ?_)
      (with_reducible refine Exists.elim hy2 fun n2 hy3 => ?_)
      (with_reducible refine Exists.elim hy3 fun c2 hy4 => ?_)
      have g1 := hx3.1
      have g2 := hy1.1
      have hbx0 := hy4.1
      have g3 := hbx0.cell
      have g4 := hbx0.free
      (with_reducible refine asked_skip (w1 := w'.setCell ⟨bb, 0, none⟩ (.slice p n c)) ?_ ?_ ?_)
      · simp only [Region.wanted]
      · simp [execOp, Act.eval, Act.put, go_sem, g1, g2, g3, g4]
      · exact ⟨Keep.store hbx0 hlo _, trivial, hg.1.setCell hlo _, fun _ => ⟨bb, by simpa [upd] using g2, hlo, p, n, c, hbx0.set _, fun _ => hx3.2.store hbx0 _⟩⟩
    all_goals
      intro D sp w' hD hW hdp hg
      simp [asked, Region.wanted, Oper.gives, execOp, Act.eval, Act.put, go_sem]
  · intro sp w2 hsp hg
    obtain ⟨b7, e7, lo7, p7, n7, c7, x7, v7⟩ := hg.2 rfl
    replace v7 := v7 rfl
    have HB2 : Hold _ := ⟨bstep HB1.out hg.1⟩
    have HX2 : Hold _ := ⟨HX1.out.below hg.1 HX1.out.lt⟩
    have HR2 : Hold _ := ⟨HR.out.below hg.1⟩
    have HX7 : Hold _ := ⟨x7⟩
    have HL7 : Hold _ := ⟨Fit.of v7 (Nat.lt_of_le_of_lt (Nat.sub_le N 1) HNF.out.lim)⟩
    clear hsp hg x7 v7
    simp only [frameOf, Nat.reduceAdd]
    rw [e7]
    clear e7
    generalize sp 2 = y2 at *
    generalize sp 3 = y3 at *
    generalize sp 4 = y4 at *
    generalize sp 5 = y5 at *
    generalize sp 8 = y8 at *
    go_simp
    have d2 := HX2.out.cells.2.2
    obtain ⟨S1, hS1⟩ : ∃ X, decide (KnownAll bs ps) = X := ⟨_, rfl⟩
    have HS1 : Hold _ := ⟨hS1⟩
    clear hS1
    go_wp2_with fail
    refine (areknown_calls (HP.out.below HB2.out) (HBe.out.below HB2.out) (by omega)).mono ?_
    rintro en w3 ⟨rfl, hb3⟩
    rw [HS1.out]
    have HX3 : Hold _ := ⟨HX2.out.below hb3 HX2.out.lt⟩
    have HB3 : Hold _ := ⟨bstep HB2.out hb3⟩
    have HR3 : Hold _ := ⟨HR2.out.below hb3⟩
    have HX73 : Hold _ := ⟨HX7.out.below hb3 HX7.out.lt⟩
    have HL73 : Hold _ := ⟨HL7.out.below hb3⟩
    clear hb3 d2
    cases S1 with
    | false =>
      have HF : Hold (ANS = false) := ⟨by rw [← HANS.out]; exact decide_eq_false fun h => (of_decide_eq_false HS1.out) ((holds_iff hN2).1 h).1⟩
      have HE : Hold _ := ⟨bstep HX.out HB3.out⟩
      go_wp2
      go_ret
      exact ⟨by rw [HF.out]; rfl, HE.out⟩
    | true =>
      have HK : Hold (KnownAll bs ps) := ⟨of_decide_eq_true HS1.out⟩
      obtain ⟨S2, hS2⟩ : ∃ X, decide ((∀ p ∈ ps, (N - 1) % p = 0) ∧ N - 1 + 1 < pwl (N - 1) ps * pwl (N - 1) ps) = X := ⟨_, rfl⟩
      have HS2 : Hold _ := ⟨hS2⟩
      clear hS2
      have d2 := HX3.out.cells.2.2
      have d7 := HX73.out.cell
      go_wp2_with fail
      refine (enough_calls HL73.out (HP.out.below HB3.out) he (by omega) (known_two HK.out) hnp).mono ?_
      rintro en w4 ⟨rfl, hb4⟩
      rw [HS2.out]
      have HX4 : Hold _ := ⟨HX3.out.below hb4 HX3.out.lt⟩
      have HB4 : Hold _ := ⟨bstep HB3.out hb4⟩
      have HR4 : Hold _ := ⟨HR3.out.below hb4⟩
      have HX74 : Hold _ := ⟨HX73.out.below hb4 HX73.out.lt⟩
      have HL74 : Hold _ := ⟨HL73.out.below hb4⟩
      clear hb4 d2 d7
      cases S2 with
      | false =>
        have HF : Hold (ANS = false) := ⟨by rw [← HANS.out]; exact decide_eq_false fun h => (of_decide_eq_false HS2.out) ((holds_iff hN2).1 h).2.1⟩
        have HE : Hold _ := ⟨bstep HX.out HB4.out⟩
        go_wp2
        go_ret
        exact ⟨by rw [HF.out]; rfl, HE.out⟩
      | true =>
        obtain ⟨S3, hS3⟩ : ∃ X, decide (Bs ^ (N - 1) % N = 1 ∧ ∀ p ∈ ps, Nat.gcd ((Bs ^ ((N - 1) / p) % N + N - 1) % N) N = 1) = X := ⟨_, rfl⟩
        have HS3 : Hold _ := ⟨hS3⟩
        have HF : Hold (ANS = S3) := ⟨by
          rw [← HANS.out, ← hS3]
          exact decide_eq_decide.2 ⟨fun h => ((holds_iff hN2).1 h).2.2, fun h => (holds_iff hN2).2 ⟨HK.out, of_decide_eq_true HS2.out, h⟩⟩⟩
        clear hS3
        have d1 := HX4.out.cells.2.1
        have d2 := HX4.out.cells.2.2
        have d7 := HX74.out.cell
        go_wp2_with fail
        refine (prove_calls HR4.out (HBF.out.below HB4.out) HL74.out (HP.out.below HB4.out) he (known_two HK.out)).mono ?_
        rintro en w5 ⟨rfl, hb5⟩
        rw [HS3.out]
        have HE : Hold _ := ⟨bstep HX.out (bstep HB4.out hb5)⟩
        clear hb5 d1 d2 d7
        go_wp2
        go_ret
        exact ⟨by rw [HF.out]; rfl, HE.out⟩

end Go.Proofs.YtblaplcknhpjnaaGreatDoor

/-! Chains, of the program. -/
namespace Go.Proofs.YtblaplcknhpjnaaGreatDoor
open Go Go.RowKit Go.Proofs.YtblaplcknhpjnaaGreatDoor.Flow
set_option maxRecDepth 100000

theorem PList.tight {w : World} {e f : Nat} {p : Option Addr} {n c : Nat} {Ns : List Nat} (h : PList w e p n c Ns) (hl : ∀ N ∈ Ns, N < B32 f) : PList w f p n c Ns := by
  refine ⟨h.len, h.cap, h.max, h.nil, fun h0 => ?_⟩
  obtain ⟨b, off, h1, h2, h3⟩ := h.at_ h0
  exact ⟨b, off, h1, h2, fun i N hN => let ⟨q, m, d, k1, k2, _⟩ := h3 i N hN; ⟨q, m, d, k1, k2, hl N (List.mem_of_getElem? hN)⟩⟩
theorem PList.wide {w : World} {e f : Nat} {p : Option Addr} {n c : Nat} {Ns : List Nat} (h : PList w e p n c Ns) (hf : e ≤ f) : PList w f p n c Ns := by
  refine ⟨h.len, h.cap, h.max, h.nil, fun h0 => ?_⟩
  obtain ⟨b, off, h1, h2, h3⟩ := h.at_ h0
  exact ⟨b, off, h1, h2, fun i N hN => let ⟨q, m, d, k1, k2, k3⟩ := h3 i N hN; ⟨q, m, d, k1, k2, Nat.lt_of_lt_of_le k3 (B32_mono hf)⟩⟩
theorem PSteps.wide {w : World} {e f : Nat} {p : Option Addr} {n c : Nat} {l : List StepN} (h : PSteps w e p n c l) (hf : e ≤ f) : PSteps w f p n c l := by
  refine ⟨h.len, h.cap, h.max, h.nil, fun h0 => ?_⟩
  obtain ⟨b, off, h1, h2, h3⟩ := h.at_ h0
  refine ⟨b, off, h1, h2, fun i s hs => ?_⟩
  obtain ⟨q0, m0, d0, q1, m1, d1, q2, m2, d2, k0, k1, k2, k3, k4, k5, k6, k7⟩ := h3 i s hs
  exact ⟨q0, m0, d0, q1, m1, d1, q2, m2, d2, k0, k1, k2, k3, Nat.lt_of_lt_of_le k4 (B32_mono hf), k5, Nat.lt_of_lt_of_le k6 (B32_mono hf), k7.wide hf⟩

theorem long_asksS (w : World) (e : Nat) (l : List StepN) (he : e ≤ 900000) : AsksS 137 #[] w e l (fun s => @decide (TooLong s) (Classical.propDecidable _)) := by
  refine ⟨fun W M u _ _ hu => ?_⟩
  rw [Array.append_empty]
  exact long_calls hu he

/-- make([]nat.Nat, 0, n) -/
theorem make_nats (n : Nat) (h : n ≤ 1000000) (w : World) : (Instr.makeSlice 32 (.int .i64 0) (.int .i64 (n : Nat))).run Tryz.prog w =
    .ok (.slice (some ⟨w.heap.size, 0, none⟩) 0 n) (w.alloc (.cells (madeCells #[.slice none 0 0] n) 36)) := by
  obtain ⟨i, hi, hz, hs, hb⟩ := info_parts Tryz.info_Nat
  have := run_make (P := Tryz.prog) w 32 36 i (.agg #[.slice none 0 0]) Tryz.underlying32 hi hz .i64 .i64 0 n (by omega) (by omega) (by rw [hb]; omega) (by omega)
  simp only [Int.toNat_natCast, hs, Nat.mul_one] at this
  rw [this]
  rfl
theorem OwnV.made (w : World) (B n : Nat) (hn : n ≤ 1000000) (hB : B ≤ w.heap.size) (bad : Nat → Prop) : OwnV NatAt 36 B bad (w.alloc (.cells (madeCells #[.slice Option.none 0 0] n) 36)) (.slice (some ⟨w.heap.size, 0, Option.none⟩) 0 n) [] :=
  ⟨[], World.ownsRow_made w _ n hB (by simp only [maxLen]; omega) (by rw [size_madeCells, Nat.mul_one]), rfl, fun i N h => by simp at h⟩

theorem chain_take {l : List StepN} {k : Nat} {s : StepN} (h : l[k]? = some s) : ChainP [] (l.take (k + 1)) ↔ ChainP [] (l.take k) ∧ HoldsP s.n s.base s.ps ((l.take k).map (·.n)) := by
  rw [snoc_take h, chain_snoc, List.nil_append]
theorem chain_pre {l : List StepN} (k : Nat) (h : ChainP [] l) : ChainP [] (l.take k) := by
  rw [← List.take_append_drop k l] at h
  exact ((chain_append _ _ _).1 h).1

open Classical in
set_option maxHeartbeats 4000000 in
set_option maxRecDepth 100000 in
theorem check_e (f : Nat) (hf : f ≤ 100) : ∀ (w : World) (p : Option Addr) (n c : Nat) (l : List StepN), PSteps w 200 p n c l → n ≤ 60 → (∀ s ∈ l, s.ps.length ≤ 1000) → (∀ s ∈ l, ¬ TooLong s → s.n < B32 f ∧ s.base < B32 f ∧ ∀ q ∈ s.ps, q < B32 f) →
    Calls Tryz.prog 115 #[.slice p n c] w fun en w' => en = .returned (.int .i64 (if ∃ s ∈ l, TooLong s then 4 else if ChainP [] l then 0 else 8)) ∧ Below w.heap.size w w' := by
  intro w p n c l h hn hps hlim
  have HH : Hold _ := ⟨h⟩
  have HLN : Hold _ := ⟨h.len⟩
  have HPS : Hold _ := ⟨hps⟩
  have HLIM : Hold _ := ⟨hlim⟩
  obtain ⟨ANS, hANS⟩ : ∃ X : Int, (if ∃ s ∈ l, TooLong s then 4 else if ChainP [] l then 0 else 8) = X := ⟨_, rfl⟩
  have HANS : Hold _ := ⟨hANS⟩
  rw [hANS]
  clear h hps hlim hANS
  have hn64 : ¬ (64 : Int) < n := by omega
  obtain ⟨S0, hS0⟩ : ∃ X, l.any (fun s => decide (TooLong s)) = X := ⟨_, rfl⟩
  have HS0 : Hold _ := ⟨hS0⟩
  clear hS0
  go_enter Tryz.func115, Tryz.ntmps115
  go_wp2_with fail
  refine (sany_calls w 200 p n c l _ _ (enters_of Tryz.func137 (by kernel_rfl) rfl) (fun s => decide (TooLong s)) HH.out (long_asksS _ 200 l (by decide))).mono ?_
  rintro en w1 ⟨rfl, hb1⟩
  rw [HS0.out]
  have HB1 : Hold _ := ⟨hb1⟩
  clear hb1
  cases S0 with
  | true =>
    have HF : Hold (ANS = 4) := ⟨by
      rw [← HANS.out]
      obtain ⟨s, hs, ht⟩ := List.any_eq_true.1 HS0.out
      exact if_pos ⟨s, hs, of_decide_eq_true ht⟩⟩
    go_wp2
    go_ret
    exact ⟨by rw [HF.out]; rfl, HB1.out⟩
  | false =>
    have hnl : ∀ s ∈ l, ¬ TooLong s := fun s hs ht => by
      have := List.any_eq_false.1 HS0.out s hs
      exact this (decide_eq_true ht)
    have HNL : Hold _ := ⟨hnl⟩
    have HANS2 : Hold ((if ChainP [] l then 0 else 8 : Int) = ANS) := ⟨by
      rw [← HANS.out]
      exact (if_neg (fun h => by obtain ⟨s, hs, ht⟩ := h; exact hnl s hs ht)).symm⟩
    have HLT : Hold (∀ s ∈ l, s.n < B32 f ∧ s.base < B32 f ∧ ∀ q ∈ s.ps, q < B32 f) := ⟨fun s hs => HLIM.out s hs (hnl s hs)⟩
    clear hnl
    have hmk := fun wx => make_nats n (by omega) wx
    have HOV : Hold _ := ⟨OwnV.made w1 w.heap.size n (by omega) HB1.out.size (fun g => w.heap.size ≤ g)⟩
    have hbm : Below w1.heap.size w1 (w1.alloc (.cells (madeCells #[.slice none 0 0] n) 36)) := (Below.refl _ _).alloc (Nat.le_refl _) _
    have HBM : Hold _ := ⟨bstep HB1.out hbm⟩
    clear hbm
    go_wp2
    go_loopw [3, 5, 18] (fun vv _ iv wr => ∃ k : Nat, k ≤ n ∧ iv = .int .i64 k ∧ Hold (Below w.heap.size w wr) ∧ Hold (OwnV NatAt 36 w.heap.size (fun g => w.heap.size ≤ g) wr vv ((l.take k).map (·.n))) ∧ Hold (ChainP [] (l.take k))) (fun _ _ iv _ => n - (intOf iv).toNat)
    case atStart => exact ⟨0, by omega, rfl, HBM, HOV, ⟨trivial⟩⟩
    case round =>
      obtain ⟨k, hk, rfl, HB, HO, HC⟩ := hrel
      by_cases hkn : k < n
      · obtain ⟨S, hSk⟩ : ∃ s, l[k]? = some s := ⟨l[k]'(by rw [← HLN.out]; exact hkn), List.getElem?_eq_getElem _⟩
        have HSk : Hold _ := ⟨hSk⟩
        have HM : Hold _ := ⟨List.mem_of_getElem? hSk⟩
        obtain ⟨b, off, rfl, hb, hc⟩ := HH.out.at_ (by omega)
        obtain ⟨q0, m0, d0, q1, m1, d1, q2, m2, d2, y0, y1, y2, y3, y4, y5, y6, y7⟩ := hc k S hSk
        have HNA : Hold _ := ⟨y3⟩
        have HNB : Hold _ := ⟨y5⟩
        have HNP : Hold _ := ⟨y7.tight (HLT.out S HM.out).2.2⟩
        have hcl : ∀ o, wr.cell? ⟨b, o, none⟩ = w.cell? ⟨b, o, none⟩ := fun o => HB.out.cell (p := ⟨b, o, none⟩) hb
        have x0 : wr.cell? ⟨b, off + k * 3, none⟩ = some (.slice q0 m0 d0) := by rw [hcl]; exact y0
        have x1 : wr.cell? ⟨b, off + k * 3 + 1, none⟩ = some (.slice q1 m1 d1) := by rw [hcl]; exact y1
        have x2 : wr.cell? ⟨b, off + k * 3 + 2, none⟩ = some (.slice q2 m2 d2) := by rw [hcl]; exact y2
        have hkn' : (k : Int) < n := by omega
        have hbx : Below wr.heap.size wr (wr.alloc (.cells #[.slice q0 m0 d0, .slice q1 m1 d1, .slice q2 m2 d2] 114)) := (Below.refl _ _).alloc (Nat.le_refl _) _
        have HBX3 : Hold _ := ⟨Box3.made 114 wr (.slice q0 m0 d0) (.slice q1 m1 d1) (.slice q2 m2 d2)⟩
        obtain ⟨wa, hwa⟩ : ∃ wa, wr.alloc (.cells #[.slice q0 m0 d0, .slice q1 m1 d1, .slice q2 m2 d2] 114) = wa := ⟨_, rfl⟩
        rw [hwa] at hbx HBX3
        have HBa : Hold _ := ⟨bstep HB.out hbx⟩
        have HOa : Hold _ := ⟨HO.out.below hbx⟩
        have hmem : ∀ N ∈ (l.take k).map (·.n), N < B32 f := fun N hN => by
          obtain ⟨s, hs, rfl⟩ := List.mem_map.1 hN
          exact (HLT.out s (List.mem_of_mem_take hs)).1
        have HL60 : Hold (((l.take k).map (·.n)).length ≤ 1000) := ⟨by rw [List.length_map, List.length_take]; omega⟩
        obtain ⟨Ks, hKs⟩ : ∃ Ks, (l.take k).map (·.n) = Ks := ⟨_, rfl⟩
        have HKs : Hold _ := ⟨hKs⟩
        rw [hKs] at hmem HL60 HOa HO
        clear hKs
        obtain ⟨nk, hnk⟩ : ∃ nk, Ks.length = nk := ⟨_, rfl⟩
        obtain ⟨p1, c1, rfl, hp1⟩ := HOa.out.plist hmem
        have HNk : Hold _ := ⟨hnk⟩
        rw [hnk] at hp1 HL60 HOa HO
        rw [hnk]
        clear hnk
        have HP1 : Hold _ := ⟨hp1⟩
        have z0 := HBX3.out.cells.1
        have z1 := HBX3.out.cells.2.1
        have z2 := HBX3.out.cells.2.2
        clear hc hcl y0 y1 y2 y3 y4 y5 y6 y7 hbx hmem hp1 hSk
        obtain ⟨D, hD⟩ : ∃ X, decide (HoldsP S.n S.base S.ps Ks) = X := ⟨_, rfl⟩
        have HD : Hold _ := ⟨hD⟩
        clear hD
        go_wp2_with fail
        refine (holds_e f hf wa S.n S.base q0 m0 d0 q1 m1 d1 q2 m2 d2 S.ps _ _ _ _ (HNA.out.below HBa.out) (HLT.out S HM.out).1 (HNB.out.below HBa.out) (HLT.out S HM.out).2.1 (HNP.out.below HBa.out) HP1.out (by rw [HNP.out.len]; exact HPS.out S HM.out) HL60.out).mono ?_
        rintro en w3 ⟨rfl, hb3⟩
        rw [HD.out]
        have HB3 : Hold _ := ⟨bstep HBa.out hb3⟩
        have HO3 : Hold _ := ⟨HOa.out.below hb3⟩
        have HX3 : Hold _ := ⟨HBX3.out.below hb3 HBX3.out.lt⟩
        clear hb3 x0 x1 x2 z0 z1 z2
        cases D with
        | false =>
          have HF : Hold (ANS = 8) := ⟨by
            rw [← HANS2.out, if_neg]
            intro hh
            exact of_decide_eq_false HD.out (by rw [← HKs.out]; exact ((chain_take HSk.out).1 (chain_pre (k + 1) hh)).2)⟩
          go_wp2
          go_ret
          exact ⟨by rw [HF.out]; rfl, HB3.out⟩
        | true =>
          have HC' : Hold (ChainP [] (l.take (k + 1))) := ⟨(chain_take HSk.out).2 ⟨HC.out, by rw [HKs.out]; exact of_decide_eq_true HD.out⟩⟩
          have HTk : Hold ((l.take (k + 1)).map (·.n) = Ks ++ [S.n]) := ⟨by rw [snoc_take HSk.out, List.map_append, HKs.out]; rfl⟩
          have hb4 : Below w3.heap.size w3 (w3.alloc (.cells #[.slice q0 m0 d0] 36)) := (Below.refl _ _).alloc (Nat.le_refl _) _
          have hx4 : (w3.alloc (.cells #[.slice q0 m0 d0] 36)).cell? ⟨w3.heap.size, 0, none⟩ = some (.slice q0 m0 d0) := (NatBox.made w3 (.slice q0 m0 d0)).cell
          obtain ⟨w4, hw4⟩ : ∃ w4, w3.alloc (.cells #[.slice q0 m0 d0] 36) = w4 := ⟨_, rfl⟩
          rw [hw4] at hb4 hx4
          have hB4 := bstep HB3.out hb4
          have hfirm : Firm (fun w => NatAt w q0 m0 d0 S.n) (fun g => w.heap.size ≤ g) w4 := natStands.firm (HNA.out.below hB4) fun q hq hle => by
            have := natStands.lt HNA.out q hq
            omega
          obtain ⟨i1, hi1, hz1, hs1, hbb1⟩ := info_parts Tryz.info_Nat
          obtain ⟨v9, w9, happ, ho9, hg9, _⟩ := (HO3.out.below hb4).app Tryz.underlying32 hi1 hz1 hs1 hbb1 rfl (by decide) hB4.size (a := ⟨w3.heap.size, 0, none⟩) (c := 1) (x := (q0, m0, d0)) hx4 hfirm (fun g hg => (HO3.out.block g hg).1) (by rw [HNk.out]; exact Nat.le_trans HL60.out (by decide)) 32
          have HO9 : Hold _ := ⟨ho9⟩
          have HB9 : Hold (Below w.heap.size w w9) := ⟨hB4.grown hg9 hB4.size fun g hg => (HO3.out.block g hg).1⟩
          have z0 := HX3.out.cells.1
          clear hb4 hx4 hB4 hfirm hi1 hz1 hs1 hbb1 ho9 hg9
          go_wp2_with (at_builtin; refine Lib.wpList_append_run _ rfl _ _ _ _ rfl _ _ rfl rfl _ _ happ ?_; refine Paused.out ?_)
          refine ⟨?_⟩
          clear happ z0
          go_wp2
          go_roundw
          case rel => exact ⟨k + 1, by omega, by go_num, HB9, ⟨by rw [HTk.out]; exact HO9.out⟩, HC'⟩
          case measure => simp [intOf]; omega
      · obtain rfl : k = n := by omega
        have hkn' : ¬ (k : Int) < k := by omega
        have htk : l.take k = l := List.take_of_length_le (by rw [← HLN.out]; exact Nat.le_refl _)
        rw [htk] at HC
        have HF : Hold (ANS = 0) := ⟨by rw [← HANS2.out, if_pos HC.out]⟩
        clear htk
        go_wp2
        go_ret
        exact ⟨by rw [HF.out]; rfl, HB.out⟩

end Go.Proofs.YtblaplcknhpjnaaGreatDoor

/-! What is told to be a prime, by the program. -/
namespace Go.Proofs.YtblaplcknhpjnaaGreatDoor
open Go Go.RowKit Go.Proofs.YtblaplcknhpjnaaGreatDoor.Flow
set_option maxRecDepth 100000

theorem PList.lim {w : World} {e : Nat} {p : Option Addr} {n c : Nat} {Ns : List Nat} (h : PList w e p n c Ns) : ∀ N ∈ Ns, N < B32 e := fun N hN => by
  obtain ⟨i, hi⟩ := List.getElem?_of_mem hN
  obtain ⟨b, off, _, _, h3⟩ := h.at_ (by rw [h.len]; have := (List.getElem?_eq_some_iff.1 hi).1; omega)
  obtain ⟨_, _, _, _, _, h4⟩ := h3 i N hi
  exact h4
theorem PSteps.lim {w : World} {e : Nat} {p : Option Addr} {n c : Nat} {l : List StepN} (h : PSteps w e p n c l) : ∀ s ∈ l, s.n < B32 e ∧ s.base < B32 e ∧ ∀ q ∈ s.ps, q < B32 e := fun s hs => by
  obtain ⟨i, hi⟩ := List.getElem?_of_mem hs
  obtain ⟨b, off, _, _, h3⟩ := h.at_ (by rw [h.len]; have := (List.getElem?_eq_some_iff.1 hi).1; omega)
  obtain ⟨_, _, _, _, _, _, _, _, _, _, _, _, _, k4, _, k6, k7⟩ := h3 i s hi
  exact ⟨k4, k6, k7.lim⟩
theorem blen_B2 {e N : Nat} (he : e ≤ 32) (h : N < B32 e) : ¬ 1024 < blen N := by
  have : blen N ≤ 32 * e := (blen_le N _).2 (by
    have : B32 e = 2 ^ (32 * e) := by unfold B32; rw [Nat.pow_mul]
    rw [← this]; exact h)
  omega

set_option maxHeartbeats 2000000 in
set_option maxRecDepth 100000 in
/-- The function that asks whether a step is of just the number that stands in a box. -/
theorem of1_asks (w : World) (e f : Nat) (l : List StepN) (b : Nat) (v : Value) (N : Nat) (hb : b < w.heap.size) (hc : w.cell? ⟨b, 0, none⟩ = some v) (hv : Fit f N (.agg #[v]) w) (he : e ≤ 900000) (hf : f ≤ 900000) :
    AsksS 113 #[.pointer (some ⟨b, 0, none⟩)] w e l (fun s => decide (s.n = N)) := by
  refine ⟨fun W s u hbw _ hu => ?_⟩
  have hc' : W.cell? ⟨b, 0, none⟩ = some v := (hbw.cell (p := ⟨b, 0, none⟩) hb).trans hc
  have hv' := hv.below hbw
  obtain ⟨q0, m0, d0, q1, m1, d1, q2, m2, d2, rfl, h0, l0, h1, l1, h2⟩ := hu.ex
  have hbW : b < W.heap.size := Nat.lt_of_lt_of_le hb hbw.size
  have hbx : Below W.heap.size W (W.alloc (.cells #[.slice q0 m0 d0, .slice q1 m1 d1, .slice q2 m2 d2] 114)) := (Below.refl _ _).alloc (Nat.le_refl _) _
  have HBX3 : Hold _ := ⟨Box3.made 114 W (.slice q0 m0 d0) (.slice q1 m1 d1) (.slice q2 m2 d2)⟩
  obtain ⟨wa, hwa⟩ : ∃ wa, W.alloc (.cells #[.slice q0 m0 d0, .slice q1 m1 d1, .slice q2 m2 d2] 114) = wa := ⟨_, rfl⟩
  rw [hwa] at hbx HBX3
  have hc2 : wa.cell? ⟨b, 0, none⟩ = some v := (hbx.cell (p := ⟨b, 0, none⟩) hbW).trans hc'
  have HA : Hold _ := ⟨(Fit.of h0 l0).below hbx⟩
  have HV : Hold _ := ⟨hv'.below hbx⟩
  have HX : Hold _ := ⟨hbx⟩
  have hca := HBX3.out.cells.1
  obtain ⟨pv, nv, cv, hev, _, _⟩ := hv
  cases hev
  obtain ⟨SN, hSN⟩ : ∃ x, s.n = x := ⟨_, rfl⟩
  rw [hSN] at HA
  have HSN : Hold _ := ⟨hSN⟩
  clear hSN hu h0 l0 h1 l1 h2 hbx hv' hc' hc
  go_enter Tryz.func113, Tryz.ntmps113
  go_wp2_with fail
  refine (cmp_fit HA.out HV.out he hf).mono ?_
  rintro en w1 ⟨_, rfl, rfl, hb1⟩
  have HB1 : Hold _ := ⟨bstep HX.out hb1⟩
  have e0 : ((cmpI SN N : Int) == 0) = decide (SN = N) := by
    by_cases hnm : SN = N
    · simp [hnm, cmpI_zero.2]
    · have : cmpI SN N ≠ 0 := fun h0 => hnm (cmpI_zero.1 h0)
      simp [hnm, this]
  have HE : Hold _ := ⟨e0⟩
  clear e0 hb1 hc2 hca
  generalize cmpI SN N = K at *
  go_wp2
  go_ret
  exact ⟨by rw [HSN.out, ← HE.out]; rfl, HB1.out⟩

open Classical in
set_option maxHeartbeats 4000000 in
set_option maxRecDepth 100000 in
theorem prime_e (e : Nat) (he : e ≤ 32) : ∀ (w : World) (N : Nat) (v : Value) (p : Option Addr) (n c : Nat) (l : List StepN), Fit e N v w → PSteps w e p n c l → n ≤ 60 → (∀ s ∈ l, s.ps.length ≤ 1000) →
    Calls Tryz.prog 78 #[v, .slice p n c] w fun en w' => en = .returned (.bool (decide (SmallP N ∨ (ChainP [] l ∧ ∃ s ∈ l, s.n = N)))) ∧ Below w.heap.size w w' := by
  intro w N v p n c l hv h hn hps
  obtain ⟨pu, nu, cu, rfl, hu1, hu2⟩ := hv
  have hbx := Box1.mk1 w (.slice pu nu cu) 36
  obtain ⟨wa, hwa⟩ : ∃ wa, w.alloc (.cells #[.slice pu nu cu] 36) = wa := ⟨_, rfl⟩
  have hbox := NatBox.made w (.slice pu nu cu)
  rw [hwa] at hbx hbox
  have HBOX : Hold _ := ⟨hbox⟩
  have HX : Hold _ := ⟨hbx.bel⟩
  have HF : Hold _ := ⟨(Fit.of hu1 hu2).below hbx.bel⟩
  have HP : Hold _ := ⟨h.below hbx.bel⟩
  have HPS : Hold _ := ⟨hps⟩
  have HLIM : Hold _ := ⟨h.lim⟩
  obtain ⟨ANS, hANS⟩ : ∃ X, decide (SmallP N ∨ (ChainP [] l ∧ ∃ s ∈ l, s.n = N)) = X := ⟨_, rfl⟩
  have HANS : Hold _ := ⟨hANS⟩
  rw [hANS]
  have hca := hbox.cell
  clear hANS hps h hu1 hu2 hbx hbox
  obtain ⟨S, hS⟩ : ∃ X, decide (SmallP N) = X := ⟨_, rfl⟩
  have HS : Hold _ := ⟨hS⟩
  clear hS
  go_enter Tryz.func78, Tryz.ntmps78
  go_wp2_with fail
  refine (small_does wa N e _ HF.out (by omega)).mono ?_
  rintro en w1 ⟨rfl, hb1⟩
  rw [HS.out]
  have HB1 : Hold _ := ⟨hb1⟩
  have HBOX1 : Hold _ := ⟨HBOX.out.below hb1 HBOX.out.lt⟩
  clear hb1 hca
  cases S with
  | true =>
    have HA : Hold (ANS = true) := ⟨by rw [← HANS.out]; exact decide_eq_true (.inl (of_decide_eq_true HS.out))⟩
    have HE : Hold _ := ⟨bstep HX.out HB1.out⟩
    go_wp2
    go_ret
    exact ⟨by rw [HA.out]; rfl, HE.out⟩
  | false =>
    obtain ⟨C, hC⟩ : ∃ X, l.any (fun s => decide (s.n = N)) = X := ⟨_, rfl⟩
    have HC : Hold _ := ⟨hC⟩
    clear hC
    have HAS : Hold _ := ⟨of1_asks w1 e e l w.heap.size (.slice pu nu cu) N HBOX1.out.lt HBOX1.out.cell (HF.out.below HB1.out) (by omega) (by omega)⟩
    go_wp2_with fail
    refine (sany_calls w1 e p n c l _ _ (enters_of Tryz.func113 (by kernel_rfl) rfl) _ (HP.out.below HB1.out) HAS.out).mono ?_
    rintro en w2 ⟨rfl, hb2⟩
    rw [HC.out]
    have HB2 : Hold _ := ⟨bstep HB1.out hb2⟩
    clear hb2
    cases C with
    | false =>
      have HA : Hold (ANS = false) := ⟨by
        rw [← HANS.out]
        refine decide_eq_false fun hh => ?_
        rcases hh with hh | ⟨_, s, hs, hsn⟩
        · exact of_decide_eq_false HS.out hh
        · exact List.any_eq_false.1 HC.out s hs (decide_eq_true hsn)⟩
      have HE : Hold _ := ⟨bstep HX.out HB2.out⟩
      go_wp2
      go_ret
      exact ⟨by rw [HA.out]; rfl, HE.out⟩
    | true =>
      have hnl : ∀ s ∈ l, ¬ TooLong s := fun s hs ht => by
        have := HLIM.out s hs
        rcases ht with ht | ht | ⟨q, hq, ht⟩
        · exact blen_B2 he this.1 ht
        · exact blen_B2 he this.2.1 ht
        · exact blen_B2 he (this.2.2 q hq) ht
      have hne : ¬ ∃ s ∈ l, TooLong s := fun hh => by obtain ⟨s, hs, ht⟩ := hh; exact hnl s hs ht
      have hex : ∃ s ∈ l, s.n = N := by
        obtain ⟨s, hs, ht⟩ := List.any_eq_true.1 HC.out
        exact ⟨s, hs, of_decide_eq_true ht⟩
      have HNE : Hold _ := ⟨hne⟩
      have HEX : Hold _ := ⟨hex⟩
      clear hnl hne hex
      go_wp2_with fail
      refine (check_e e (by omega) w2 p n c l ((HP.out.below HB2.out).wide (by omega)) hn HPS.out (fun s hs _ => HLIM.out s hs)).mono ?_
      rintro en w3 ⟨rfl, hb3⟩
      rw [if_neg HNE.out]
      have HE : Hold _ := ⟨bstep HX.out (bstep HB2.out hb3)⟩
      clear hb3
      by_cases hch : ChainP [] l
      · rw [if_pos hch]
        have HA : Hold (ANS = true) := ⟨by rw [← HANS.out]; exact decide_eq_true (.inr ⟨hch, HEX.out⟩)⟩
        clear hch
        go_wp2
        go_ret
        exact ⟨by rw [HA.out]; rfl, HE.out⟩
      · rw [if_neg hch]
        have HA : Hold (ANS = false) := ⟨by
          rw [← HANS.out]
          refine decide_eq_false fun hh => ?_
          rcases hh with hh | hh
          · exact of_decide_eq_false HS.out hh
          · exact hch hh.1⟩
        clear hch
        go_wp2
        go_ret
        exact ⟨by rw [HA.out]; rfl, HE.out⟩

end Go.Proofs.YtblaplcknhpjnaaGreatDoor

namespace Go.Proofs.YtblaplcknhpjnaaGreatDoor
open Go Go.RowKit Go.Proofs.YtblaplcknhpjnaaGreatDoor.Flow
set_option maxRecDepth 100000

set_option maxHeartbeats 1000000 in
set_option maxRecDepth 100000 in
theorem plong_asks (w : World) (e : Nat) (Ns : List Nat) (he : e ≤ 32) : Asks 109 #[] w e Ns (fun _ => false) := by
  refine ⟨fun W M u _ _ hu => ?_⟩
  rw [Array.append_empty]
  obtain ⟨p, n, c, rfl, h1, h2⟩ := hu
  have hb1 := NatBox.made W (.slice p n c)
  have hbel : Below W.heap.size W (W.alloc (.cells #[.slice p n c] 36)) := (Below.refl _ _).alloc (Nat.le_refl _) _
  obtain ⟨wa, hwa⟩ : ∃ wa, W.alloc (.cells #[.slice p n c] 36) = wa := ⟨_, rfl⟩
  rw [hwa] at hb1 hbel
  have HF : Hold _ := ⟨(Fit.of h1 h2).below hbel⟩
  have HB : Hold _ := ⟨hbel⟩
  have hs := bsize_fit he h2
  have c0 := hb1.cell
  clear h1 h2 hb1 hbel
  go_enter Tryz.func109, Tryz.ntmps109
  go_wp2_with fail
  refine (bytesOf_fit HF.out (by omega)).mono ?_
  rintro en w1 ⟨rfl, hb1⟩
  have HB1 : Hold _ := ⟨bstep HB.out hb1⟩
  obtain ⟨sz, hsz⟩ : ∃ s, bsize M = s := ⟨_, rfl⟩
  rw [hsz] at hs ⊢
  have hn : decide ((128 : Int) < (sz : Int)) = false := decide_eq_false (by omega)
  have HN : Hold _ := ⟨hn⟩
  clear hb1 c0 hsz hn
  go_wp2
  go_ret
  exact ⟨by rw [← HN.out]; rfl, HB1.out⟩

theorem plist3 {w : World} {e b P Q G : Nat} {x y z : Option Addr × Nat × Nat} (hb : w.heap[b]? = some (.cells #[.slice x.1 x.2.1 x.2.2, .slice y.1 y.2.1 y.2.2, .slice z.1 z.2.1 z.2.2] 36 (0, 0))) (hP : At3 w x P) (lP : P < B32 e) (hQ : At3 w y Q) (lQ : Q < B32 e) (hG : At3 w z G) (lG : G < B32 e) :
    PList w e (some ⟨b, 0, none⟩) 3 3 [P, Q, G] := by
  refine ⟨rfl, Nat.le_refl _, by decide, (fun h => by cases h), fun _ => ⟨b, 0, rfl, (Array.getElem?_eq_some_iff.1 hb).1, fun i N hN => ?_⟩⟩
  match i, hN with
  | 0, hN => cases hN; exact ⟨x.1, x.2.1, x.2.2, by simp [World.cell?, hb], hP, lP⟩
  | 1, hN => cases hN; exact ⟨y.1, y.2.1, y.2.2, by simp [World.cell?, hb], hQ, lQ⟩
  | 2, hN => cases hN; exact ⟨z.1, z.2.1, z.2.2, by simp [World.cell?, hb], hG, lG⟩
  | i + 3, hN => simp at hN

set_option maxHeartbeats 4000000 in
set_option maxRecDepth 1000000 in
theorem plong_fit {w : World} {e P Q G : Nat} {x y z : Option Addr × Nat × Nat} {ps : Option Addr} {ns cs : Nat} (hP : At3 w x P) (lP : P < B32 e) (hQ : At3 w y Q) (lQ : Q < B32 e) (hG : At3 w z G) (lG : G < B32 e) (he : e ≤ 32) :
    Calls Tryz.prog 77 #[.agg #[.slice x.1 x.2.1 x.2.2, .slice y.1 y.2.1 y.2.2, .slice z.1 z.2.1 z.2.2, .slice ps ns cs]] w fun en w' => en = .returned (.bool (decide (128 < ns))) ∧ Below w.heap.size w w' := by
  have hX0 := Box4.made 74 w (.slice x.1 x.2.1 x.2.2) (.slice y.1 y.2.1 y.2.2) (.slice z.1 z.2.1 z.2.2) (.slice ps ns cs)
  have hba : Below w.heap.size w (w.alloc (.cells #[.slice x.1 x.2.1 x.2.2, .slice y.1 y.2.1 y.2.2, .slice z.1 z.2.1 z.2.2, .slice ps ns cs] 74)) := (Below.refl _ _).alloc (Nat.le_refl _) _
  obtain ⟨wa, hwa⟩ : ∃ wa, w.alloc (.cells #[.slice x.1 x.2.1 x.2.2, .slice y.1 y.2.1 y.2.2, .slice z.1 z.2.1 z.2.2, .slice ps ns cs] 74) = wa := ⟨_, rfl⟩
  rw [hwa] at hX0 hba
  have hb2 : Below wa.heap.size wa (wa.alloc (.cells #[.slice x.1 x.2.1 x.2.2, .slice y.1 y.2.1 y.2.2, .slice z.1 z.2.1 z.2.2] 36)) := (Below.refl _ _).alloc (Nat.le_refl _) _
  have hl : (wa.alloc (.cells #[.slice x.1 x.2.1 x.2.2, .slice y.1 y.2.1 y.2.2, .slice z.1 z.2.1 z.2.2] 36)).heap[wa.heap.size]? = some (.cells #[.slice x.1 x.2.1 x.2.2, .slice y.1 y.2.1 y.2.2, .slice z.1 z.2.1 z.2.2] 36 (0, 0)) := heap_alloc_new wa _
  obtain ⟨w2, hw2⟩ : ∃ w2, wa.alloc (.cells #[.slice x.1 x.2.1 x.2.2, .slice y.1 y.2.1 y.2.2, .slice z.1 z.2.1 z.2.2] 36) = w2 := ⟨_, rfl⟩
  rw [hw2] at hb2 hl
  have hb02 := bstep hba hb2
  have HL : Hold _ := ⟨plist3 hl (NatAt.below hP hb02) lP (NatAt.below hQ hb02) lQ (NatAt.below hG hb02) lG⟩
  have HB2 : Hold _ := ⟨hb02⟩
  have HX2 : Hold _ := ⟨hX0.below hb2 hX0.lt⟩
  have HA : Hold _ := ⟨plong_asks w2 e [P, Q, G] he⟩
  have cw := hX0.cells.1
  have cx := hX0.cells.2.1
  have cy := hX0.cells.2.2.1
  clear hP hQ hG lP lQ lG hX0 hba hb2 hl hb02
  go_enter Tryz.func77, Tryz.ntmps77
  go_wp2_with fail
  refine (nany_calls _ e _ 3 3 [P, Q, G] _ _ (enters_of Tryz.func109 (by kernel_rfl) rfl) _ HL.out HA.out).mono ?_
  rintro en w3 ⟨rfl, hb3⟩
  have HB3 : Hold _ := ⟨bstep HB2.out hb3⟩
  have c3 := (HX2.out.below hb3 HX2.out.lt).cells.2.2.2
  clear hb3 cw cx cy
  rw [show ([P, Q, G].any fun _ => false) = false from rfl]
  by_cases hn : 128 < ns
  · have HN : Hold (decide (128 < ns) = true) := ⟨decide_eq_true hn⟩
    have HD : Hold (decide ((128 : Int) < (ns : Int)) = true) := ⟨decide_eq_true (by omega)⟩
    clear hn
    go_wp2
    go_ret
    exact ⟨by rw [HN.out, ← HD.out]; rfl, HB3.out⟩
  · have HN : Hold (decide (128 < ns) = false) := ⟨decide_eq_false hn⟩
    have HD : Hold (decide ((128 : Int) < (ns : Int)) = false) := ⟨decide_eq_false (by omega)⟩
    clear hn
    go_wp2
    go_ret
    exact ⟨by rw [HN.out, ← HD.out]; rfl, HB3.out⟩

/-- A group that is being made, as a value; where it lies. -/
structure GVal (r1 r2 : Nat) (pz : Option Addr) (nz cz G : Nat) (v : Value) (w : World) : Prop where
  ex : ∃ pg ng cg, v = .agg #[.pointer (some ⟨r1, 0, none⟩), .pointer (some ⟨r2, 0, none⟩), .slice pg ng cg, .slice pz nz cz] ∧ NatAt w pg ng cg G
theorem GVal.below {r1 r2 : Nat} {pz : Option Addr} {nz cz G : Nat} {v : Value} {w w' : World} (h : GVal r1 r2 pz nz cz G v w) (hb : Below w.heap.size w w') : GVal r1 r2 pz nz cz G v w' :=
  let ⟨pg, ng, cg, h1, h2⟩ := h.ex
  ⟨pg, ng, cg, h1, h2.below hb⟩
structure GPtr (r1 r2 : Nat) (pz : Option Addr) (nz cz G : Nat) (v : Value) (w : World) : Prop where
  ex : ∃ b pg ng cg, v = .pointer (some ⟨b, 0, none⟩) ∧ w.heap[b]? = some (.cells #[.pointer (some ⟨r1, 0, none⟩), .pointer (some ⟨r2, 0, none⟩), .slice pg ng cg, .slice pz nz cz] 83 (0, 0)) ∧ NatAt w pg ng cg G
theorem GPtr.below {r1 r2 : Nat} {pz : Option Addr} {nz cz G : Nat} {v : Value} {w w' : World} (h : GPtr r1 r2 pz nz cz G v w) (hb : Below w.heap.size w w') : GPtr r1 r2 pz nz cz G v w' :=
  let ⟨b, pg, ng, cg, h1, h2, h3⟩ := h.ex
  ⟨b, pg, ng, cg, h1, by rw [hb.block b (Array.getElem?_eq_some_iff.1 h2).1]; exact h2, h3.below hb⟩

open Classical in
set_option maxHeartbeats 4000000 in
set_option maxRecDepth 1000000 in
theorem gnew_fit {w : World} {e P Q G : Nat} {x y z : Option Addr × Nat × Nat} {ps : Option Addr} {ns cs : Nat} {seed : List Nat} {pc : Option Addr} {nc cc : Nat} {l : List StepN} (hT : Tabs w) (hP : At3 w x P) (lP : P < B32 e) (hQ : At3 w y Q) (lQ : Q < B32 e) (hG : At3 w z G) (lG : G < B32 e) (hS : PartOk w ⟨ps, ns, cs, seed⟩) (hC : PSteps w e pc nc cc l) (hn : nc ≤ 60) (hps : ∀ s ∈ l, s.ps.length ≤ 1000) (he : e ≤ 32) :
    Calls Tryz.prog 41 #[.agg #[.slice x.1 x.2.1 x.2.2, .slice y.1 y.2.1 y.2.2, .slice z.1 z.2.1 z.2.2, .slice ps ns cs], .slice pc nc cc] w fun en w' =>
      (128 < ns → en = .returned (.tuple #[.pointer none, .int .i64 4])) ∧
      (ns ≤ 128 → (newSpec P Q G seed l).1 = 0 → ∃ b, en = .returned (.tuple #[.pointer (some ⟨b, 0, none⟩), .int .i64 0]) ∧ GroupAt w' b P Q G (newSpec P Q G seed l).2) ∧
      (ns ≤ 128 → (newSpec P Q G seed l).1 ≠ 0 → en = .returned (.tuple #[.pointer none, .int .i64 ((newSpec P Q G seed l).1 : Nat)])) ∧ Below w.heap.size w w' := by
  have hX0 := Box4.made 74 w (.slice x.1 x.2.1 x.2.2) (.slice y.1 y.2.1 y.2.2) (.slice z.1 z.2.1 z.2.2) (.slice ps ns cs)
  have hba : Below w.heap.size w (w.alloc (.cells #[.slice x.1 x.2.1 x.2.2, .slice y.1 y.2.1 y.2.2, .slice z.1 z.2.1 z.2.2, .slice ps ns cs] 74)) := (Below.refl _ _).alloc (Nat.le_refl _) _
  obtain ⟨wa, hwa⟩ : ∃ wa, w.alloc (.cells #[.slice x.1 x.2.1 x.2.2, .slice y.1 y.2.1 y.2.2, .slice z.1 z.2.1 z.2.2, .slice ps ns cs] 74) = wa := ⟨_, rfl⟩
  rw [hwa] at hX0 hba
  obtain ⟨SP, hSP⟩ : ∃ X, newSpec P Q G seed l = X := ⟨_, rfl⟩
  rw [hSP]
  have HSP : Hold _ := ⟨hSP⟩
  obtain ⟨TP, hTP⟩ : ∃ X, decide (Told P l) = X := ⟨_, rfl⟩
  obtain ⟨TQ, hTQ⟩ : ∃ X, decide (Told Q l) = X := ⟨_, rfl⟩
  obtain ⟨RI, hRI⟩ : ∃ X, decide (RightG P Q G) = X := ⟨_, rfl⟩
  have HTP : Hold _ := ⟨hTP⟩
  have HTQ : Hold _ := ⟨hTQ⟩
  have HRI : Hold _ := ⟨hRI⟩
  have HX : Hold _ := ⟨hX0⟩
  have HB : Hold _ := ⟨hba⟩
  have HP : Hold (Fit e P (.agg #[.slice x.1 x.2.1 x.2.2]) w) := ⟨Fit.of hP lP⟩
  have HQ : Hold (Fit e Q (.agg #[.slice y.1 y.2.1 y.2.2]) w) := ⟨Fit.of hQ lQ⟩
  have HG : Hold (Fit e G (.agg #[.slice z.1 z.2.1 z.2.2]) w) := ⟨Fit.of hG lG⟩
  have HC : Hold _ := ⟨hC⟩
  have HT : Hold _ := ⟨hT⟩
  have HS : Hold _ := ⟨hS⟩
  have HPS : Hold _ := ⟨hps⟩
  have cw := hX0.cells.1
  have cx := hX0.cells.2.1
  have cy := hX0.cells.2.2.1
  have cz := hX0.cells.2.2.2
  clear hSP hTP hTQ hRI hX0 hba hC hps hT hS
  go_enter Tryz.func41, Tryz.ntmps41
  go_wp2_with fail
  refine (plong_fit (x := x) (y := y) (z := z) (NatAt.below hP HB.out) lP (NatAt.below hQ HB.out) lQ (NatAt.below hG HB.out) lG he).mono ?_
  rintro en w1 ⟨rfl, hb1⟩
  have HB1 : Hold _ := ⟨bstep HB.out hb1⟩
  have HX1 : Hold _ := ⟨HX.out.below hb1 HX.out.lt⟩
  clear hb1 cw cx cy cz HX
  by_cases hl : 128 < ns
  · rw [decide_eq_true hl]
    have HL : Hold _ := ⟨hl⟩
    clear hl
    go_wp2
    refine bodyPost_ret (v := .tuple #[.pointer none, .int .i64 4]) (by simp [results, Tryz.results41, go_sem]) rfl ?_
    exact ⟨fun _ => rfl, fun h => absurd HL.out (by omega), fun h => absurd HL.out (by omega), HB1.out⟩
  rw [decide_eq_false hl]
  have HL : Hold _ := ⟨hl⟩
  clear hl
  have cw := HX1.out.cells.1
  have cx := HX1.out.cells.2.1
  go_wp2_with fail
  refine (prime_e e he w1 P _ pc nc cc l (HP.out.below HB1.out) (HC.out.below HB1.out) hn HPS.out).mono ?_
  rintro en w2 ⟨rfl, hb2⟩
  rw [show decide (SmallP P ∨ (ChainP [] l ∧ ∃ s ∈ l, s.n = P)) = TP from (decide_eq_decide.2 (show (SmallP P ∨ (ChainP [] l ∧ ∃ s ∈ l, s.n = P)) ↔ Told P l from Iff.rfl)).trans HTP.out]
  have HB2 : Hold _ := ⟨bstep HB1.out hb2⟩
  have HX2 : Hold _ := ⟨HX1.out.below hb2 HX1.out.lt⟩
  clear hb2 cw cx HX1
  cases TP with
  | false =>
    have hS0 : SP = (8, 0) := by rw [← HSP.out]; exact if_neg fun h => of_decide_eq_false HTP.out h.1
    have HS0 : Hold _ := ⟨hS0⟩
    clear hS0
    go_wp2
    refine bodyPost_ret (v := .tuple #[.pointer none, .int .i64 8]) (by simp [results, Tryz.results41, go_sem]) rfl ?_
    exact ⟨fun h => absurd h HL.out, (fun _ h => by rw [HS0.out] at h; cases h), (fun _ _ => by rw [HS0.out]; rfl), HB2.out⟩
  | true =>
    have cx := HX2.out.cells.2.1
    go_wp2_with fail
    refine (prime_e e he w2 Q _ pc nc cc l (HQ.out.below HB2.out) (HC.out.below HB2.out) hn HPS.out).mono ?_
    rintro en w3 ⟨rfl, hb3⟩
    rw [show decide (SmallP Q ∨ (ChainP [] l ∧ ∃ s ∈ l, s.n = Q)) = TQ from (decide_eq_decide.2 (show (SmallP Q ∨ (ChainP [] l ∧ ∃ s ∈ l, s.n = Q)) ↔ Told Q l from Iff.rfl)).trans HTQ.out]
    have HB3 : Hold _ := ⟨bstep HB2.out hb3⟩
    have HX3 : Hold _ := ⟨HX2.out.below hb3 HX2.out.lt⟩
    clear hb3 cx HX2
    cases TQ with
    | false =>
      have hS0 : SP = (8, 0) := by rw [← HSP.out]; exact if_neg fun h => of_decide_eq_false HTQ.out h.2
      have HS0 : Hold _ := ⟨hS0⟩
      clear hS0
      go_wp2
      refine bodyPost_ret (v := .tuple #[.pointer none, .int .i64 8]) (by simp [results, Tryz.results41, go_sem]) rfl ?_
      exact ⟨fun h => absurd h HL.out, (fun _ h => by rw [HS0.out] at h; cases h), (fun _ _ => by rw [HS0.out]; rfl), HB3.out⟩
    | true =>
      have hTo : Told P l ∧ Told Q l := ⟨of_decide_eq_true HTP.out, of_decide_eq_true HTQ.out⟩
      have h2P := (told_prime hTo.1).two
      have h2Q := (told_prime hTo.2).two
      have HTo : Hold _ := ⟨hTo⟩
      clear hTo
      have cw := HX3.out.cells.1
      have cx := HX3.out.cells.2.1
      go_wp2_with fail
      refine (rngnew_fit (HP.out.below HB3.out) (by omega)).mono ?_
      rintro en w4 ⟨hb4, hh⟩
      rcases hh with ⟨hlt, _⟩ | ⟨_, r1, rfl, hr1, _⟩
      · omega
      have HR1 : Hold _ := ⟨hr1⟩
      have HB4 : Hold _ := ⟨bstep HB3.out hb4⟩
      have HX4 : Hold _ := ⟨HX3.out.below hb4 HX3.out.lt⟩
      clear hb4 hr1 cw cx HX3
      have cx := HX4.out.cells.2.1
      go_wp2_with fail
      refine (rngnew_fit (HQ.out.below HB4.out) (by omega)).mono ?_
      rintro en w5 ⟨hb5, hh⟩
      rcases hh with ⟨hlt, _⟩ | ⟨_, r2, rfl, hr2, _⟩
      · omega
      have HR2 : Hold _ := ⟨hr2⟩
      have HR15 : Hold _ := ⟨HR1.out.below hb5⟩
      have HB5 : Hold _ := ⟨bstep HB4.out hb5⟩
      have HX5 : Hold _ := ⟨HX4.out.below hb5 HX4.out.lt⟩
      clear hb5 hr2 cx HX4 HR1
      have cw := HX5.out.cells.1
      have cx := HX5.out.cells.2.1
      have cy := HX5.out.cells.2.2.1
      have cz := HX5.out.cells.2.2.2
      go_wp2_with fail
      refine (right_fit (x := x) (y := y) (z := z) HR15.out (NatAt.below hP HB5.out) lP (NatAt.below hQ HB5.out) lQ (NatAt.below hG HB5.out) lG (by omega) (by omega) he (by omega)).mono ?_
      rintro en w6 ⟨rfl, hb6⟩
      rw [HRI.out]
      have HR16 : Hold _ := ⟨HR15.out.below hb6⟩
      have HR26 : Hold _ := ⟨HR2.out.below hb6⟩
      have HB6 : Hold _ := ⟨bstep HB5.out hb6⟩
      have HX6 : Hold _ := ⟨HX5.out.below hb6 HX5.out.lt⟩
      clear hb6 cw cx cy cz HX5 HR15 HR2
      cases RI with
      | false =>
        have hS0 : SP = (1, 0) := by rw [← HSP.out, newSpec, if_pos HTo.out, if_neg (of_decide_eq_false HRI.out)]
        have HS0 : Hold _ := ⟨hS0⟩
        clear hS0
        go_wp2
        refine bodyPost_ret (v := .tuple #[.pointer none, .int .i64 1]) (by simp [results, Tryz.results41, go_sem]) rfl ?_
        exact ⟨fun h => absurd h HL.out, (fun _ h => by rw [HS0.out] at h; cases h), (fun _ _ => by rw [HS0.out]; rfl), HB6.out⟩
      | true =>
        have cw := HX6.out.cells.1
        have cx := HX6.out.cells.2.1
        have cy := HX6.out.cells.2.2.1
        have cz := HX6.out.cells.2.2.2
        go_wp2_with fail
        refine (second_fit (x := x) (y := y) (z := z) (HT.out.below HB6.out HT.out.size) HR16.out he (NatAt.below hP HB6.out) lP (NatAt.below hQ HB6.out) lQ (by omega) (by omega) (HS.out.below HB6.out) he).mono ?_
        rintro en w7 ⟨pz, nz, cz, k, rfl, hb7, hyes, hno⟩
        obtain ⟨FH, hFH⟩ : ∃ X, firstH (fun c => hNum seed P c ^ ((P - 1) / Q) % P) 256 0 = X := ⟨_, rfl⟩
        rw [hFH] at hyes hno
        have HFH : Hold _ := ⟨hFH⟩
        have hb8 : Below w7.heap.size w7 (w7.alloc (.cells #[.slice pz nz cz] 36)) := (Below.refl _ _).alloc (Nat.le_refl _) _
        have hX10 := NatBox.made w7 (.slice pz nz cz)
        obtain ⟨w8, hw8⟩ : ∃ w8, w7.alloc (.cells #[.slice pz nz cz] 36) = w8 := ⟨_, rfl⟩
        rw [hw8] at hb8 hX10
        have hb68 := bstep hb7 hb8
        have HX8 : Hold _ := ⟨HX6.out.below hb68 HX6.out.lt⟩
        have HX10 : Hold _ := ⟨hX10⟩
        have HR18 : Hold _ := ⟨HR16.out.below hb68⟩
        have HR28 : Hold _ := ⟨HR26.out.below hb68⟩
        have HB8 : Hold _ := ⟨bstep HB6.out hb68⟩
        have HG8 : Hold _ := ⟨HG.out.below HB8.out⟩
        cases FH with
        | none =>
          obtain rfl := hno rfl
          have hS0 : SP = (6, 0) := by rw [← HSP.out, newSpec, if_pos HTo.out, if_pos (of_decide_eq_true HRI.out), HFH.out]
          have HS0 : Hold _ := ⟨hS0⟩
          clear hS0 hyes hno hFH hb7 hb8 hX10 hb68 cw cx cy
          go_wp2
          refine bodyPost_ret (v := .tuple #[.pointer none, .int .i64 6]) (by simp [results, Tryz.results41, go_sem]) rfl ?_
          exact ⟨fun h => absurd h HL.out, (fun _ h => by rw [HS0.out] at h; cases h), (fun _ _ => by rw [HS0.out]; rfl), HB8.out⟩
        | some H =>
          obtain ⟨rfl, hnz, lH⟩ := hyes H rfl
          have hS0 : SP = (0, H) := by rw [← HSP.out, newSpec, if_pos HTo.out, if_pos (of_decide_eq_true HRI.out), HFH.out]
          have HS0 : Hold _ := ⟨hS0⟩
          have HNZ : Hold _ := ⟨NatAt.below hnz hb8⟩
          have HLH : Hold (H < B32 33) := ⟨Nat.lt_of_lt_of_le lH (B32_mono (by omega))⟩
          have HGM : Hold (G % P = G) := ⟨Nat.mod_eq_of_lt (of_decide_eq_true HRI.out).2.2.2.1⟩
          have HLG : Hold (G < B32 33) := ⟨Nat.lt_of_lt_of_le lG (B32_mono (by omega))⟩
          have HBL : Hold (w.heap.size < w8.heap.size) := ⟨HX8.out.lt⟩
          clear hS0 hyes hno hFH hb7 hb8 hX10 hb68 hnz lH cw cx cy
          go_wp2
          refine wp_region_duties (by kernel_rfl) (by kernel_rfl)
            [some (.pointer (some ⟨r1, 0, none⟩)), some (.pointer (some ⟨r2, 0, none⟩)), some (.pointer (some ⟨r1, 0, none⟩)), some (.pointer (some ⟨w.heap.size, 2, none⟩)), some (.agg #[.slice z.1 z.2.1 z.2.2]), none, some (.agg #[.slice pz nz cz]), none, none, none, some (.int .i64 0)]
            [false, false, false, false, false, true, false, true, true, true, false] rfl
            (fun w1 w2 => Below w1.heap.size w1 w2)
            (fun _ w' => Below w8.heap.size w8 w')
            (fun i v w' => match i with
              | 5 => Fit e G v w'
              | 7 => GVal r1 r2 pz nz cz G v w'
              | 8 => GPtr r1 r2 pz nz cz G v w'
              | 9 => GPtr r1 r2 pz nz cz G v w'
              | _ => True)
            ?_ (Below.refl _ _).drew ?_ ?_
          · intro i v w1 w2 hf hb
            split at hf
            · exact hf.below hb
            · exact hf.below hb
            · exact hf.below hb
            · exact hf.below hb
            · trivial
          · simp only [Duties, Nat.reduceAdd]
            refine ⟨?_, ?_, ?_, ?_, ?_, ?_, ?_, ?_, ?_, ?_, ?_, trivial⟩
            case refine_1 =>
              intro D sp w' hD hW hdp hbx'
              (with_reducible refine asked_value (w1 := w') (v := .pointer (some ⟨r1, 0, none⟩)) ?_ ?_ ?_)
              · first | (simp only [Region.wanted]; done) | simp [Region.wanted, yielded, Act.put, go_sem]
              · simp [execOp, Act.eval, go_sem]
              · exact ⟨rfl, rfl⟩
            case refine_2 =>
              intro D sp w' hD hW hdp hbx'
              (with_reducible refine asked_value (w1 := w') (v := .pointer (some ⟨r2, 0, none⟩)) ?_ ?_ ?_)
              · first | (simp only [Region.wanted]; done) | simp [Region.wanted, yielded, Act.put, go_sem]
              · simp [execOp, Act.eval, Act.put, go_sem]
              · exact ⟨rfl, rfl⟩
            case refine_3 =>
              intro D sp w' hD hW hdp hbx'
              (with_reducible refine asked_value (w1 := w') (v := .pointer (some ⟨r1, 0, none⟩)) ?_ ?_ ?_)
              · first | (simp only [Region.wanted]; done) | simp [Region.wanted, yielded, Act.put, go_sem]
              · simp [execOp, Act.eval, Act.put, go_sem]
              · exact ⟨rfl, rfl⟩
            case refine_4 =>
              intro D sp w' hD hW hdp hbx'
              (with_reducible refine asked_value (w1 := w') (v := .pointer (some ⟨w.heap.size, 2, none⟩)) ?_ ?_ ?_)
              · first | (simp only [Region.wanted]; done) | simp [Region.wanted, yielded, Act.put, go_sem]
              · simp [execOp, Act.eval, Act.put, go_sem]
              · exact ⟨rfl, rfl⟩
            case refine_5 =>
              intro D sp w' hD hW hdp hbx'
              have c2 := (Box4.cells ⟨(hbx'.block w.heap.size HBL.out).trans HX8.out.at_⟩).2.2.1
              (with_reducible refine asked_value (w1 := w') (v := .agg #[.slice z.1 z.2.1 z.2.2]) ?_ ?_ ?_)
              · first | (simp only [Region.wanted]; done) | simp [Region.wanted, yielded, Act.put, go_sem]
              · simp [execOp, Act.eval, Act.put, go_sem, c2]
              · exact ⟨rfl, rfl⟩
            case refine_6 =>
              intro D sp w' hD hW hdp hbx'
              (with_reducible refine asked_call (w1 := w') (f := 31) (args := #[.pointer (some ⟨r1, 0, none⟩), .agg #[.slice z.1 z.2.1 z.2.2]]) ?_ ?_ ?_)
              · first | (simp only [Region.wanted]; done) | simp [Region.wanted, yielded, Act.put, go_sem]
              · simp [Act.eval, Act.put, go_sem]
              · refine (rof_fit (HR18.out.below hbx') (HG8.out.below hbx') (by omega)).mono ?_
                rintro en w9 ⟨u, rfl, hu, hb⟩
                rw [HGM.out] at hu
                exact ⟨u, rfl, hb, hu, bstep hbx' hb⟩
            case refine_7 =>
              intro D sp w' hD hW hdp hbx'
              have c0 : w'.cell? ⟨w7.heap.size, 0, none⟩ = some (.slice pz nz cz) := NatBox.cell (HX10.out.below hbx' HX10.out.lt)
              (with_reducible refine asked_value (w1 := w') (v := .agg #[.slice pz nz cz]) ?_ ?_ ?_)
              · first | (simp only [Region.wanted]; done) | simp [Region.wanted, yielded, Act.put, go_sem]
              · simp [execOp, Act.eval, Act.put, go_sem, c0]
              · exact ⟨rfl, rfl⟩
            case refine_8 =>
              intro D sp w' hD hW hdp hbx'
              have k5 : Fit e G (sp 5) w' := (hdp 5 (List.mem_of_elem_eq_true (by kernel_rfl))).2
              have hx : ∃ pg ng cg, sp 5 = .agg #[.slice pg ng cg] ∧ NatAt w' pg ng cg G ∧ G < B32 e := k5
              (with_reducible refine Exists.elim hx fun pg hx1 => ?_)
              (with_reducible refine Exists.elim hx1 fun ng hx2 => ?_)
              (with_reducible refine Exists.elim hx2 fun cg hx3 => ?_)
              have h1 := hx3.1
              (with_reducible refine asked_value (w1 := w') (v := .agg #[.pointer (some ⟨r1, 0, none⟩), .pointer (some ⟨r2, 0, none⟩), .slice pg ng cg, .slice pz nz cz]) ?_ ?_ ?_)
              · simp only [Region.wanted]
              · simp [execOp, Act.eval, Act.put, go_sem, h1]
              · exact ⟨Below.refl _ _, ⟨pg, ng, cg, rfl, hx3.2.1⟩, hbx'⟩
            case refine_9 =>
              intro D sp w' hD hW hdp hbx'
              have k7 : GVal r1 r2 pz nz cz G (sp 7) w' := (hdp 7 (List.mem_of_elem_eq_true (by kernel_rfl))).2
              (with_reducible refine Exists.elim k7.ex fun pg hx1 => ?_)
              (with_reducible refine Exists.elim hx1 fun ng hx2 => ?_)
              (with_reducible refine Exists.elim hx2 fun cg hx3 => ?_)
              have h1 := hx3.1
              (with_reducible refine asked_value (w1 := w'.alloc (.cells #[.pointer (some ⟨r1, 0, none⟩), .pointer (some ⟨r2, 0, none⟩), .slice pg ng cg, .slice pz nz cz] 83)) (v := .pointer (some ⟨w'.heap.size, 0, none⟩)) ?_ ?_ ?_)
              · simp only [Region.wanted]
              · simp [execOp, Act.eval, Act.put, go_sem, h1]
              · have hb : Below w'.heap.size w' (w'.alloc (.cells #[.pointer (some ⟨r1, 0, none⟩), .pointer (some ⟨r2, 0, none⟩), .slice pg ng cg, .slice pz nz cz] 83)) := (Below.refl _ _).alloc (Nat.le_refl _) _
                exact ⟨hb, ⟨w'.heap.size, pg, ng, cg, rfl, heap_alloc_new w' _, hx3.2.below hb⟩, bstep hbx' hb⟩
            case refine_10 =>
              intro D sp w' hD hW hdp hbx'
              have k8 : GPtr r1 r2 pz nz cz G (sp 8) w' := (hdp 8 (List.mem_of_elem_eq_true (by kernel_rfl))).2
              (with_reducible refine asked_value (w1 := w') (v := sp 8) ?_ ?_ ?_)
              · simp only [Region.wanted]
              · simp [execOp, Act.eval, Act.put, go_sem]
              · exact ⟨Below.refl _ _, k8, hbx'⟩
            case refine_11 =>
              intro D sp w' hD hW hdp hbx'
              (with_reducible refine asked_value (w1 := w') (v := .int .i64 0) ?_ ?_ ?_)
              · first | (simp only [Region.wanted]; done) | simp [Region.wanted, yielded, Act.put, go_sem]
              · simp [execOp, Act.eval, go_sem]
              · exact ⟨rfl, rfl⟩
          · intro sp w9 hsp hbx'
            have hg : GPtr r1 r2 pz nz cz G (sp 9) w9 := hsp 9 rfl
            obtain ⟨b, pg, ng, cg, he9, hh, hng⟩ := hg.ex
            have HH : Hold _ := ⟨hh⟩
            have HNG : Hold _ := ⟨hng⟩
            have HNZ9 : Hold _ := ⟨NatAt.below HNZ.out hbx'⟩
            have HR19 : Hold _ := ⟨(HR18.out.below hbx').wide (f := 33) (by omega) (by decide)⟩
            have HR29 : Hold _ := ⟨(HR28.out.below hbx').wide (f := 33) (by omega) (by decide)⟩
            have HB9 : Hold _ := ⟨bstep HB8.out hbx'⟩
            clear hsp hbx' hg hh hng
            simp only [frameOf, Nat.reduceAdd]
            rw [he9]
            clear he9
            generalize sp 5 = y5 at *
            generalize sp 7 = y7 at *
            generalize sp 8 = y8 at *
            go_simp
            go_wp2
            refine bodyPost_ret (v := .tuple #[.pointer (some ⟨b, 0, none⟩), .int .i64 0]) (by simp [results, Tryz.results41, go_sem]) rfl ?_
            refine ⟨fun h => absurd h HL.out, fun _ _ => ⟨b, rfl, ?_⟩, fun _ h => absurd (by rw [HS0.out]) h, HB9.out⟩
            rw [HS0.out]
            exact ⟨r1, r2, pg, ng, cg, pz, nz, cz, HH.out, HR19.out, HR29.out, HNG.out, HLG.out, HNZ9.out, HLH.out⟩

end Go.Proofs.YtblaplcknhpjnaaGreatDoor
