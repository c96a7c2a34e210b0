/- SlabLasts, whole. -/
import Derived.Test.YtpodoleopebioaaSlP
namespace Go.Proofs.Ytpodoleopebioaa
open Go Go.RowKit Go.Maps Go.Proofs.Ytpodoleopebioaa.Flow
set_option maxRecDepth 100000

/-- A sector is burnt so, and not inked. -/
structure LIn (S : SM) (a x : Nat) : Prop where
  n : S.n = 32
  bur : S.bur a = plainN x
  ink : S.ink a = none
theorem LIn.first {a x : Nat} (ha : a < 32) : ((SM.new 32).put (a : Nat) (plainN x)).1 = 0 ∧ ((SM.new 32).put (a : Nat) (plainN x)).2.burn.1 = 0 ∧ LIn ((SM.new 32).put (a : Nat) (plainN x)).2.burn.2 a x := by
  rw [put_endless (S := SM.new 32) rfl ha (plainN_len x)]
  have s1 := inkAt_sup (S := SM.new 32) rfl a (plainN x)
  obtain ⟨_, h2, h3, h4⟩ := burn_endless s1
  have hin : ((SM.new 32).inkAt a (plainN x)).ink a = some (plainN x) := by show (if a = a then _ else _) = _; rw [if_pos rfl]
  have hmem : a ∈ ((SM.new 32).inkAt a (plainN x)).inked := SM.mem_inked.2 ⟨ha, by rw [hin]; rfl⟩
  refine ⟨rfl, ?_, h2, ?_, ?_⟩
  · unfold SM.burn
    rw [s1, if_neg (by decide), SM.burnL_err _ _ (by rw [s1]; omega), if_pos (.inl s1)]
  · rw [h3 a, if_pos hmem]
    unfold SM.shown
    rw [hin]; rfl
  · rw [h4 a, if_pos hmem]
theorem LIn.deed {S : SM} {a x : Nat} (hok : S.Ok) (h : LIn S a x) (d : DeedN) (hd : ¬ (d.kind = 0 ∧ d.at_ = (a : Int))) : LIn (S.deed d) a x := by
  unfold SM.deed
  split
  · rename_i h0
    have hne : d.at_ ≠ (a : Int) := fun e => hd ⟨h0, e⟩
    unfold SM.put
    split
    · exact h
    · rename_i hr
      split
      · exact h
      · have h9 := SM.reach_zero (S := S) (k := d.at_) (by omega)
        refine ⟨h.n, h.bur, ?_⟩
        show (if a = d.at_.toNat then some (plainN d.x) else S.ink a) = none
        rw [if_neg (by omega)]; exact h.ink
  · split
    · unfold SM.burn
      split
      · exact h
      · obtain ⟨h1, h2, h3, _⟩ := SM.burnL_at S.inked S (SM.inked_nodup S) hok.sup.1
        have hs : S.shown a = S.bur a := by unfold SM.shown; rw [h.ink]; rfl
        refine ⟨h3.trans h.n, ?_, ?_⟩
        · rw [h1 a, hs, ite_self]; exact h.bur
        · rw [h2 a, h.ink, ite_self]
    · split
      · unfold SM.supply
        split
        · exact h
        · exact ⟨h.n, h.bur, h.ink⟩
      · split
        · refine ⟨h.n, ?_, rfl⟩
          show S.wakes d.scars a = _
          unfold SM.wakes
          rw [h.ink]
          exact h.bur
        · exact h

set_option maxHeartbeats 4000000 in
set_option maxRecDepth 1000000 in
theorem slasts_calls (w : World) (s : Int) {x : Nat} (hx : x < 256) {p : Option Addr} {n c : Nat} {l : List DeedN} {ts : List (Option Addr × Nat × Nat)} (hl : DeedsIn w p n c l ts) :
    Calls Try.prog 4 #[.int .i64 s, .int .u8 (x : Nat), .slice p n c] w fun e w' => e = .returned (.bool true) ∧ Below w.heap.size w w' := by
  obtain ⟨a, hsa, ha⟩ := rest_is3 s 32 (by omega)
  have hu1 := wrap_pos s
  replace hsa : IntKind.u64.wrap s % 32 = (a : Int) := hsa
  have HA : Hold (a < 32) := ⟨ha⟩
  have HX : Hold _ := ⟨hx⟩
  have HD : Hold _ := ⟨hl⟩
  have hmax : n ≤ 9223372036854775807 := Nat.le_trans hl.cap hl.max
  clear ha hx hl
  go_enter Try.func4, Try.ntmps4
  go_wp2_with fail
  refine (new_calls w 32).mono ?_
  rintro e w1 (⟨h9, _⟩ | ⟨_, _, b, g, m, rfl, hb, hg, hm, hs, hbl⟩)
  · exact absurd (by omega) h9
  have HN : Hold (w.heap.size ≤ b ∧ w.heap.size ≤ g ∧ w.heap.size ≤ m) := ⟨hb, hg, hm⟩
  have HB1 : Hold _ := ⟨hbl⟩
  have HS1 : Hold (SlabAt w1 b g m (SM.new 32)) := ⟨hs⟩
  clear hb hg hm hs hbl
  go_wp2_with fail
  refine (lives15_calls w1).mono ?_
  rintro e w2 ⟨rfl, hb2⟩
  have HS2 : Hold (SlabAt w2 b g m (SM.new 32)) := ⟨HS1.out.later hb2⟩
  have HB2 : Hold (Below w.heap.size w w2) := ⟨bstepS HB1.out hb2⟩
  clear hb2
  go_wp2_with fail
  refine (few_calls (HD.out.below HB2.out)).mono ?_
  rintro e w3 ⟨B, rfl, hb3⟩
  have HS3 : Hold (SlabAt w3 b g m (SM.new 32)) := ⟨HS2.out.later hb3⟩
  have HB3 : Hold (Below w.heap.size w w3) := ⟨bstepS HB2.out hb3⟩
  clear hb3
  cases B with
  | false =>
    clear hsa hu1
    go_wp2_with fail
    refine (lives15_calls w3).mono ?_
    rintro e w4 ⟨rfl, hb4⟩
    have HB4 : Hold (Below w.heap.size w w4) := ⟨bstepS HB3.out hb4⟩
    clear hb4
    go_wp2
    go_ret
    exact ⟨rfl, HB4.out⟩
  | true =>
    obtain ⟨f1, f2, f3⟩ := LIn.first (x := x) HA.out
    have HF1 : Hold _ := ⟨f1⟩
    have HF2 : Hold _ := ⟨f2⟩
    have HF3 : Hold _ := ⟨f3⟩
    clear f1 f2 f3
    go_wp2_with fail
    refine (plain_o HS3.out HX.out).mono ?_
    rintro e w4 ⟨v, rfl, hv, hb4⟩
    have HV : Hold _ := ⟨hv⟩
    have HS4 : Hold _ := ⟨HS3.out.later hb4⟩
    have HB4 : Hold (Below w.heap.size w w4) := ⟨bstepS HB3.out hb4⟩
    clear hv hb4 hsa hu1
    go_wp2_with fail
    refine (ink_plain HS4.out (a : Nat) HV.out HX.out).mono ?_
    rintro e w5 ⟨rfl, hs, ho⟩
    rw [HF1.out]
    have HS5 : Hold _ := ⟨hs⟩
    have HB5 : Hold (Below w.heap.size w w5) := ⟨HB4.out.trans (ho.below HB4.out.size HN.out.1 HN.out.2.1 HN.out.2.2)⟩
    clear hs ho
    go_wp2_with fail
    refine (burn_calls HS5.out).mono ?_
    rintro e w6 ⟨rfl, hs, ho⟩
    rw [HF2.out]
    have HS6 : Hold _ := ⟨hs⟩
    have HB6 : Hold (Below w.heap.size w w6) := ⟨HB5.out.trans (ho.below HB5.out.size HN.out.1 HN.out.2.1 HN.out.2.2)⟩
    clear hs ho
    go_wp2
    go_loopw [46] (fun iv wr => ∃ (k : Nat) (S : SM), k ≤ n ∧ iv = .int .i64 k ∧ Hold (SlabAt wr b g m S) ∧ Hold (LIn S a x) ∧ Hold (Below w.heap.size w wr)) (fun iv _ => n - (intOf iv).toNat)
    case atStart => exact ⟨0, _, by omega, rfl, HS6, HF3, HB6⟩
    case round =>
      obtain ⟨k, S, hk, rfl, HSk, HLk, HBk⟩ := hrel
      by_cases hkn : k < n
      · have hkn' : (k : Int) < n := by omega
        obtain ⟨d, hd⟩ : ∃ d, l[k]? = some d := ⟨l[k]'(by rw [← HD.out.len]; exact hkn), List.getElem?_eq_getElem _⟩
        obtain ⟨t, ht⟩ : ∃ t, ts[k]? = some t := ⟨ts[k]'(by rw [HD.out.tlen, ← HD.out.len]; exact hkn), List.getElem?_eq_getElem _⟩
        obtain ⟨pb, off, e, _, hat0⟩ := HD.out.at_ (by omega)
        obtain ⟨c0, c1, c2, c3, c4, _⟩ := (hat0 k d t hd ht).below HBk.out
        have HOK : Hold _ := ⟨(hat0 k d t hd ht).ok⟩
        subst e
        obtain ⟨dk, da, dn, dx, ds⟩ := d
        obtain ⟨t1, tn, tc⟩ := t
        have HSn : Hold (SlabAt (wr.alloc (.cells #[.int .i64 dk, .int .i64 da, .int .i64 dn, .int .u8 (dx : Nat), .slice t1 tn tc] 44)) b g m S) := ⟨HSk.out.later ((Below.refl _ _).alloc (Nat.le_refl _) _)⟩
        have HBn : Hold (Below w.heap.size w (wr.alloc (.cells #[.int .i64 dk, .int .i64 da, .int .i64 dn, .int .u8 (dx : Nat), .slice t1 tn tc] 44))) := ⟨HBk.out.alloc HBk.out.size _⟩
        clear hat0 hd ht
        by_cases hz : dk = 0 ∧ da = (a : Int)
        · obtain ⟨h1, h2⟩ := hz
          subst h1
          subst h2
          go_wp2
          go_roundw
          case rel => exact ⟨k + 1, S, by omega, by go_num, HSn, HLk, HBn⟩
          case measure => simp [intOf]; omega
        · have HNZ : Hold _ := ⟨hz⟩
          have HDO : Hold _ := ⟨do_raw HSn.out HOK.out HBn.out HN.out⟩
          by_cases h0 : dk = 0
          · have h1 : ¬ da = (a : Int) := fun e => hz ⟨h0, e⟩
            subst h0
            clear hz
            go_wp2_with fail
            refine HDO.out.mono ?_
            rintro e w7 ⟨rfl, hs, ho⟩
            have HS7 : Hold _ := ⟨hs⟩
            have HL7 : Hold _ := ⟨HLk.out.deed HSk.out.ok ⟨0, da, dn, dx, ds⟩ (fun e => h1 e.2)⟩
            have HB7 : Hold (Below w.heap.size w w7) := ⟨HBn.out.trans (ho.below HBn.out.size HN.out.1 HN.out.2.1 HN.out.2.2)⟩
            clear hs ho c0 c1 c2 c3 c4
            go_wp2
            go_roundw
            case rel => exact ⟨k + 1, _, by omega, by go_num, HS7, HL7, HB7⟩
            case measure => simp [intOf]; omega
          · clear hz
            go_wp2_with fail
            refine HDO.out.mono ?_
            rintro e w7 ⟨rfl, hs, ho⟩
            have HS7 : Hold _ := ⟨hs⟩
            have HL7 : Hold _ := ⟨HLk.out.deed HSk.out.ok ⟨dk, da, dn, dx, ds⟩ HNZ.out⟩
            have HB7 : Hold (Below w.heap.size w w7) := ⟨HBn.out.trans (ho.below HBn.out.size HN.out.1 HN.out.2.1 HN.out.2.2)⟩
            clear hs ho c0 c1 c2 c3 c4
            go_wp2
            go_roundw
            case rel => exact ⟨k + 1, _, by omega, by go_num, HS7, HL7, HB7⟩
            case measure => simp [intOf]; omega
      · obtain rfl : k = n := by omega
        have hkn' : ¬ (k : Int) < k := by omega
        go_wp2_with fail
        refine (wake_calls HSk.out (ScarsIn.nil wr) (fun q hq => by cases hq)).mono ?_
        rintro e w8 ⟨rfl, hs, ho⟩
        have HS8 : Hold _ := ⟨hs⟩
        have HB8 : Hold (Below w.heap.size w w8) := ⟨HBk.out.trans (ho.below HBk.out.size HN.out.1 HN.out.2.1 HN.out.2.2)⟩
        clear hs ho
        go_wp2_with fail
        refine (face_calls HS8.out (a : Nat)).mono ?_
        rintro e wr2 (⟨h9, _⟩ | ⟨_, qa, rfl, _, hqa, hba⟩)
        · exact absurd (wake_reach _ (by rw [HLk.out.n]; exact HA.out)) h9
        rw [Int.toNat_natCast, wake_nil, show SM.shown { S with ink := fun _ => none, sup := -1 } a = plainN x from HLk.out.bur] at hqa
        have HBr : Hold (Below w.heap.size w wr2) := ⟨bstepS HB8.out hba⟩
        have HCA : Hold (∀ w', Below wr2.heap.size wr2 w' → (convert 26 9 (.slice (some ⟨qa, 0, none⟩) 64 64)).run Try.prog w' = .ok (.string (strOf (plainN x))) w') := ⟨fun w' h => convert_row (blk_row64 (hqa.below h hqa.lt) (plainN_len x))⟩
        clear hqa hba
        go_wp2
        refine wp_region_duties (by kernel_rfl) (by kernel_rfl)
          [some (.int .i64 0), some (.bool true), some (.bool true), some (.slice (some ⟨qa, 0, none⟩) 64 64), some (.string (strOf (plainN x))), some (.int .u8 (x : Nat)), none, some (.string (strOf (plainN x))), some (.bool true), some (.bool true), some (.bool true)]
          [false, false, false, false, false, false, true, false, false, false, false] rfl
          (fun w1 w2 => Below w1.heap.size w1 w2)
          (fun _ w' => Below wr2.heap.size wr2 w')
          (fun i v w' => match i with
            | 6 => PlainV x v w'
            | _ => True)
          ?_ (Below.refl _ _).drew ?_ ?_
        · intro i v w1 w2 hf hb
          split at hf
          · exact hf.later hb
          · trivial
        · simp only [Duties, Nat.reduceAdd]
          refine ⟨?_, ?_, ?_, ?_, ?_, ?_, ?_, ?_, ?_, ?_, ?_, trivial⟩
          case refine_1 =>
            intro D sp w' hD hW hdp hbx'
            (with_reducible refine asked_value (w1 := w') (v := .int .i64 0) ?_ ?_ ?_)
            · first | (simp only [Region.wanted]; done) | simp [Region.wanted, yielded, Act.put, go_sem]
            · simp [execOp, Act.eval, go_sem]
            · exact ⟨rfl, rfl⟩
          case refine_2 =>
            intro D sp w' hD hW hdp hbx'
            (with_reducible refine asked_value (w1 := w') (v := .bool true) ?_ ?_ ?_)
            · first | (simp only [Region.wanted]; done) | simp [Region.wanted, yielded, Act.put, go_sem]
            · simp [execOp, Act.eval, Act.put, go_sem]
            · exact ⟨rfl, rfl⟩
          case refine_3 =>
            intro D sp w' hD hW hdp hbx'
            (with_reducible refine asked_value (w1 := w') (v := .bool true) ?_ ?_ ?_)
            · first | (simp only [Region.wanted]; done) | simp [Region.wanted, yielded, Act.put, go_sem]
            · simp [execOp, Act.eval, Act.put, go_sem]
            · exact ⟨rfl, rfl⟩
          case refine_4 =>
            intro D sp w' hD hW hdp hbx'
            (with_reducible refine asked_value (w1 := w') (v := .slice (some ⟨qa, 0, none⟩) 64 64) ?_ ?_ ?_)
            · first | (simp only [Region.wanted]; done) | simp [Region.wanted, yielded, Act.put, go_sem]
            · simp [execOp, Act.eval, Act.put, go_sem]
            · exact ⟨rfl, rfl⟩
          case refine_5 =>
            intro D sp w' hD hW hdp hbx'
            (with_reducible refine asked_value (w1 := w') (v := .string (strOf (plainN x))) ?_ ?_ ?_)
            · first | (simp only [Region.wanted]; done) | simp [Region.wanted, yielded, Act.put, go_sem]
            · have cl := HCA.out w' hbx'
              simp [execOp, Act.eval, Act.put, go_sem, cl]
            · exact ⟨rfl, rfl⟩
          case refine_6 =>
            intro D sp w' hD hW hdp hbx'
            (with_reducible refine asked_value (w1 := w') (v := .int .u8 (x : Nat)) ?_ ?_ ?_)
            · first | (simp only [Region.wanted]; done) | simp [Region.wanted, yielded, Act.put, go_sem]
            · simp [execOp, Act.eval, Act.put, go_sem]
            · exact ⟨rfl, rfl⟩
          case refine_7 =>
            intro D sp w' hD hW hdp hbx'
            (with_reducible refine asked_call (w1 := w') (f := 13) (args := #[.int .u8 (x : Nat)]) ?_ ?_ ?_)
            · first | (simp only [Region.wanted]; done) | simp [Region.wanted, yielded, Act.put, go_sem]
            · simp [Act.eval, Act.put, go_sem]
            · refine (plain_calls w' (x := x) HX.out).mono ?_
              rintro en w9 ⟨u, rfl, hu, hb⟩
              exact ⟨u, rfl, hb, hu, bstepS hbx' hb⟩
          case refine_8 =>
            intro D sp w' hD hW hdp hbx'
            have k6 : PlainV x (sp 6) w' := (hdp 6 (List.mem_of_elem_eq_true (by kernel_rfl))).2
            (with_reducible refine asked_value (w1 := w') (v := .string (strOf (plainN x))) ?_ ?_ ?_)
            · first | (simp only [Region.wanted]; done) | simp [Region.wanted, yielded, Act.put, go_sem]
            · have cl := convert_plain k6
              simp [execOp, Act.eval, Act.put, go_sem, cl]
            · exact ⟨rfl, rfl⟩
          case refine_9 =>
            intro D sp w' hD hW hdp hbx'
            (with_reducible refine asked_value (w1 := w') (v := .bool true) ?_ ?_ ?_)
            · first | (simp only [Region.wanted]; done) | simp [Region.wanted, yielded, Act.put, go_sem]
            · simp [execOp, Act.eval, Act.put, go_sem]
            · exact ⟨rfl, rfl⟩
          case refine_10 =>
            intro D sp w' hD hW hdp hbx'
            (with_reducible refine asked_value (w1 := w') (v := .bool true) ?_ ?_ ?_)
            · first | (simp only [Region.wanted]; done) | simp [Region.wanted, yielded, Act.put, go_sem]
            · simp [execOp, Act.eval, Act.put, go_sem]
            · exact ⟨rfl, rfl⟩
          case refine_11 =>
            intro D sp w' hD hW hdp hbx'
            (with_reducible refine asked_value (w1 := w') (v := .bool true) ?_ ?_ ?_)
            · first | (simp only [Region.wanted]; done) | simp [Region.wanted, yielded, Act.put, go_sem]
            · simp [execOp, Act.eval, Act.put, go_sem]
            · exact ⟨rfl, rfl⟩
        · intro sp w10 hsp hbx'
          have HF : Hold (Below w.heap.size w w10) := ⟨bstepS HBr.out hbx'⟩
          clear hsp hbx'
          simp only [frameOf, Nat.reduceAdd]
          generalize sp 6 = y6 at *
          go_simp
          go_wp2
          go_ret
          exact ⟨rfl, HF.out⟩

end Go.Proofs.Ytpodoleopebioaa
