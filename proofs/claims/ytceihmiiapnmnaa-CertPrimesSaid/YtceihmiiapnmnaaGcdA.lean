/- The greatest number that divides two. -/
import Derived.Test.YtceihmiiapnmnaaFit4
import Derived.Test.YtceihmiiapnmnaaRefN
import Derived.Deep.LoopGhost
/-! Contracts with the document's products and quotients, as the laws use them. -/
namespace Go.Proofs.Ytceihmiiapnmnaa
open Go Go.RowKit Go.Proofs.Ytceihmiiapnmnaa.Flow
set_option maxRecDepth 100000

theorem rmul_fit {w : World} {v u : Value} {N M : Nat} (h : RBits N v w) (k : RBits M u w) (hN : blen N ≤ 100000) (hM : blen M ≤ 100000) :
    Calls Try.prog 45 #[v, u] w fun en w' => ∃ x, en = .returned x ∧ RBits (N * M) x w' ∧ Below w.heap.size w w' := by
  obtain ⟨p, n, c, rfl, h⟩ := h
  obtain ⟨q, m, d, rfl, k⟩ := k
  refine (rmul_calls w p n c N q m d M h k (by rw [bits_len h]; omega) (by rw [bits_len k]; omega)).mono ?_
  rintro en w' ⟨p, n, c, rfl, hr, hb, _⟩
  exact ⟨_, rfl, RBits.of hr, hb⟩

theorem rdiv_fit {w : World} {v u : Value} {N M : Nat} (h : RBits N v w) (k : RBits M u w) (hN : blen N ≤ 900000) (hM : blen M ≤ 900000) (hM0 : 0 < M) :
    Calls Try.prog 41 #[v, u] w fun en w' => ∃ p n c q m d, en = .returned (.tuple #[.slice p n c, .slice q m d]) ∧ BitsAt w' p n c (N / M) ∧ BitsAt w' q m d (N % M) ∧ Below w.heap.size w w' := by
  obtain ⟨p, n, c, rfl, h⟩ := h
  obtain ⟨q, m, d, rfl, k⟩ := k
  refine (rdiv_calls w p n c N q m d M h k (by rw [bits_len h]; omega) (by rw [bits_len k]; omega) hM0).mono ?_
  rintro en w' ⟨p, n, c, q, m, d, rfl, h1, h2, hb, _, _⟩
  exact ⟨p, n, c, q, m, d, rfl, h1, h2, hb⟩

end Go.Proofs.Ytceihmiiapnmnaa

namespace Go.Proofs.Ytceihmiiapnmnaa
open Go Go.RowKit Go.Proofs.Ytceihmiiapnmnaa.Flow

theorem gcd_step (A B : Nat) : Nat.gcd B (A % B) = Nat.gcd A B := by
  rw [Nat.gcd_comm B, ← Nat.gcd_rec, Nat.gcd_comm]

/-- A number of the document's as an answer, in whatever memory. -/
def GivesBitsAny (N : Nat) (w : World) (e : Ending) (w' : World) : Prop := ∃ p n c, e = .returned (.slice p n c) ∧ BitsAt w' p n c N ∧ Below w.heap.size w w'

set_option maxHeartbeats 2000000 in
set_option maxRecDepth 100000 in
theorem rgcd_calls (w : World) (pa : Option Addr) (na ca N : Nat) (pb : Option Addr) (nb cb M : Nat) (hA : BitsAt w pa na ca N) (hB : BitsAt w pb nb cb M) (hna : blen N ≤ 900000) (hnb : blen M ≤ 900000) :
    Calls Try.prog 42 #[.slice pa na ca, .slice pb nb cb] w (GivesBitsAny (Nat.gcd N M) w) := by
  obtain ⟨G, hG⟩ : ∃ G, Nat.gcd N M = G := ⟨_, rfl⟩
  rw [hG]
  have HG := Lib.hid hG
  clear hG
  go_enter Try.func42, Try.ntmps42
  go_wp2
  go_loopg [0, 1] M (fun k av bv wr => ∃ (A : Nat) (p : Option Addr) (n c : Nat) (q : Option Addr) (m d : Nat), av = .slice p n c ∧ bv = .slice q m d ∧ BitsAt wr p n c A ∧ BitsAt wr q m d k ∧ Hid (Nat.gcd A k = G) ∧ blen A ≤ 900000 ∧ blen k ≤ 900000 ∧ Below w.heap.size w wr)
  case atStart => exact ⟨N, pa, na, ca, pb, nb, cb, rfl, rfl, hA, hB, HG, hna, hnb, Below.refl _ _⟩
  case round =>
    obtain ⟨A, p, n, c, q, m, d, rfl, rfl, h1, h2, hgc, l1, l2, hbw⟩ := hrel
    have hm := bits_len h2
    rcases Nat.eq_zero_or_pos gk with h0 | h0
    · have hm0 : m = 0 := by rw [hm, h0]; rfl
      have HAG : Hid (A = G) := Lib.hid (by have := hgc.out; rw [h0, Nat.gcd_zero_right] at this; exact this)
      have H1 := Lib.hid h1
      clear hm h0 h1 h2
      subst hm0
      go_wp2
      go_ret
      exact ⟨p, n, c, rfl, by rw [← HAG.out]; exact H1.out, hbw⟩
    · have hm0 : 0 < m := by rw [hm]; exact blen_pos h0
      have hna2 := bits_len h1
      have hlt : A % gk < gk := Nat.mod_lt _ h0
      have H0 := Lib.hid h0
      have HM := Lib.hid hm
      have HNA := Lib.hid hna2
      have HLT := Lib.hid hlt
      clear hm h0 hna2 hlt
      go_wp2_with fail
      refine (rdiv_calls wr p n c A q m d gk h1 h2 (by rw [HNA.out]; omega) (by rw [HM.out]; omega) H0.out).mono ?_
      rintro en w1 ⟨p1, n1, c1, p2, n2, c2, rfl, hq, hr, hb, _, _⟩
      replace h2 := h2.below hb
      replace hbw := bstep hbw hb
      clear h1 hb hq
      go_wp2
      go_roundg (A % gk)
      case measure => exact HLT.out
      case rel =>
        exact ⟨gk, q, m, d, p2, n2, c2, rfl, rfl, h2, hr, Lib.hid (by rw [gcd_step]; exact hgc.out), l2, Nat.le_trans (blen_mono (Nat.le_of_lt HLT.out)) l2, hbw⟩

/-- Two numbers in boxes. -/
structure GcdSt (w wr : World) (e A k : Nat) (pa : Option Addr) (na ca : Nat) (pb : Option Addr) (nb cb : Nat) : Prop where
  box0 : NatBox wr w.heap.size (.slice pa na ca)
  box1 : NatBox wr (w.heap.size + 1) (.slice pb nb cb)
  box2 : NatBox wr (w.heap.size + 2) (.slice none 0 0)
  one : NatAt wr pa na ca A
  two : NatAt wr pb nb cb k
  lim1 : A < B32 e
  lim2 : k < B32 e
  bel : Below w.heap.size w wr

set_option maxHeartbeats 2000000 in
set_option maxRecDepth 100000 in
theorem gcd_calls (w : World) (pa : Option Addr) (na ca N : Nat) (pb : Option Addr) (nb cb M e : Nat) (hA : NatAt w pa na ca N) (hB : NatAt w pb nb cb M) (hlA : N < B32 e) (hlB : M < B32 e) (he : e ≤ 800000) :
    Calls Try.prog 61 #[.agg #[.slice pa na ca], .agg #[.slice pb nb cb]] w (GivesNat (Nat.gcd N M) w) := by
  obtain ⟨G, hG⟩ : ∃ G, Nat.gcd N M = G := ⟨_, rfl⟩
  rw [hG]
  have HG := Lib.hid hG
  clear hG
  go_enter Try.func61, Try.ntmps61
  go_wp2
  go_loopg [7] M (fun k _ wr => ∃ (A : Nat) (pa : Option Addr) (na ca : Nat) (pb : Option Addr) (nb cb : Nat), GcdSt w wr e A k pa na ca pb nb cb ∧ Hid (Nat.gcd A k = G))
  case atStart =>
    have hbx := Boxes3.mk3 w (.slice pa na ca) (.slice pb nb cb) (.slice none 0 0) 43 43 43
    refine ⟨N, pa, na, ca, pb, nb, cb, ⟨?_, ?_, ?_, hA.below hbx.bel, hB.below hbx.bel, hlA, hlB, hbx.bel⟩, HG⟩
    · exact ((NatBox.made w _).below ((Below.refl _ _).alloc (Nat.le_refl _) _) (by simp)).below ((Below.refl _ _).alloc (Nat.le_refl _) _) (by simp; omega)
    · have := (NatBox.made (w.alloc (.cells #[.slice pa na ca] 43)) (.slice pb nb cb)).below ((Below.refl _ _).alloc (Nat.le_refl _) (.cells #[.slice none 0 0] 43)) (by simp)
      simpa using this
    · have := NatBox.made ((w.alloc (.cells #[.slice pa na ca] 43)).alloc (.cells #[.slice pb nb cb] 43)) (.slice none 0 0)
      simpa using this
  case round =>
    obtain ⟨A, pa, na, ca, pb, nb, cb, hst, hgc⟩ := hrel
    have HST := Lib.hid hst
    have c1 := hst.box1.cell
    have l1 := hst.one.len_le hst.lim1
    have l2 := hst.two.len_le hst.lim2
    clear hst
    go_wp2_with fail
    refine (zero_calls wr pb nb cb).mono ?_
    rintro en w1 ⟨rfl, hb1⟩
    have hz : decide (nb = 0) = decide (gk = 0) := decide_eq_decide.2 HST.out.two.zero
    rw [hz]
    clear hz
    rcases Nat.eq_zero_or_pos gk with h0 | h0
    · have hd0 : decide (gk = 0) = true := decide_eq_true h0
      rw [hd0]
      have HAG : Hid (A = G) := Lib.hid (by have := hgc.out; rw [h0, Nat.gcd_zero_right] at this; exact this)
      have HB1 := Lib.hid hb1
      have k0 := (HST.out.box0.below hb1 HST.out.box0.lt).cell
      clear hd0 h0 c1
      go_wp2_with fail
      refine (clone_calls w1 pa na ca A (HST.out.one.below HB1.out) (by omega)).mono ?_
      rintro en w2 ⟨q, m, d, rfl, hn, hb2, hq⟩
      have k2 := ((HST.out.box2.below HB1.out HST.out.box2.lt).below hb2 (Nat.lt_of_lt_of_le HST.out.box2.lt HB1.out.size))
      have k2c := k2.cell
      have k2f := k2.free
      have hqn : w.heap.size + 2 < w1.heap.size := Nat.lt_of_lt_of_le HST.out.box2.lt HB1.out.size
      have hbw := bstep (bstep HST.out.bel HB1.out) hb2
      clear k0
      go_wp2
      refine bodyPost_ret (v := .agg #[.slice q m d]) (by simp [results, Try.results61, go_sem, k2c]) rfl ⟨q, m, d, rfl, ?_, hbw.setCell (by simp; omega) _, hq.mono (by omega)⟩
      have := hn.setCell (a := ⟨w.heap.size + 2, 0, none⟩) (hq.ne (by simpa using hqn)) (.slice q m d)
      rw [HAG.out] at this
      exact this
    · have hd0 : decide (gk = 0) = false := decide_eq_false (by omega)
      rw [hd0]
      have H0 := Lib.hid h0
      have HB1 := Lib.hid hb1
      have k0 := (HST.out.box0.below hb1 HST.out.box0.lt).cell
      have k1 := (HST.out.box1.below hb1 HST.out.box1.lt).cell
      clear hd0 h0 c1 hb1
      go_wp2_with fail
      refine (div_calls w1 pa na ca A pb nb cb gk (HST.out.one.below HB1.out) (HST.out.two.below HB1.out) (by omega) (by omega)).mono ?_
      rintro en w2 ⟨q, m, d, r, l, f, rfl, hq, hr, hb2, _, _⟩
      rw [if_neg (by have := H0.out; omega)] at hr
      rw [if_neg (by have := H0.out; omega)]
      have hb12 := bstep HB1.out hb2
      have g0 := HST.out.box0.below hb12 HST.out.box0.lt
      have g1 := HST.out.box1.below hb12 HST.out.box1.lt
      have g2 := HST.out.box2.below hb12 HST.out.box2.lt
      have n2 := HST.out.two.below hb12
      have hbw := bstep HST.out.bel hb12
      have s2 := g2.lt
      have HG0 := Lib.hid g0
      have HG1 := Lib.hid g1
      have HG2 := Lib.hid g2
      have HR := Lib.hid hr
      have HN2 := Lib.hid n2
      have HBW := Lib.hid hbw
      clear k0 k1 hq g0 g1 g2 hr n2 hbw hb12 hb2
      go_wp2
      obtain ⟨w3, hw3⟩ : ∃ w3, (w2.alloc (.cells #[.slice q m d] 43)).alloc (.cells #[.slice r l f] 43) = w3 := ⟨_, rfl⟩
      have hb3 : Below w2.heap.size w2 w3 := by rw [← hw3]; exact ((Below.refl _ _).alloc (Nat.le_refl _) _).alloc (by simp) _
      have hr3 : NatBox w3 (w2.heap.size + 1) (.slice r l f) := by
        rw [← hw3]
        have := NatBox.made (w2.alloc (.cells #[.slice q m d] 43)) (.slice r l f)
        simpa using this
      rw [hw3]
      have hb4 := hb3.trans (Below.refl w2.heap.size w3).drew
      have hs2 : w.heap.size + 2 < w2.heap.size := s2
      refine wp_region_duties (by kernel_rfl) (by kernel_rfl)
        [some (.agg #[.slice pb nb cb]), some (.agg #[.slice r l f]), none, none]
        [false, false, true, true] rfl
        (fun _ _ => True)
        (fun D w' => NatBox w' w.heap.size (if D 2 then .slice pb nb cb else .slice pa na ca) ∧ NatBox w' (w.heap.size + 1) (if D 3 then .slice r l f else .slice pb nb cb) ∧ NatBox w' (w.heap.size + 2) (.slice none 0 0) ∧ NatBox w' (w2.heap.size + 1) (.slice r l f) ∧ NatAt w' pb nb cb gk ∧ NatAt w' r l f (A % gk) ∧ Below w.heap.size w w')
        (fun _ _ _ => True)
        (fun _ _ _ _ h _ => h) ⟨HG0.out.below hb4 HG0.out.lt, HG1.out.below hb4 HG1.out.lt, HG2.out.below hb4 HG2.out.lt, hr3, HN2.out.below hb4, HR.out.below hb4, bstep HBW.out hb4⟩ ?_ ?_
      · simp only [Duties, Nat.reduceAdd]
        refine ⟨?_, ?_, ?_, ?_, trivial⟩
        case refine_1 =>
          intro D sp w' hD hW hdp ⟨k0, k1, k2, k3, k4, k5, k6⟩
          have h3 : D 3 = false := hW 3 (List.mem_of_elem_eq_true (by kernel_rfl))
          rw [h3] at k1
          simp only [Bool.false_eq_true, if_false] at k1
          have c1 := k1.cell
          simp [asked, Region.wanted, Oper.gives, execOp, Act.eval, Act.put, go_sem, c1]
        case refine_2 =>
          intro D sp w' hD hW hdp ⟨k0, k1, k2, k3, k4, k5, k6⟩
          have c3 := k3.cell
          simp [asked, Region.wanted, Oper.gives, execOp, Act.eval, Act.put, go_sem, c3]
        case refine_3 =>
          intro D sp w' hD hW hdp ⟨k0, k1, k2, k3, k4, k5, k6⟩
          rw [hD] at k0
          simp only [Bool.false_eq_true, if_false] at k0
          have c0 := k0.cell
          have f0 := k0.free
          have e1 := k1.other (b' := w.heap.size) (by omega) (.slice pb nb cb)
          have e2 := k2.other (b' := w.heap.size) (by omega) (.slice pb nb cb)
          have e3 := k3.other (b' := w.heap.size) (by omega) (.slice pb nb cb)
          (with_reducible refine asked_skip (w1 := w'.setCell ⟨w.heap.size, 0, none⟩ (.slice pb nb cb)) ?_ ?_ ?_)
          · simp only [Region.wanted]
          · simp [execOp, Act.eval, Act.put, go_sem, c0, f0]
          · refine ⟨trivial, trivial, ?_, ?_, e2, e3, k4.store k0 _, k5.store k0 _, k6.setCell (Nat.le_refl _) _⟩
            · simp only [decide_true, Bool.or_true, if_true]
              exact k0.set _
            · simpa using e1
        case refine_4 =>
          intro D sp w' hD hW hdp ⟨k0, k1, k2, k3, k4, k5, k6⟩
          rw [hD] at k1
          simp only [Bool.false_eq_true, if_false] at k1
          have c0 := k1.cell
          have f0 := k1.free
          have e1 := k0.other (b' := w.heap.size + 1) (by omega) (.slice r l f)
          have e2 := k2.other (b' := w.heap.size + 1) (by omega) (.slice r l f)
          have e3 := k3.other (b' := w.heap.size + 1) (by omega) (.slice r l f)
          (with_reducible refine asked_skip (w1 := w'.setCell ⟨w.heap.size + 1, 0, none⟩ (.slice r l f)) ?_ ?_ ?_)
          · simp only [Region.wanted]
          · simp [execOp, Act.eval, Act.put, go_sem, c0, f0]
          · refine ⟨trivial, trivial, ?_, ?_, e2, e3, k4.store k1 _, k5.store k1 _, k6.setCell (by simp) _⟩
            · simpa using e1
            · simp only [decide_true, Bool.or_true, if_true]
              exact k1.set _
      · intro sp w' hsp ⟨k0, k1, k2, k3, k4, k5, k6⟩
        have j0 : NatBox w' w.heap.size (.slice pb nb cb) := k0
        have j1 : NatBox w' (w.heap.size + 1) (.slice r l f) := k1
        have hlt : A % gk < gk := Nat.mod_lt _ H0.out
        have HLT := Lib.hid hlt
        have J : Hid (GcdSt w w' e gk (A % gk) pb nb cb r l f) := Lib.hid ⟨j0, j1, k2, k4, k5, HST.out.lim2, Nat.lt_trans hlt HST.out.lim2, k6⟩
        clear hsp k0 k1 k2 k3 k4 k5 k6 j0 j1 hlt
        simp only [frameOf, Nat.reduceAdd]
        generalize sp 2 = u2 at *
        generalize sp 3 = u3 at *
        go_simp
        go_wp2
        go_roundg (A % gk)
        case measure => exact HLT.out
        case rel => exact ⟨gk, pb, nb, cb, r, l, f, J.out, Lib.hid (by rw [gcd_step]; exact hgc.out)⟩

end Go.Proofs.Ytceihmiiapnmnaa
