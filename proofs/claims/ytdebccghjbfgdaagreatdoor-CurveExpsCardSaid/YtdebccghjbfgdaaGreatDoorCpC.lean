/- The greatest power of a number in another one, of the program. -/
import Derived.Test.YtdebccghjbfgdaaGreatDoorCpB
import Derived.Test.YtdebccghjbfgdaaGreatDoorRing
import Derived.Test.YtdebccghjbfgdaaGreatDoorGcdA
import Derived.Deep.LoopGhost
namespace Go.Proofs.YtdebccghjbfgdaaGreatDoor
open Go Go.RowKit Go.Proofs.YtdebccghjbfgdaaGreatDoor.Flow
set_option maxRecDepth 100000

theorem Fit.tight {e f N : Nat} {v : Value} {w : World} (h : Fit e N v w) (hN : N < B32 f) : Fit f N v w :=
  let ⟨p, n, c, h1, h2, _⟩ := h
  ⟨p, n, c, h1, h2, hN⟩
theorem pw_pos {p n : Nat} (h : 0 < n) (f : Nat) : 0 < pw p f n := Nat.pos_of_dvd_of_pos (pw_dvd p f n) h
theorem pw_le {p n : Nat} (h : 0 < n) (f : Nat) : pw p f n ≤ n := Nat.le_of_dvd h (pw_dvd p f n)

/-- How the boxes of the power stand. -/
structure PwSt (w wr : World) (e P b5 k Q : Nat) (pp : Option Addr) (np cp : Nat) (pa : Option Addr) (na ca : Nat) (pq : Option Addr) (nq cq : Nat) : Prop where
  box0 : NatBox wr w.heap.size (.slice pa na ca)
  box1 : NatBox wr (w.heap.size + 1) (.slice pp np cp)
  box2 : NatBox wr (w.heap.size + 1 + 1) (.slice none 0 0)
  box5 : NatBox wr b5 (.slice pq nq cq)
  a : NatAt wr pa na ca k
  p : NatAt wr pp np cp P
  q : NatAt wr pq nq cq Q
  limk : k < B32 e
  limp : P < B32 e
  limq : Q < B32 e
  pos : 0 < k
  ne : w.heap.size + 3 ≤ b5
  bel : Below w.heap.size w wr
theorem PwSt.later {w wr w1 : World} {e P b5 k Q : Nat} {pp : Option Addr} {np cp : Nat} {pa : Option Addr} {na ca : Nat} {pq : Option Addr} {nq cq : Nat} (h : PwSt w wr e P b5 k Q pp np cp pa na ca pq nq cq) (hb : Below wr.heap.size wr w1) : PwSt w w1 e P b5 k Q pp np cp pa na ca pq nq cq :=
  ⟨h.box0.below hb h.box0.lt, h.box1.below hb h.box1.lt, h.box2.below hb h.box2.lt, h.box5.below hb h.box5.lt, h.a.below hb, h.p.below hb, h.q.below hb, h.limk, h.limp, h.limq, h.pos, h.ne, bstep h.bel hb⟩

/-- How they stand in the region that turns two of them. -/
structure PwR (w wr : World) (e P b5 bq k Q k' Q' : Nat) (pp : Option Addr) (np cp : Nat) (pa : Option Addr) (na ca : Nat) (pq : Option Addr) (nq cq : Nat) (q : Option Addr) (m d : Nat) (d4 d5 : Bool) : Prop where
  box0 : NatBox wr w.heap.size (if d4 then .slice q m d else .slice pa na ca)
  box1 : NatBox wr (w.heap.size + 1) (.slice pp np cp)
  box2 : NatBox wr (w.heap.size + 1 + 1) (.slice none 0 0)
  box5 : d5 = false → NatBox wr b5 (.slice pq nq cq)
  val5 : d5 = true → BoxVal wr b5 Q'
  boxq : NatBox wr bq (.slice q m d)
  k' : NatAt wr q m d k'
  p : NatAt wr pp np cp P
  q : NatAt wr pq nq cq Q
  ne : w.heap.size + 3 ≤ b5
  neq : b5 < bq
  bel : Below w.heap.size w wr
theorem PwR.later {w wr w1 : World} {e P b5 bq k Q k' Q' : Nat} {pp : Option Addr} {np cp : Nat} {pa : Option Addr} {na ca : Nat} {pq : Option Addr} {nq cq : Nat} {q : Option Addr} {m d : Nat} {d4 d5 : Bool} (h : PwR w wr e P b5 bq k Q k' Q' pp np cp pa na ca pq nq cq q m d d4 d5) (hb : Below wr.heap.size wr w1) : PwR w w1 e P b5 bq k Q k' Q' pp np cp pa na ca pq nq cq q m d d4 d5 :=
  ⟨h.box0.below hb h.box0.lt, h.box1.below hb h.box1.lt, h.box2.below hb h.box2.lt, fun a => (h.box5 a).below hb (h.box5 a).lt, fun a => (h.val5 a).below hb, h.boxq.below hb h.boxq.lt, h.k'.below hb, h.p.below hb, h.q.below hb, h.ne, h.neq, bstep h.bel hb⟩
theorem PwR.store4 {w wr : World} {e P b5 bq k Q k' Q' : Nat} {pp : Option Addr} {np cp : Nat} {pa : Option Addr} {na ca : Nat} {pq : Option Addr} {nq cq : Nat} {q : Option Addr} {m d : Nat} {d5 : Bool} (h : PwR w wr e P b5 bq k Q k' Q' pp np cp pa na ca pq nq cq q m d false d5) :
    PwR w (wr.setCell ⟨w.heap.size, 0, none⟩ (.slice q m d)) e P b5 bq k Q k' Q' pp np cp pa na ca pq nq cq q m d true d5 := by
  have hb : NatBox wr w.heap.size (.slice pa na ca) := h.box0
  have h1 := h.ne
  have h2 := h.neq
  exact ⟨hb.set _, h.box1.other (by omega) _, h.box2.other (by omega) _, fun a => (h.box5 a).other (by omega) _, fun a => (h.val5 a).other hb (by omega) _, h.boxq.other (by omega) _, h.k'.store hb _, h.p.store hb _, h.q.store hb _, h.ne, h.neq, h.bel.setCell (Nat.le_refl _) _⟩
theorem PwR.store5 {w wr : World} {e P b5 bq k Q k' Q' : Nat} {pp : Option Addr} {np cp : Nat} {pa : Option Addr} {na ca : Nat} {pq : Option Addr} {nq cq : Nat} {q : Option Addr} {m d : Nat} {d4 : Bool} {p' : Option Addr} {n' c' : Nat} (h : PwR w wr e P b5 bq k Q k' Q' pp np cp pa na ca pq nq cq q m d d4 false) (hq : NatAt wr p' n' c' Q') :
    PwR w (wr.setCell ⟨b5, 0, none⟩ (.slice p' n' c')) e P b5 bq k Q k' Q' pp np cp pa na ca pq nq cq q m d d4 true := by
  have hb := h.box5 rfl
  have h1 := h.ne
  have h2 := h.neq
  exact ⟨h.box0.other (by omega) _, h.box1.other (by omega) _, h.box2.other (by omega) _, (fun a => by cases a), fun _ => ⟨p', n', c', hb.set _, hq.store hb _⟩, h.boxq.other (by omega) _, h.k'.store hb _, h.p.store hb _, h.q.store hb _, h.ne, h.neq, h.bel.setCell (by simp; omega) _⟩

set_option maxHeartbeats 4000000 in
set_option maxRecDepth 1000000 in
theorem power_fit {w : World} {v u : Value} {e A P : Nat} (h : Fit e A v w) (k : Fit e P u w) (he : e ≤ 300000) (hP : 2 ≤ P) (hA : 0 < A) :
    Calls Tryz.prog 216 #[v, u] w fun en w' => ∃ x, en = .returned x ∧ Fit e (pw P A A) x w' ∧ Below w.heap.size w w' := by
  obtain ⟨pa, na, ca, rfl, h1, h2⟩ := fit_cases h
  obtain ⟨pp, np, cp, rfl, k1, k2⟩ := fit_cases k
  have hbx := NB3.mk3 w (.slice pa na ca) (.slice pp np cp) (.slice none 0 0)
  have HBX : Hold _ := ⟨hbx⟩
  have HA1 : Hold _ := ⟨h1⟩
  have HP1 : Hold _ := ⟨k1⟩
  have HA2 : Hold _ := ⟨h2⟩
  have HP2 : Hold _ := ⟨k2⟩
  obtain ⟨W, hW⟩ : ∃ W, pw P A A = W := ⟨_, rfl⟩
  have HW : Hold _ := ⟨hW⟩
  rw [hW]
  clear h k h1 h2 k1 k2 hbx hW
  go_enter Tryz.func216, Tryz.ntmps216
  go_wp2_with fail
  refine (new_calls 1 _ (by decide)).mono ?_
  rintro en w1 ⟨q1, m1, d1, rfl, hn1, hb1, _⟩
  have HN1 : Hold _ := ⟨hn1⟩
  have HBX1 : Hold _ := ⟨HBX.out.later hb1⟩
  clear hb1 hn1
  go_wp2
  go_loopg [6, 7, 8] A (fun k _ _ _ wr => ∃ (Q : Nat) (pa : Option Addr) (na ca : Nat) (pq : Option Addr) (nq cq : Nat), Hold (PwSt w wr e P w1.heap.size k Q pp np cp pa na ca pq nq cq) ∧ Hold (Q * pw P k k = W))
  case atStart =>
    have hb : Below w1.heap.size w1 (w1.alloc (.cells #[.slice q1 m1 d1] 36)) := (Below.refl _ _).alloc (Nat.le_refl _) _
    have hx := HBX1.out.later hb
    refine ⟨1, pa, na, ca, q1, m1, d1, ⟨hx.b0, hx.b1, hx.b2, NatBox.made w1 _, HA1.out.below hx.bel, HP1.out.below hx.bel, HN1.out.below hb, HA2.out, HP2.out, Nat.lt_of_le_of_lt hA HA2.out, hA, ?_, hx.bel⟩, ⟨by rw [Nat.one_mul]; exact HW.out⟩⟩
    have := HBX1.out.b2.lt
    omega
  case round =>
    obtain ⟨Q, pa, na, ca, pq, nq, cq, HST, HQ⟩ := hrel
    have c0 := HST.out.box0.cell
    have c1 := HST.out.box1.cell
    go_wp2_with fail
    refine (div_fit (Fit.of HST.out.a HST.out.limk) (Fit.of HST.out.p HST.out.limp) (by omega) (by omega)).mono ?_
    rintro en w2 ⟨_, rfl, ⟨qv, rv, rfl, hq, hr⟩, hb2⟩
    rw [if_neg (by omega)] at hr
    rw [if_neg (by omega)]
    obtain ⟨q, m, d, rfl, q1', q2'⟩ := hq
    obtain ⟨r, l, f, rfl, r1', r2'⟩ := hr
    have HST2 : Hold _ := ⟨HST.out.later hb2⟩
    have HQ1 : Hold _ := ⟨q1'⟩
    have HR1 : Hold _ := ⟨Fit.of r1' r2'⟩
    clear hb2 q1' r1' q2' r2' c0 c1
    obtain ⟨w3, hw3⟩ : ∃ w3, (w2.alloc (.cells #[.slice q m d] 36)).alloc (.cells #[.slice r l f] 36) = w3 := ⟨_, rfl⟩
    have hb3 : Below w2.heap.size w2 w3 := by rw [← hw3]; exact ((Below.refl _ _).alloc (Nat.le_refl _) _).alloc (by simp) _
    have hbq : NatBox w3 w2.heap.size (.slice q m d) := by
      rw [← hw3]
      exact (NatBox.made w2 _).below ((Below.refl _ _).alloc (Nat.le_refl _) _) (by simp)
    have hbr : NatBox w3 (w2.heap.size + 1) (.slice r l f) := by
      rw [← hw3]
      have := NatBox.made (w2.alloc (.cells #[.slice q m d] 36)) (.slice r l f)
      simpa using this
    have HST3 : Hold _ := ⟨HST2.out.later hb3⟩
    have HQ3 : Hold _ := ⟨HQ1.out.below hb3⟩
    have HR3 : Hold _ := ⟨HR1.out.below hb3⟩
    have HBQ : Hold _ := ⟨hbq⟩
    have HLT : Hold (w1.heap.size < w2.heap.size) := ⟨HST2.out.box5.lt⟩
    have c3 := hbr.cell
    clear hb3 hbq hbr
    by_cases h0 : gk % P = 0
    · have hz : Hold (decide (gk % P = 0) = true) := ⟨decide_eq_true h0⟩
      have HQP : Hold (Q * P * pw P (gk / P) (gk / P) = W) := ⟨by
        have := HQ.out
        rwa [pw_step hP HST.out.pos, if_pos h0, ← Nat.mul_assoc] at this⟩
      have hk' : Hold (0 < gk / P ∧ gk / P < gk) := ⟨Nat.div_pos (Nat.le_of_dvd HST.out.pos (Nat.dvd_of_mod_eq_zero h0)) (by omega), Nat.div_lt_self HST.out.pos (by omega)⟩
      have hWA : Hold (W ≤ A) := ⟨by rw [← HW.out]; exact pw_le hA A⟩
      have hQW : Hold (Q * P ≤ W) := ⟨by
        rw [← HQP.out]
        exact Nat.le_mul_of_pos_right _ (pw_pos hk'.out.1 _)⟩
      clear h0
      go_wp2_with fail
      refine (zero_fitB HR3.out hz.out).mono ?_
      rintro en w4 ⟨_, rfl, rfl, hb4⟩
      have HST4 : Hold _ := ⟨HST3.out.later hb4⟩
      have HQ4 : Hold _ := ⟨HQ3.out.below hb4⟩
      have HB4 : Hold _ := ⟨HBQ.out.below hb4 HBQ.out.lt⟩
      clear c3 hb4
      go_wp2
      obtain ⟨Q', hQ'⟩ : ∃ Q', Q * P = Q' := ⟨_, rfl⟩
      have HQ' : Hold _ := ⟨hQ'⟩
      rw [hQ'] at HQP hQW
      clear hQ'
      refine wp_region_duties (by kernel_rfl) (by kernel_rfl)
        [some (.agg #[.slice q m d]), some (.agg #[.slice pq nq cq]), some (.agg #[.slice pp np cp]), none, none, none]
        [false, false, false, true, true, true] rfl
        (fun w1 w2 => Keep w.heap.size w1 w2)
        (fun D w' => PwR w w' e P w1.heap.size w2.heap.size gk Q (gk / P) Q' pp np cp pa na ca pq nq cq q m d (D 4) (D 5))
        (fun i v w' => match i with
          | 3 => AggVal Q' v w'
          | _ => True)
        ?_ ⟨HST4.out.box0, HST4.out.box1, HST4.out.box2, fun _ => HST4.out.box5, (fun a => by cases a), HB4.out, HQ4.out.below (Below.refl _ _).drew, HST4.out.p.below (Below.refl _ _).drew, HST4.out.q.below (Below.refl _ _).drew, HST4.out.ne, HLT.out, HST4.out.bel.trans (Below.refl _ _).drew⟩ ?_ ?_
      · intro i v w1 w2 hf hb
        split at hf
        · exact AggVal.keep hf hb
        · trivial
      · simp only [Duties, Nat.reduceAdd]
        refine ⟨?_, ?_, ?_, ?_, ?_, ?_, trivial⟩
        case refine_1 =>
          intro D sp w' hD hW hdp hg
          have c3 := hg.boxq.cell
          simp [asked, Region.wanted, Oper.gives, execOp, Act.eval, go_sem, c3]
        case refine_2 =>
          intro D sp w' hD hW hdp hg
          have h5 : D 5 = false := hW 5 (List.mem_of_elem_eq_true (by kernel_rfl))
          have c3 := (hg.box5 h5).cell
          simp [asked, Region.wanted, Oper.gives, execOp, Act.eval, Act.put, go_sem, c3]
        case refine_3 =>
          intro D sp w' hD hW hdp hg
          have c3 := hg.box1.cell
          simp [asked, Region.wanted, Oper.gives, execOp, Act.eval, Act.put, go_sem, c3]
        case refine_4 =>
          intro D sp w' hD hW hdp hg
          (with_reducible refine asked_call (w1 := w') (f := 92) (args := #[.agg #[.slice pq nq cq], .agg #[.slice pp np cp]]) ?_ ?_ ?_)
          · simp only [Region.wanted]
          · simp [Act.eval, Act.put, go_sem]
          · refine (mul_fit (Fit.of hg.q HST.out.limq) (Fit.of hg.p HST.out.limp) (by omega) (by omega)).mono ?_
            rintro en w5 ⟨u, rfl, hu, hb⟩
            rw [HQ'.out] at hu
            obtain ⟨p', n', c', e', u1, _⟩ := hu
            exact ⟨u, rfl, Keep.of hb hg.bel.size, ⟨p', n', c', e', u1⟩, by simpa using hg.later hb⟩
        case refine_5 =>
          intro D sp w' hD hW hdp hg
          rw [hD] at hg
          have hbx0 : NatBox w' w.heap.size (.slice pa na ca) := hg.box0
          have g2 := hbx0.cell
          have g3 := hbx0.free
          (with_reducible refine asked_skip (w1 := w'.setCell ⟨w.heap.size, 0, none⟩ (.slice q m d)) ?_ ?_ ?_)
          · simp only [Region.wanted]
          · simp [execOp, Act.eval, Act.put, go_sem, g2, g3]
          · exact ⟨Keep.store hbx0 (Nat.le_refl _) _, trivial, by simpa using hg.store4⟩
        case refine_6 =>
          intro D sp w' hD hW hdp hg
          have hx : ∃ p n c, sp 3 = .agg #[.slice p n c] ∧ NatAt w' p n c Q' := (hdp 3 (List.mem_of_elem_eq_true (by kernel_rfl))).2
          rw [hD] at hg
          (with_reducible refine Exists.elim hx fun p hx1 => ?_)
          (with_reducible refine Exists.elim hx1 fun n hx2 => ?_)
          (with_reducible refine Exists.elim hx2 fun c hx3 => ?_)
          have g1 := hx3.1
          have hbx0 := hg.box5 rfl
          have g2 := hbx0.cell
          have g3 := hbx0.free
          have hne := hg.ne
          (with_reducible refine asked_skip (w1 := w'.setCell ⟨w1.heap.size, 0, none⟩ (.slice p n c)) ?_ ?_ ?_)
          · simp only [Region.wanted]
          · simp [execOp, Act.eval, Act.put, go_sem, g1, g2, g3]
          · exact ⟨Keep.store hbx0 (by omega) _, trivial, by simpa using hg.store5 hx3.2⟩
      · intro sp w7 hsp hg
        obtain ⟨p', n', c', x1, x2⟩ := hg.val5 rfl
        have J : Hold (PwSt w w7 e P w1.heap.size (gk / P) Q' pp np cp q m d p' n' c') := ⟨hg.box0, hg.box1, hg.box2, x1, hg.k', hg.p, x2, Nat.lt_of_le_of_lt (Nat.div_le_self _ _) HST.out.limk, HST.out.limp, by have := hQW.out; have := hWA.out; have := HA2.out; omega, hk'.out.1, hg.ne, hg.bel⟩
        clear hsp hg x1 x2
        simp only [frameOf, Nat.reduceAdd]
        generalize sp 3 = u3 at *
        generalize sp 4 = u4 at *
        generalize sp 5 = u5 at *
        go_simp
        go_wp2
        go_roundg (gk / P)
        case measure => exact hk'.out.2
        case rel => exact ⟨Q', q, m, d, p', n', c', J, HQP⟩
    · have HW1 : Hold (Q = W) := ⟨by
        have := HQ.out
        rwa [pw_step hP HST.out.pos, if_neg h0, Nat.mul_one] at this⟩
      have hz : Hold (decide (gk % P = 0) = false) := ⟨decide_eq_false h0⟩
      clear h0
      go_wp2_with fail
      refine (zero_fitB HR3.out hz.out).mono ?_
      rintro en w4 ⟨_, rfl, rfl, hb4⟩
      have HST4 : Hold _ := ⟨HST3.out.later hb4⟩
      have d5 := HST4.out.box5.cell
      have d2 := HST4.out.box2.cell
      have f2 := HST4.out.box2.free
      have hne := HST4.out.ne
      clear c3 hb4
      go_wp2
      refine bodyPost_ret (v := .agg #[.slice pq nq cq]) (by simp [results, Tryz.results216, go_sem, d2]) rfl ⟨_, rfl, ?_, ?_⟩
      · rw [← HW1.out]
        exact Fit.of (HST4.out.q.store HST4.out.box2 _) HST4.out.limq
      · exact HST4.out.bel.setCell (by simp; omega) _

end Go.Proofs.YtdebccghjbfgdaaGreatDoor
