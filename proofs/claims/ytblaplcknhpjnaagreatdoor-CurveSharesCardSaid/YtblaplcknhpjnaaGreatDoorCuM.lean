/- What goes through places, at a place, in the field and in the exponent (curve.Join, JoinExp). -/
import Derived.Test.YtblaplcknhpjnaaGreatDoorCuR
namespace Go.Proofs.YtblaplcknhpjnaaGreatDoor
open Go Go.RowKit Go.Proofs.YtblaplcknhpjnaaGreatDoor.Flow
set_option maxRecDepth 100000

def FldF (Q : Nat) (v : Value) (w : World) : Prop := ∃ r, v = .pointer (some ⟨r, 0, none⟩) ∧ Ring w r Q 33
theorem FldF.below {Q : Nat} {v : Value} {w w' : World} (h : FldF Q v w) (hb : Below w.heap.size w w') : FldF Q v w' := let ⟨r, h1, h2⟩ := h; ⟨r, h1, h2.below hb⟩
def WsT (q n X : Nat) (Bs : List Nat) (v : Value) (w : World) : Prop := ∃ g, v = .tuple #[.slice (some ⟨g, 0, none⟩) n n, .int .i64 0] ∧ PList w 33 (some ⟨g, 0, none⟩) n n (weis q X [] Bs)
theorem WsT.below {q n X : Nat} {Bs : List Nat} {v : Value} {w w' : World} (h : WsT q n X Bs v w) (hb : Below w.heap.size w w') : WsT q n X Bs v w' := let ⟨g, h1, h2⟩ := h; ⟨g, h1, h2.below hb⟩
def PlF (n : Nat) (Ns : List Nat) (v : Value) (w : World) : Prop := ∃ g, v = .slice (some ⟨g, 0, none⟩) n n ∧ PList w 33 (some ⟨g, 0, none⟩) n n Ns
theorem PlF.below {n : Nat} {Ns : List Nat} {v : Value} {w w' : World} (h : PlF n Ns v w) (hb : Below w.heap.size w w') : PlF n Ns v w' := let ⟨g, h1, h2⟩ := h; ⟨g, h1, h2.below hb⟩
theorem gfield_f {w : World} {b P Q G H : Nat} (h : GroupAt w b P Q G H) : Calls Tryz.prog 14 #[.pointer (some ⟨b, 0, none⟩)] w fun en w' => ∃ u, en = .returned u ∧ FldF Q u w' ∧ Below w.heap.size w w' := by
  refine (gfield_fit h).mono ?_
  rintro en w' ⟨r, rfl, hr, hb⟩
  exact ⟨_, rfl, ⟨r, rfl, hr⟩, hb⟩
theorem wbx_ok {w : World} {q e e2 n c V X : Nat} {p : Option Addr} {Bs : List Nat} {f v : Value} (hq : Prime q) (hF : FldF q f w) (h : PList w e p n c Bs) (hX : Fit e2 X v w) (he : e ≤ 200) (he2 : e2 ≤ 200) (hn : n ≤ 12) (hf : faultN q n V Bs = 0) :
    Calls Tryz.prog 45 #[f, .slice p n c, .int .i64 V, v] w fun en w' => ∃ u, en = .returned u ∧ WsT q n X Bs u w' ∧ Below w.heap.size w w' := by
  obtain ⟨r, rfl, hR⟩ := hF
  obtain rfl := fault_same hf
  refine (wb_ok hq hR h hX he he2 hn hf).mono ?_
  rintro en w' ⟨g, rfl, h2, h3⟩
  exact ⟨_, rfl, ⟨g, rfl, h2⟩, h3⟩
theorem wbx_err {w : World} {q e e2 n c V X : Nat} {p : Option Addr} {Bs : List Nat} {f v : Value} (hF : FldF q f w) (h : PList w e p n c Bs) (hX : Fit e2 X v w) (he : e ≤ 200) (hn : n ≤ 12) (hV : V ≤ 1000000) (hf : faultN q n V Bs ≠ 0) :
    Calls Tryz.prog 45 #[f, .slice p n c, .int .i64 V, v] w fun en w' => en = .returned (.tuple #[.slice none 0 0, .int .i64 (faultN q n V Bs : Nat)]) ∧ Below w.heap.size w w' := by
  obtain ⟨r, rfl, hR⟩ := hF
  exact wb_err hR h hX he hn hV hf

/-- What Join gives: an error, or a number. -/
def GivesJ (f N : Nat) (w : World) (en : Ending) (w' : World) : Prop :=
  (f ≠ 0 → en = .returned (.tuple #[.agg #[.slice none 0 0], .int .i64 (f : Nat)])) ∧ (f = 0 → ∃ x, en = .returned (.tuple #[x, .int .i64 0]) ∧ Fit 33 N x w') ∧ Below w.heap.size w w'

set_option maxHeartbeats 4000000 in
set_option maxRecDepth 1000000 in
theorem join_fit {w : World} {r q e e2 ey n c V cy X : Nat} {p py : Option Addr} {Bs Ys : List Nat} {v : Value} (hq : Prime q) (hR : Ring w r q 33) (h : PList w e p n c Bs) (hY : PList w ey py V cy Ys) (hX : Fit e2 X v w) (he : e ≤ 200) (he2 : e2 ≤ 200) (hey : ey ≤ 200) (hn : n ≤ 12) (hV : V ≤ 1000000) :
    Calls Tryz.prog 13 #[.pointer (some ⟨r, 0, none⟩), .slice p n c, .slice py V cy, v] w (GivesJ (faultN q n V Bs) (joinN q X [] Bs Ys 0) w) := by
  obtain ⟨px, nx, cx, rfl, x1, x2⟩ := fit_cases hX
  have hbx := NB2.mk2 w (.slice px nx cx) (.slice none 0 0)
  obtain ⟨W0, hW0⟩ : ∃ W, (w.alloc (.cells #[.slice px nx cx] 36)).alloc (.cells #[.slice none 0 0] 36) = W := ⟨_, rfl⟩
  rw [hW0] at hbx
  have HP : Hold _ := ⟨h.below hbx.bel⟩
  have HY : Hold _ := ⟨hY.below hbx.bel⟩
  have HX : Hold _ := ⟨(Fit.of x1 x2).below hbx.bel⟩
  have HBX : Hold _ := ⟨hbx⟩
  have HQ : Hold _ := ⟨hq⟩
  have HR : Hold _ := ⟨hR.below hbx.bel⟩
  have c0 := hbx.b0.cell
  clear hq hR h hY hX x1 hbx
  by_cases hf : faultN q n V Bs = 0
  · obtain rfl := fault_same hf
    have HFA : Hold _ := ⟨hf⟩
    have HW : Hold _ := ⟨wb_ok HQ.out HR.out HP.out HX.out he he2 hn hf⟩
    clear hf
    go_enter Tryz.func13, Tryz.ntmps13
    go_wp2_with fail
    refine HW.out.mono ?_
    rintro en w7 ⟨g, rfl, hp, hb7⟩
    have HPW : Hold _ := ⟨hp⟩
    have HB7 : Hold _ := ⟨hb7⟩
    clear hp hb7 c0 HW hW0
    have hx7 := HBX.out.later HB7.out
    have HX7 : Hold _ := ⟨hx7⟩
    clear hx7
    go_wp2_with fail
    refine (newnat_fit (n := 0) w7 (by omega)).mono ?_
    rintro en w2 ⟨_, rfl, ⟨p2, n2, c2, rfl, h2, l2⟩, hb2⟩
    have hb02 := bstep HB7.out hb2
    have HV : Hold _ := ⟨weighed_fit (w := w2) (enters_of Tryz.func38 (by kernel_rfl) rfl) (enters_of Tryz.func40 (by kernel_rfl) rfl) (op_add (HR.out.below hb02)) (op_mul (HR.out.below hb02)) (HY.out.below hb02) (HPW.out.below hb2) ((Fit.of h2 l2).wide (by decide : 2 ≤ 33)) hey (by omega) ⟨_, rfl⟩ ⟨_, rfl⟩⟩
    have HX2 : Hold _ := ⟨HX7.out.later hb2⟩
    clear h2 hb2 hb02 HX7
    go_wp2_with fail
    refine HV.out.mono ?_
    rintro en w3 ⟨_, rfl, ⟨p3, n3, c3, rfl, h3, l3⟩, hb3⟩
    rw [wsum_join] at h3 l3
    have hx3 := HX2.out.later hb3
    have k1 := hx3.b1.cell
    have f1 := hx3.b1.free
    have HF : Hold _ := ⟨Fit.of (h3.store hx3.b1 (.slice p3 n3 c3)) l3⟩
    have HBF : Hold (Below w.heap.size w (w3.setCell ⟨w.heap.size + 1, 0, none⟩ (.slice p3 n3 c3))) := ⟨hx3.bel.setCell (by simp) _⟩
    clear h3 hx3 hb3 HV HX2
    go_wp2
    exact bodyPost_ret (v := .tuple #[.agg #[.slice p3 n3 c3], .int .i64 0]) (by simp [results, Tryz.results13, go_sem, k1]) rfl ⟨fun hne => absurd HFA.out hne, fun _ => ⟨_, rfl, HF.out⟩, HBF.out⟩
  · have HFA : Hold _ := ⟨hf⟩
    have HW : Hold _ := ⟨wb_err HR.out HP.out HX.out he hn hV hf⟩
    obtain ⟨E, hE⟩ : ∃ E, faultN q n V Bs = E := ⟨_, rfl⟩
    have HEE : Hold _ := ⟨hE⟩
    have hne : ((E : Int) != 0) = true := by rw [bne_iff_ne]; rw [hE] at hf; omega
    clear hf
    go_enter Tryz.func13, Tryz.ntmps13
    go_wp2_with fail
    refine HW.out.mono ?_
    rintro en w7 ⟨rfl, hb7⟩
    have HB7 : Hold _ := ⟨hb7⟩
    simp only [hE]
    clear hb7 c0 HW hW0 hE
    have hx7 := HBX.out.later HB7.out
    have k1 := hx7.b1.cell
    have f1 := hx7.b1.free
    have HBF : Hold (Below w.heap.size w (w7.setCell ⟨w.heap.size + 1, 0, none⟩ (.slice none 0 0))) := ⟨hx7.bel.setCell (by simp) _⟩
    clear hx7
    go_wp2
    exact bodyPost_ret (v := .tuple #[.agg #[.slice none 0 0], .int .i64 (E : Nat)]) (by simp [results, Tryz.results13, go_sem, k1]) rfl ⟨fun _ => by rw [HEE.out], fun h0 => absurd h0 HFA.out, HBF.out⟩

set_option maxHeartbeats 4000000 in
set_option maxRecDepth 1000000 in
theorem joinexp_fit {w : World} {b P Q G H e e2 ey n c V cy X : Nat} {p py : Option Addr} {Bs Ys : List Nat} {v : Value} (hq : Prime Q) (hG : GroupAt w b P Q G H) (h : PList w e p n c Bs) (hY : PList w ey py V cy Ys) (hX : Fit e2 X v w) (he : e ≤ 200) (he2 : e2 ≤ 200) (hey : ey ≤ 200) (hn : n ≤ 12) (hV : V ≤ 1000000) :
    Calls Tryz.prog 16 #[.pointer (some ⟨b, 0, none⟩), .slice p n c, .slice py V cy, v] w (GivesJ (faultN Q n V Bs) (mprod P 1 (Ys.zip (weis Q X [] Bs))) w) := by
  obtain ⟨px, nx, cx, rfl, x1, x2⟩ := fit_cases hX
  have hbx := NB2.mk2 w (.slice px nx cx) (.slice none 0 0)
  obtain ⟨W0, hW0⟩ : ∃ W, (w.alloc (.cells #[.slice px nx cx] 36)).alloc (.cells #[.slice none 0 0] 36) = W := ⟨_, rfl⟩
  rw [hW0] at hbx
  have HP : Hold _ := ⟨h.below hbx.bel⟩
  have HY : Hold _ := ⟨hY.below hbx.bel⟩
  have HX : Hold _ := ⟨(Fit.of x1 x2).below hbx.bel⟩
  have HBX : Hold _ := ⟨hbx⟩
  have HQ : Hold _ := ⟨hq⟩
  have HG : Hold _ := ⟨hG.below hbx.bel⟩
  clear hq hG h hY hX x1 hbx
  by_cases hf : faultN Q n V Bs = 0
  · have HFA : Hold _ := ⟨hf⟩
    obtain ⟨V', hV'⟩ : ∃ V', V = V' := ⟨_, rfl⟩
    have HSM : Hold (n = V) := ⟨fault_same hf⟩
    clear hf hV' V'
    go_enter Tryz.func16, Tryz.ntmps16
    go_wp2
    refine wp_region_duties (by kernel_rfl) (by kernel_rfl)
      [some (.pointer (some ⟨b, 0, none⟩)), none, some (.slice p n c), some (.slice py V cy), some (.int .i64 (V : Nat)), some (.agg #[.slice px nx cx]), none, none, none, some (.int .i64 0), none, some (.int .i64 0)]
      [false, true, false, false, false, false, true, true, true, false, true, false] rfl
      (fun w1 w2 => Below w1.heap.size w1 w2)
      (fun _ w' => Below W0.heap.size W0 w')
      (fun i v w' => match i with
        | 1 => FldF Q v w'
        | 6 => WsT Q n X Bs v w'
        | 7 => WsT Q n X Bs v w'
        | 8 => PlF n (weis Q X [] Bs) v w'
        | 10 => PlF n (weis Q X [] Bs) v w'
        | _ => True)
      ?_ (Below.refl _ _).drew ?_ ?_
    · intro i v w1 w2 hf hb
      split at hf
      · exact hf.below hb
      · exact hf.below hb
      · exact hf.below hb
      · exact hf.below hb
      · exact hf.below hb
      · trivial
    · simp only [Duties, Nat.reduceAdd]
      refine ⟨?_, ?_, ?_, ?_, ?_, ?_, ?_, ?_, ?_, ?_, ?_, ?_, trivial⟩
      case refine_1 =>
        intro D sp w' hD hW hdp hbx'
        (with_reducible refine asked_value (w1 := w') (v := .pointer (some ⟨b, 0, none⟩)) ?_ ?_ ?_)
        · first | (simp only [Region.wanted]; done) | simp [Region.wanted, yielded, Act.put, go_sem]
        · simp [execOp, Act.eval, go_sem]
        · exact ⟨rfl, rfl⟩
      case refine_2 =>
        intro D sp w' hD hW hdp hbx'
        (with_reducible refine asked_call (w1 := w') (f := 14) (args := #[.pointer (some ⟨b, 0, none⟩)]) ?_ ?_ ?_)
        · first | (simp only [Region.wanted]; done) | simp [Region.wanted, yielded, Act.put, go_sem]
        · simp [Act.eval, Act.put, go_sem]
        · refine (gfield_f (HG.out.below hbx')).mono ?_
          rintro en w9 ⟨u, rfl, hu, hb⟩
          exact ⟨u, rfl, hb, hu, bstep hbx' hb⟩
      case refine_3 =>
        intro D sp w' hD hW hdp hbx'
        (with_reducible refine asked_value (w1 := w') (v := .slice p n c) ?_ ?_ ?_)
        · first | (simp only [Region.wanted]; done) | simp [Region.wanted, yielded, Act.put, go_sem]
        · simp [execOp, Act.eval, Act.put, go_sem]
        · exact ⟨rfl, rfl⟩
      case refine_4 =>
        intro D sp w' hD hW hdp hbx'
        (with_reducible refine asked_value (w1 := w') (v := .slice py V cy) ?_ ?_ ?_)
        · first | (simp only [Region.wanted]; done) | simp [Region.wanted, yielded, Act.put, go_sem]
        · simp [execOp, Act.eval, Act.put, go_sem]
        · exact ⟨rfl, rfl⟩
      case refine_5 =>
        intro D sp w' hD hW hdp hbx'
        (with_reducible refine asked_value (w1 := w') (v := .int .i64 (V : Nat)) ?_ ?_ ?_)
        · first | (simp only [Region.wanted]; done) | simp [Region.wanted, yielded, Act.put, go_sem]
        · simp [Act.eval, Act.put, go_sem]
        · exact ⟨rfl, rfl⟩
      case refine_6 =>
        intro D sp w' hD hW hdp hbx'
        have c0 := (HBX.out.later hbx').b0.cell
        (with_reducible refine asked_value (w1 := w') (v := .agg #[.slice px nx cx]) ?_ ?_ ?_)
        · first | (simp only [Region.wanted]; done) | simp [Region.wanted, yielded, Act.put, go_sem]
        · simp [execOp, Act.eval, Act.put, go_sem, c0]
        · exact ⟨rfl, rfl⟩
      case refine_7 =>
        intro D sp w' hD hW hdp hbx'
        have k1 : FldF Q (sp 1) w' := (hdp 1 (List.mem_of_elem_eq_true (by kernel_rfl))).2
        (with_reducible refine asked_call (w1 := w') (f := 45) (args := #[sp 1, .slice p n c, .int .i64 (V : Nat), .agg #[.slice px nx cx]]) ?_ ?_ ?_)
        · first | (simp only [Region.wanted]; done) | simp [Region.wanted, yielded, Act.put, go_sem]
        · simp [Act.eval, Act.put, go_sem]
        · refine (wbx_ok HQ.out k1 (HP.out.below hbx') (HX.out.below hbx') he he2 hn HFA.out).mono ?_
          rintro en w9 ⟨u, rfl, hu, hb⟩
          exact ⟨u, rfl, hb, hu, bstep hbx' hb⟩
      case refine_8 =>
        intro D sp w' hD hW hdp hbx'
        have k6 : WsT Q n X Bs (sp 6) w' := (hdp 6 (List.mem_of_elem_eq_true (by kernel_rfl))).2
        (with_reducible refine asked_value (w1 := w') (v := sp 6) ?_ ?_ ?_)
        · first | (simp only [Region.wanted]; done) | simp [Region.wanted, yielded, Act.put, go_sem]
        · simp [execOp, Act.eval, Act.put, go_sem]
        · exact ⟨Below.refl _ _, k6, hbx'⟩
      case refine_9 =>
        intro D sp w' hD hW hdp hbx'
        have k7 : ∃ g, sp 7 = .tuple #[.slice (some ⟨g, 0, none⟩) n n, .int .i64 0] ∧ PList w' 33 (some ⟨g, 0, none⟩) n n (weis Q X [] Bs) := (hdp 7 (List.mem_of_elem_eq_true (by kernel_rfl))).2
        (with_reducible refine Exists.elim k7 fun g hg1 => ?_)
        have c1 := hg1.1
        (with_reducible refine asked_value (w1 := w') (v := .slice (some ⟨g, 0, none⟩) n n) ?_ ?_ ?_)
        · first | (simp only [Region.wanted]; done) | simp [Region.wanted, yielded, Act.put, go_sem]
        · simp [execOp, Act.eval, Act.put, go_sem, c1]
        · exact ⟨Below.refl _ _, ⟨g, rfl, hg1.2⟩, hbx'⟩
      case refine_10 =>
        intro D sp w' hD hW hdp hbx'
        have k7 : ∃ g, sp 7 = .tuple #[.slice (some ⟨g, 0, none⟩) n n, .int .i64 0] ∧ PList w' 33 (some ⟨g, 0, none⟩) n n (weis Q X [] Bs) := (hdp 7 (List.mem_of_elem_eq_true (by kernel_rfl))).2
        (with_reducible refine Exists.elim k7 fun g hg1 => ?_)
        have c1 := hg1.1
        (with_reducible refine asked_value (w1 := w') (v := .int .i64 0) ?_ ?_ ?_)
        · first | (simp only [Region.wanted]; done) | simp [Region.wanted, yielded, Act.put, go_sem]
        · simp [execOp, Act.eval, Act.put, go_sem, c1]
        · exact ⟨rfl, rfl⟩
      case refine_11 =>
        intro D sp w' hD hW hdp hbx'
        have k8 : PlF n (weis Q X [] Bs) (sp 8) w' := (hdp 8 (List.mem_of_elem_eq_true (by kernel_rfl))).2
        (with_reducible refine asked_value (w1 := w') (v := sp 8) ?_ ?_ ?_)
        · first | (simp only [Region.wanted]; done) | simp [Region.wanted, yielded, Act.put, go_sem]
        · simp [execOp, Act.eval, Act.put, go_sem]
        · exact ⟨Below.refl _ _, k8, hbx'⟩
      case refine_12 =>
        intro D sp w' hD hW hdp hbx'
        (with_reducible refine asked_value (w1 := w') (v := .int .i64 0) ?_ ?_ ?_)
        · first | (simp only [Region.wanted]; done) | simp [Region.wanted, yielded, Act.put, go_sem]
        · simp [execOp, Act.eval, Act.put, go_sem]
        · exact ⟨rfl, rfl⟩
    · intro sp w7 hsp hbx'
      have HB7 : Hold _ := ⟨hbx'⟩
      have h10 : PlF n (weis Q X [] Bs) (sp 10) w7 := hsp 10 rfl
      obtain ⟨g, e10, hp10⟩ := h10
      have HPW : Hold _ := ⟨hp10⟩
      clear hp10
      clear hsp hbx'
      simp only [frameOf, Nat.reduceAdd]
      generalize sp 1 = y1 at *
      generalize sp 6 = y6 at *
      generalize sp 7 = y7 at *
      generalize sp 8 = y8 at *
      generalize sp 10 = y10 at *
      subst e10
      go_simp
      obtain rfl := HSM.out
      clear hW0
      have hx7 := HBX.out.later HB7.out
      have HX7 : Hold _ := ⟨hx7⟩
      clear hx7
      go_wp2_with fail
      refine (newnat_fit (n := 1) w7 (by omega)).mono ?_
      rintro en w2 ⟨_, rfl, ⟨p2, n2, c2, rfl, h2, l2⟩, hb2⟩
      have hb02 := bstep HB7.out hb2
      have HV : Hold _ := ⟨weighed_fit (w := w2) (enters_of Tryz.func50 (by kernel_rfl) rfl) (enters_of Tryz.func34 (by kernel_rfl) rfl) (op_gmul (HG.out.below hb02)) (op_gexp (HG.out.below hb02)) (HY.out.below hb02) (HPW.out.below hb2) ((Fit.of h2 l2).wide (by decide : 2 ≤ 33)) hey (by omega) ⟨_, rfl⟩ ⟨_, rfl⟩⟩
      have HX2 : Hold _ := ⟨HX7.out.later hb2⟩
      clear h2 hb2 hb02 HX7
      go_wp2_with fail
      refine HV.out.mono ?_
      rintro en w3 ⟨_, rfl, ⟨p3, n3, c3, rfl, h3, l3⟩, hb3⟩
      rw [wsum_mprod] at h3 l3
      have hx3 := HX2.out.later hb3
      have k1 := hx3.b1.cell
      have f1 := hx3.b1.free
      have HF : Hold _ := ⟨Fit.of (h3.store hx3.b1 (.slice p3 n3 c3)) l3⟩
      have HBF : Hold (Below w.heap.size w (w3.setCell ⟨w.heap.size + 1, 0, none⟩ (.slice p3 n3 c3))) := ⟨hx3.bel.setCell (by simp) _⟩
      clear h3 hx3 hb3 HV HX2
      go_wp2
      exact bodyPost_ret (v := .tuple #[.agg #[.slice p3 n3 c3], .int .i64 0]) (by simp [results, Tryz.results16, go_sem, k1]) rfl ⟨fun hne => absurd HFA.out hne, fun _ => ⟨_, rfl, HF.out⟩, HBF.out⟩
  · have HFA : Hold _ := ⟨hf⟩
    obtain ⟨E, hE⟩ : ∃ E, faultN Q n V Bs = E := ⟨_, rfl⟩
    have HEE : Hold _ := ⟨hE⟩
    have hne : ((E : Int) != 0) = true := by rw [bne_iff_ne]; rw [hE] at hf; omega
    clear hf hE
    go_enter Tryz.func16, Tryz.ntmps16
    go_wp2
    refine wp_region_duties (by kernel_rfl) (by kernel_rfl)
      [some (.pointer (some ⟨b, 0, none⟩)), none, some (.slice p n c), some (.slice py V cy), some (.int .i64 (V : Nat)), some (.agg #[.slice px nx cx]), none, some (.tuple #[.slice none 0 0, .int .i64 (E : Nat)]), some (.slice none 0 0), some (.int .i64 (E : Nat)), some (.slice none 0 0), some (.int .i64 (E : Nat))]
      [false, true, false, false, false, false, true, false, false, false, false, false] rfl
      (fun w1 w2 => Below w1.heap.size w1 w2)
      (fun _ w' => Below W0.heap.size W0 w')
      (fun i v w' => match i with
        | 1 => FldF Q v w'
        | 6 => v = .tuple #[.slice none 0 0, .int .i64 (E : Nat)]
        | _ => True)
      ?_ (Below.refl _ _).drew ?_ ?_
    · intro i v w1 w2 hf hb
      split at hf
      · exact hf.below hb
      · exact hf
      · trivial
    · simp only [Duties, Nat.reduceAdd]
      refine ⟨?_, ?_, ?_, ?_, ?_, ?_, ?_, ?_, ?_, ?_, ?_, ?_, trivial⟩
      case refine_1 =>
        intro D sp w' hD hW hdp hbx'
        (with_reducible refine asked_value (w1 := w') (v := .pointer (some ⟨b, 0, none⟩)) ?_ ?_ ?_)
        · first | (simp only [Region.wanted]; done) | simp [Region.wanted, yielded, Act.put, go_sem]
        · simp [execOp, Act.eval, go_sem]
        · exact ⟨rfl, rfl⟩
      case refine_2 =>
        intro D sp w' hD hW hdp hbx'
        (with_reducible refine asked_call (w1 := w') (f := 14) (args := #[.pointer (some ⟨b, 0, none⟩)]) ?_ ?_ ?_)
        · first | (simp only [Region.wanted]; done) | simp [Region.wanted, yielded, Act.put, go_sem]
        · simp [Act.eval, Act.put, go_sem]
        · refine (gfield_f (HG.out.below hbx')).mono ?_
          rintro en w9 ⟨u, rfl, hu, hb⟩
          exact ⟨u, rfl, hb, hu, bstep hbx' hb⟩
      case refine_3 =>
        intro D sp w' hD hW hdp hbx'
        (with_reducible refine asked_value (w1 := w') (v := .slice p n c) ?_ ?_ ?_)
        · first | (simp only [Region.wanted]; done) | simp [Region.wanted, yielded, Act.put, go_sem]
        · simp [execOp, Act.eval, Act.put, go_sem]
        · exact ⟨rfl, rfl⟩
      case refine_4 =>
        intro D sp w' hD hW hdp hbx'
        (with_reducible refine asked_value (w1 := w') (v := .slice py V cy) ?_ ?_ ?_)
        · first | (simp only [Region.wanted]; done) | simp [Region.wanted, yielded, Act.put, go_sem]
        · simp [execOp, Act.eval, Act.put, go_sem]
        · exact ⟨rfl, rfl⟩
      case refine_5 =>
        intro D sp w' hD hW hdp hbx'
        (with_reducible refine asked_value (w1 := w') (v := .int .i64 (V : Nat)) ?_ ?_ ?_)
        · first | (simp only [Region.wanted]; done) | simp [Region.wanted, yielded, Act.put, go_sem]
        · simp [Act.eval, Act.put, go_sem]
        · exact ⟨rfl, rfl⟩
      case refine_6 =>
        intro D sp w' hD hW hdp hbx'
        have c0 := (HBX.out.later hbx').b0.cell
        (with_reducible refine asked_value (w1 := w') (v := .agg #[.slice px nx cx]) ?_ ?_ ?_)
        · first | (simp only [Region.wanted]; done) | simp [Region.wanted, yielded, Act.put, go_sem]
        · simp [execOp, Act.eval, Act.put, go_sem, c0]
        · exact ⟨rfl, rfl⟩
      case refine_7 =>
        intro D sp w' hD hW hdp hbx'
        have k1 : FldF Q (sp 1) w' := (hdp 1 (List.mem_of_elem_eq_true (by kernel_rfl))).2
        (with_reducible refine asked_call (w1 := w') (f := 45) (args := #[sp 1, .slice p n c, .int .i64 (V : Nat), .agg #[.slice px nx cx]]) ?_ ?_ ?_)
        · first | (simp only [Region.wanted]; done) | simp [Region.wanted, yielded, Act.put, go_sem]
        · simp [Act.eval, Act.put, go_sem]
        · refine (wbx_err k1 (HP.out.below hbx') (HX.out.below hbx') he hn hV HFA.out).mono ?_
          rintro en w9 ⟨rfl, hb⟩
          rw [HEE.out]
          exact ⟨_, rfl, hb, rfl, bstep hbx' hb⟩
      case refine_8 =>
        intro D sp w' hD hW hdp hbx'
        have k6 : (sp 6) = .tuple #[.slice none 0 0, .int .i64 (E : Nat)] := (hdp 6 (List.mem_of_elem_eq_true (by kernel_rfl))).2
        (with_reducible refine asked_value (w1 := w') (v := .tuple #[.slice none 0 0, .int .i64 (E : Nat)]) ?_ ?_ ?_)
        · first | (simp only [Region.wanted]; done) | simp [Region.wanted, yielded, Act.put, go_sem, k6]
        · simp [execOp, Act.eval, Act.put, go_sem, k6]
        · exact ⟨rfl, rfl⟩
      case refine_9 =>
        intro D sp w' hD hW hdp hbx'
        (with_reducible refine asked_value (w1 := w') (v := .slice none 0 0) ?_ ?_ ?_)
        · first | (simp only [Region.wanted]; done) | simp [Region.wanted, yielded, Act.put, go_sem]
        · simp [execOp, Act.eval, Act.put, go_sem]
        · exact ⟨rfl, rfl⟩
      case refine_10 =>
        intro D sp w' hD hW hdp hbx'
        (with_reducible refine asked_value (w1 := w') (v := .int .i64 (E : Nat)) ?_ ?_ ?_)
        · first | (simp only [Region.wanted]; done) | simp [Region.wanted, yielded, Act.put, go_sem]
        · simp [execOp, Act.eval, Act.put, go_sem]
        · exact ⟨rfl, rfl⟩
      case refine_11 =>
        intro D sp w' hD hW hdp hbx'
        (with_reducible refine asked_value (w1 := w') (v := .slice none 0 0) ?_ ?_ ?_)
        · first | (simp only [Region.wanted]; done) | simp [Region.wanted, yielded, Act.put, go_sem]
        · simp [execOp, Act.eval, Act.put, go_sem]
        · exact ⟨rfl, rfl⟩
      case refine_12 =>
        intro D sp w' hD hW hdp hbx'
        (with_reducible refine asked_value (w1 := w') (v := .int .i64 (E : Nat)) ?_ ?_ ?_)
        · first | (simp only [Region.wanted]; done) | simp [Region.wanted, yielded, Act.put, go_sem]
        · simp [execOp, Act.eval, Act.put, go_sem]
        · exact ⟨rfl, rfl⟩
    · intro sp w7 hsp hbx'
      have HB7 : Hold _ := ⟨hbx'⟩
      clear hsp hbx'
      simp only [frameOf, Nat.reduceAdd]
      generalize sp 1 = y1 at *
      generalize sp 6 = y6 at *
      go_simp
      clear hW0
      have hx7 := HBX.out.later HB7.out
      have k1 := hx7.b1.cell
      have f1 := hx7.b1.free
      have HBF : Hold (Below w.heap.size w (w7.setCell ⟨w.heap.size + 1, 0, none⟩ (.slice none 0 0))) := ⟨hx7.bel.setCell (by simp) _⟩
      clear hx7
      go_wp2
      exact bodyPost_ret (v := .tuple #[.agg #[.slice none 0 0], .int .i64 (E : Nat)]) (by simp [results, Tryz.results16, go_sem, k1]) rfl ⟨fun _ => by rw [HEE.out], fun h0 => absurd h0 HFA.out, HBF.out⟩

end Go.Proofs.YtblaplcknhpjnaaGreatDoor
