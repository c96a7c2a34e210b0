/- A group's product, its power, its members. -/
import Derived.Test.YtblaplcknhpjnaaGreatDoorGqR
/-! A group's plain calls: its numbers, its field, its size; of no group. -/
namespace Go.Proofs.YtblaplcknhpjnaaGreatDoor
open Go Go.RowKit Go.Proofs.YtblaplcknhpjnaaGreatDoor.Flow
set_option maxRecDepth 100000

set_option maxHeartbeats 1000000 in
set_option maxRecDepth 100000 in
theorem orNone_ptr (w : World) (b : Nat) : Calls Tryz.prog 48 #[.pointer (some ⟨b, 0, none⟩)] w fun e w' => e = .returned (.pointer (some ⟨b, 0, none⟩)) ∧ w' = w := by
  go_enter Tryz.func48, Tryz.ntmps48
  go_wp2
  go_ret
  exact ⟨rfl, rfl⟩
set_option maxHeartbeats 1000000 in
set_option maxRecDepth 100000 in
theorem gcopied_fit {w : World} {e N : Nat} {v : Value} (h : Fit e N v w) (he : e ≤ 300000) :
    Calls Tryz.prog 73 #[v] w fun en w' => ∃ x, en = .returned x ∧ Fit e N x w' ∧ Below w.heap.size w w' := by
  obtain ⟨pa, na, ca, rfl, h1, h2⟩ := fit_cases h
  have hbx := NB2.mk2 w (.slice pa na ca) (.slice none 0 0)
  have hz : ∀ w', Fit 0 0 (.agg #[.slice none 0 0]) w' := fun w' => Fit.of (NatAt.nil w') (by decide)
  have HZ := Lib.hid hz
  clear hz
  go_enter Tryz.func73, Tryz.ntmps73
  go_wp2_with fail
  refine (add_fit (h.below hbx.bel) (HZ.out _) (by omega) (by omega)).mono ?_
  rintro en w1 ⟨x, rfl, hx, hb⟩
  replace hbx := hbx.later hb
  obtain ⟨pc, nc, cc, rfl, y1, _⟩ := hx
  have c1 := hbx.b1.cell
  have f1 := hbx.b1.free
  have z1 := hbx.b1.lt
  go_wp2
  exact bodyPost_ret (v := .agg #[.slice pc nc cc]) (by simp [results, Tryz.results73, go_sem, c1]) rfl ⟨_, rfl, Fit.of (y1.store hbx.b1 _) h2, hbx.bel.setCell (by simp) _⟩

set_option maxHeartbeats 1000000 in
set_option maxRecDepth 100000 in
theorem bytesOf_fit {w : World} {e N : Nat} {v : Value} (h : Fit e N v w) (he : e ≤ 900000) :
    Calls Tryz.prog 110 #[v] w fun en w' => en = .returned (.int .i64 (bsize N : Nat)) ∧ Below w.heap.size w w' := by
  obtain ⟨p, n, c, rfl, h1, h2⟩ := h
  have hn : n < 1000000 := by have := h1.len_le h2; omega
  have hl : blen N ≤ 30000000 := by have := lim_blen h2; omega
  have hbx := Box1.mk1 w (.slice p n c) 36
  have H1 : Hold _ := ⟨h1.below hbx.bel⟩
  have HBX : Hold _ := ⟨hbx.bel⟩
  have HS : Hold (bsize N = (blen N + 7) / 8) := ⟨rfl⟩
  clear h1 h2 hbx
  go_enter Tryz.func110, Tryz.ntmps110
  go_wp2_with fail
  refine (bits_calls _ p n c N H1.out hn).mono ?_
  rintro en w1 ⟨rfl, hb1⟩
  have HB1 : Hold _ := ⟨bstep HBX.out hb1⟩
  clear hb1
  obtain ⟨L, hL⟩ : ∃ L, blen N = L := ⟨_, rfl⟩
  rw [hL] at hl HS
  simp only [hL]
  clear hL
  go_wp2
  go_ret
  refine ⟨?_, HB1.out⟩
  rw [HS.out]
  exact congrArg (fun z => Ending.returned (.int .i64 z)) (by omega)

set_option maxHeartbeats 1000000 in
set_option maxRecDepth 100000 in
theorem gG_fit {w : World} {b P Q G H : Nat} (h : GroupAt w b P Q G H) :
    Calls Tryz.prog 35 #[.pointer (some ⟨b, 0, none⟩)] w fun e w' => ∃ x, e = .returned x ∧ Fit 33 G x w' ∧ Below w.heap.size w w' := by
  have hb1 := NatBox.made w (.slice none 0 0)
  have hbel : Below w.heap.size w (w.alloc (.cells #[.slice none 0 0] 36)) := (Below.refl _ _).alloc (Nat.le_refl _) _
  obtain ⟨wa, hwa⟩ : ∃ wa, w.alloc (.cells #[.slice none 0 0] 36) = wa := ⟨_, rfl⟩
  rw [hwa] at hb1 hbel
  obtain ⟨rp, rq, pg, ng, cg, ph, nh, ch, h1, h2, h3, h4, h5, h6, h7⟩ := (h.below hbel).ex
  obtain ⟨c0, cq, c2, c3⟩ := group_cells h1
  have HR : Hold _ := ⟨Fit.of h4 h5⟩
  have HBX : Hold _ := ⟨hb1⟩
  have HB : Hold _ := ⟨hbel⟩
  clear h h1 h2 h3 h4 h5 h6 h7 hb1 hbel
  go_enter Tryz.func35, Tryz.ntmps35
  go_wp2_with fail
  refine (orNone_ptr wa b).mono ?_
  rintro en w1 ⟨rfl, rfl⟩
  go_wp2_with fail
  refine (gcopied_fit HR.out (by decide)).mono ?_
  rintro en w2 ⟨x, rfl, hx, hb2⟩
  obtain ⟨pc, nc, cc, rfl, y1, y2⟩ := hx
  have hbn := HBX.out.below hb2 HBX.out.lt
  have k1 := hbn.cell
  have f1 := hbn.free
  have z1 := hbn.lt
  clear c0 cq c2 c3
  go_wp2
  exact bodyPost_ret (v := .agg #[.slice pc nc cc]) (by simp [results, Tryz.results35, go_sem, k1]) rfl ⟨_, rfl, Fit.of (y1.store hbn _) y2, (bstep HB.out hb2).setCell (by simp) _⟩

set_option maxHeartbeats 1000000 in
set_option maxRecDepth 100000 in
theorem gfield_fit {w : World} {b P Q G H : Nat} (h : GroupAt w b P Q G H) :
    Calls Tryz.prog 14 #[.pointer (some ⟨b, 0, none⟩)] w fun e w' => ∃ r, e = .returned (.pointer (some ⟨r, 0, none⟩)) ∧ Ring w' r Q 33 ∧ Below w.heap.size w w' := by
  have hq := h.lims.2.2.1
  obtain ⟨rp, rq, pg, ng, cg, ph, nh, ch, h1, h2, h3, h4, h5, h6, h7⟩ := h.ex
  obtain ⟨c0, cq, c2, c3⟩ := group_cells h1
  have HR : Hold _ := ⟨h3⟩
  clear h h1 h2 h3 h4 h5 h6 h7
  go_enter Tryz.func14, Tryz.ntmps14
  go_wp2_with fail
  refine (orNone_ptr w b).mono ?_
  rintro en w1 ⟨rfl, rfl⟩
  go_wp2_with fail
  refine (modulus_fit HR.out).mono ?_
  rintro en w2 ⟨x, rfl, hx, hb2⟩
  have HX : Hold _ := ⟨hx⟩
  have HB2 : Hold _ := ⟨hb2⟩
  clear hx hb2 c0 cq c2 c3
  go_wp2_with fail
  refine (rngnew_fit HX.out (by decide)).mono ?_
  rintro en w3 ⟨hb3, hh⟩
  rcases hh with ⟨hl, _⟩ | ⟨_, r, rfl, hr, _⟩
  · omega
  have HR3 : Hold _ := ⟨hr⟩
  have HB3 : Hold _ := ⟨bstep HB2.out hb3⟩
  clear hr hb3
  go_wp2
  go_ret
  exact ⟨r, rfl, HR3.out, HB3.out⟩

end Go.Proofs.YtblaplcknhpjnaaGreatDoor

namespace Go.Proofs.YtblaplcknhpjnaaGreatDoor
open Go Go.RowKit Go.Proofs.YtblaplcknhpjnaaGreatDoor.Flow
set_option maxRecDepth 100000

set_option maxHeartbeats 4000000 in
set_option maxRecDepth 1000000 in
theorem isOne_fit {w : World} {e N : Nat} {v : Value} (h : Fit e N v w) (he : e ≤ 900000) :
    Calls Tryz.prog 117 #[v] w fun en w' => en = .returned (.bool (decide (N = 1))) ∧ Below w.heap.size w w' := by
  obtain ⟨p, n, c, rfl, h1, h2⟩ := h
  have hb1 := NatBox.made w (.slice p n c)
  have hbel : Below w.heap.size w (w.alloc (.cells #[.slice p n c] 36)) := (Below.refl _ _).alloc (Nat.le_refl _) _
  obtain ⟨wa, hwa⟩ : ∃ wa, w.alloc (.cells #[.slice p n c] 36) = wa := ⟨_, rfl⟩
  rw [hwa] at hb1 hbel
  have HF : Hold _ := ⟨(Fit.of h1 h2).below hbel⟩
  have HBX : Hold _ := ⟨hb1⟩
  have HB : Hold _ := ⟨hbel⟩
  obtain ⟨K, hK⟩ : ∃ K, cmpI N 1 = K := ⟨_, rfl⟩
  have HK : Hold _ := ⟨hK⟩
  obtain ⟨X, hX⟩ : ∃ X, decide (N = 1) = X := ⟨_, rfl⟩
  have hE : ((K : Int) == 0) = X := by
    rw [← hK, ← hX]
    by_cases hn : N = 1
    · simp [hn, cmpI_zero.2]
    · have : cmpI N 1 ≠ 0 := fun h0 => hn (cmpI_zero.1 h0)
      simp [hn, this]
  rw [hX]
  clear hK hX h1 h2 hb1 hbel
  go_enter Tryz.func117, Tryz.ntmps117
  go_wp2
  refine wp_region_dutiesS (by kernel_rfl) (by kernel_rfl)
    [some (.agg #[.slice p n c]), none, none, some (.bool X), some (.bool X)]
    [false, true, true, false, false] rfl
    (fun w1 w2 => Keep (w.heap.size) w1 w2)
    (fun D sp w' => RG (w.heap.size) wa [(w.heap.size, .cells #[.slice p n c] 36 (0, 0))] w' ∧ True)
    (fun i v w' => match i with
      | 1 => Fit 1 1 v w'
      | 2 => v = .int .i64 K
      | _ => True)
    ?_ ⟨RG.start HB.out.size (List.forall_mem_cons.2 ⟨HBX.out, fun x hx => by cases hx⟩), trivial⟩ ?_ ?_
  · intro i v w1 w2 hf hb
    split at hf
    · exact hf.keep hb
    · exact hf
    · trivial
  · simp only [DutiesS, Nat.reduceAdd]
    refine ⟨?_, ?_, ?_, ?_, ?_, trivial⟩
    case refine_1 =>
      intro D sp w' hD hW hdp hg
      have c0 : w'.cell? ⟨w.heap.size, 0, none⟩ = some (.slice p n c) := NatBox.cell (hg.1.of List.mem_cons_self)
      (with_reducible refine asked_value (w1 := w') (v := .agg #[.slice p n c]) ?_ ?_ ?_)
      · first | (simp only [Region.wanted]; done) | simp [Region.wanted, yielded, Act.put, go_sem]
      · simp [execOp, Act.eval, go_sem, c0]
      · exact ⟨rfl, rfl⟩
    case refine_2 =>
      intro D sp w' hD hW hdp hg
      (with_reducible refine asked_call (w1 := w') (f := 15) (args := #[.int .u64 1]) ?_ ?_ ?_)
      · first | (simp only [Region.wanted]; done) | simp [Region.wanted, yielded, Act.put, go_sem]
      · simp [Act.eval, Act.put, go_sem]
      · refine (one_fit w').mono ?_
        rintro en w9 ⟨u, rfl, hu, hb⟩
        exact ⟨u, rfl, Keep.of hb hg.1.base, hu, hg.1.later hb, trivial⟩
    case refine_3 =>
      intro D sp w' hD hW hdp hg
      have k1 : Fit 1 1 (sp 1) w' := (hdp 1 (List.mem_of_elem_eq_true (by kernel_rfl))).2
      (with_reducible refine asked_call (w1 := w') (f := 30) (args := #[.agg #[.slice p n c], sp 1]) ?_ ?_ ?_)
      · first | (simp only [Region.wanted]; done) | simp [Region.wanted, yielded, Act.put, go_sem]
      · simp [Act.eval, Act.put, go_sem]
      · refine (cmp_fitK (HF.out.keep hg.1.keep) k1 he (by decide) HK.out).mono ?_
        rintro en w9 ⟨u, rfl, rfl, hb⟩
        exact ⟨_, rfl, Keep.of hb hg.1.base, rfl, hg.1.later hb, trivial⟩
    case refine_4 =>
      intro D sp w' hD hW hdp hg
      have k2 : (sp 2) = .int .i64 K := (hdp 2 (List.mem_of_elem_eq_true (by kernel_rfl))).2
      (with_reducible refine asked_value (w1 := w') (v := .bool X) ?_ ?_ ?_)
      · first | (simp only [Region.wanted]; done) | simp [Region.wanted, yielded, Act.put, go_sem, k2]
      · simp [execOp, Act.eval, Act.put, go_sem, k2, hE]
      · exact ⟨rfl, rfl⟩
    case refine_5 =>
      intro D sp w' hD hW hdp hg
      (with_reducible refine asked_value (w1 := w') (v := .bool X) ?_ ?_ ?_)
      · first | (simp only [Region.wanted]; done) | simp [Region.wanted, yielded, Act.put, go_sem]
      · simp [execOp, Act.eval, Act.put, go_sem]
      · exact ⟨rfl, rfl⟩
  · intro sp w7 hsp hg
    have HB7 : Hold _ := ⟨HB.out.trans hg.1.keep.bel⟩
    clear hsp hg
    simp only [frameOf, Nat.reduceAdd]
    generalize sp 1 = y1 at *
    generalize sp 2 = y2 at *
    go_simp
    go_wp2
    go_ret
    exact ⟨rfl, HB7.out⟩

set_option maxHeartbeats 4000000 in
set_option maxRecDepth 1000000 in
theorem gmul_fit {w : World} {b P Q G H e1 e2 A E : Nat} {v u : Value} (h : GroupAt w b P Q G H) (hv : Fit e1 A v w) (hu : Fit e2 E u w) (he1 : e1 ≤ 30000) (he2 : e2 ≤ 30000) :
    Calls Tryz.prog 50 #[.pointer (some ⟨b, 0, none⟩), v, u] w fun e w' => ∃ x, e = .returned x ∧ Fit 33 (A * E % P) x w' ∧ Below w.heap.size w w' := by
  obtain ⟨pa, na, ca, rfl, h1, h2⟩ := fit_cases hv
  obtain ⟨pb, nb, cb, rfl, k1, k2⟩ := fit_cases hu
  have hbx := NB3.mk3 w (.slice pa na ca) (.slice pb nb cb) (.slice none 0 0)
  have hbl := h.lt
  obtain ⟨wa, hwa⟩ : ∃ wa, ((w.alloc (.cells #[.slice pa na ca] 36)).alloc (.cells #[.slice pb nb cb] 36)).alloc (.cells #[.slice none 0 0] 36) = wa := ⟨_, rfl⟩
  rw [hwa] at hbx
  obtain ⟨X, hX⟩ : ∃ X, A * E % P = X := ⟨_, rfl⟩
  have HX : Hold _ := ⟨hX⟩
  have HLX : Hold (X < B32 33) := ⟨by rw [← hX]; exact Nat.lt_trans (Nat.mod_lt _ (by have := h.lims.1; omega)) h.lims.2.1⟩
  rw [hX]
  obtain ⟨rp, rq, pg, ng, cg, ph, nh, ch, g1, g2, _⟩ := h.ex
  have HL : Hold (b < w.heap.size ∧ rp < w.heap.size) := ⟨hbl, g2.at_.lt⟩
  have HG : Hold _ := ⟨(hbx.bel.block b hbl).trans g1⟩
  have HR : Hold _ := ⟨g2.below hbx.bel⟩
  have HA : Hold _ := ⟨(Fit.of h1 h2).below hbx.bel⟩
  have HE : Hold _ := ⟨(Fit.of k1 k2).below hbx.bel⟩
  have HB0 : Hold (w.heap.size ≤ w.heap.size + 1 + 1) := ⟨by omega⟩
  have HNE : Hold (∀ x ∈ [((w.heap.size, .cells #[.slice pa na ca] 36 (0, 0)) : Nat × Obj), (w.heap.size + 1, .cells #[.slice pb nb cb] 36 (0, 0))], x.1 ≠ w.heap.size + 1 + 1) := ⟨List.forall_mem_cons.2 ⟨by simp only; omega, List.forall_mem_cons.2 ⟨by simp only; omega, fun x hx => by cases hx⟩⟩⟩
  have HBX : Hold _ := ⟨hbx⟩
  clear hX g1 g2 h1 h2 k1 k2 hbx hbl h hv hu
  go_enter Tryz.func50, Tryz.ntmps50
  go_wp2
  refine wp_region_dutiesS (by kernel_rfl) (by kernel_rfl)
    [some (.pointer (some ⟨b, 0, none⟩)), none, some (.pointer (some ⟨b, 0, none⟩)), some (.pointer (some ⟨b, 0, none⟩)), some (.pointer (some ⟨rp, 0, none⟩)), some (.agg #[.slice pa na ca]), some (.agg #[.slice pb nb cb]), none, none]
    [false, true, false, false, false, false, false, true, true] rfl
    (fun w1 w2 => Keep (w.heap.size) w1 w2)
    (fun D sp w' => RG (w.heap.size) wa [(w.heap.size, .cells #[.slice pa na ca] 36 (0, 0)), (w.heap.size + 1, .cells #[.slice pb nb cb] 36 (0, 0))] w' ∧ StB (D 8) (w.heap.size + 1 + 1) (X) w')
    (fun i v w' => match i with
      | 1 => v = .pointer (some ⟨b, 0, none⟩)
      | 7 => Fit 33 (X) v w'
      | _ => True)
    ?_ ⟨RG.start HBX.out.bel.size (List.forall_mem_cons.2 ⟨HBX.out.b0, List.forall_mem_cons.2 ⟨HBX.out.b1, fun x hx => by cases hx⟩⟩), StB.fresh HBX.out.b2⟩ ?_ ?_
  · intro i v w1 w2 hf hb
    split at hf
    · exact hf
    · exact hf.keep hb
    · trivial
  · simp only [DutiesS, Nat.reduceAdd]
    refine ⟨?_, ?_, ?_, ?_, ?_, ?_, ?_, ?_, ?_, trivial⟩
    case refine_1 =>
      intro D sp w' hD hW hdp hg
      (with_reducible refine asked_value (w1 := w') (v := .pointer (some ⟨b, 0, none⟩)) ?_ ?_ ?_)
      · first | (simp only [Region.wanted]; done) | simp [Region.wanted, yielded, Act.put, go_sem]
      · simp [execOp, Act.eval, go_sem]
      · exact ⟨rfl, rfl⟩
    case refine_2 =>
      intro D sp w' hD hW hdp hg
      (with_reducible refine asked_call (w1 := w') (f := 48) (args := #[.pointer (some ⟨b, 0, none⟩)]) ?_ ?_ ?_)
      · first | (simp only [Region.wanted]; done) | simp [Region.wanted, yielded, Act.put, go_sem]
      · simp [Act.eval, Act.put, go_sem]
      · refine (orNone_ptr w' b).mono ?_
        rintro en w9 ⟨rfl, rfl⟩
        exact ⟨_, rfl, Keep.same _ _, rfl, hg.1, by simpa [upd] using hg.2⟩
    case refine_3 =>
      intro D sp w' hD hW hdp hg
      have k1 : (sp 1) = .pointer (some ⟨b, 0, none⟩) := (hdp 1 (List.mem_of_elem_eq_true (by kernel_rfl))).2
      (with_reducible refine asked_value (w1 := w') (v := .pointer (some ⟨b, 0, none⟩)) ?_ ?_ ?_)
      · first | (simp only [Region.wanted]; done) | simp [Region.wanted, yielded, Act.put, go_sem, k1]
      · simp [execOp, Act.eval, Act.put, go_sem, k1]
      · exact ⟨rfl, rfl⟩
    case refine_4 =>
      intro D sp w' hD hW hdp hg
      (with_reducible refine asked_value (w1 := w') (v := .pointer (some ⟨b, 0, none⟩)) ?_ ?_ ?_)
      · first | (simp only [Region.wanted]; done) | simp [Region.wanted, yielded, Act.put, go_sem]
      · simp [execOp, Act.eval, Act.put, go_sem]
      · exact ⟨rfl, rfl⟩
    case refine_5 =>
      intro D sp w' hD hW hdp hg
      have c0 := (group_cells ((hg.1.keep.bel.block b HL.out.1).trans HG.out)).1
      (with_reducible refine asked_value (w1 := w') (v := .pointer (some ⟨rp, 0, none⟩)) ?_ ?_ ?_)
      · first | (simp only [Region.wanted]; done) | simp [Region.wanted, yielded, Act.put, go_sem]
      · simp [execOp, Act.eval, Act.put, go_sem, c0]
      · exact ⟨rfl, rfl⟩
    case refine_6 =>
      intro D sp w' hD hW hdp hg
      have c0 : w'.cell? ⟨w.heap.size, 0, none⟩ = some (.slice pa na ca) := NatBox.cell (hg.1.of List.mem_cons_self)
      (with_reducible refine asked_value (w1 := w') (v := .agg #[.slice pa na ca]) ?_ ?_ ?_)
      · first | (simp only [Region.wanted]; done) | simp [Region.wanted, yielded, Act.put, go_sem]
      · simp [execOp, Act.eval, Act.put, go_sem, c0]
      · exact ⟨rfl, rfl⟩
    case refine_7 =>
      intro D sp w' hD hW hdp hg
      have c0 : w'.cell? ⟨w.heap.size + 1, 0, none⟩ = some (.slice pb nb cb) := NatBox.cell (hg.1.of (List.mem_cons_of_mem _ List.mem_cons_self))
      (with_reducible refine asked_value (w1 := w') (v := .agg #[.slice pb nb cb]) ?_ ?_ ?_)
      · first | (simp only [Region.wanted]; done) | simp [Region.wanted, yielded, Act.put, go_sem]
      · simp [execOp, Act.eval, Act.put, go_sem, c0]
      · exact ⟨rfl, rfl⟩
    case refine_8 =>
      intro D sp w' hD hW hdp hg
      (with_reducible refine asked_call (w1 := w') (f := 40) (args := #[.pointer (some ⟨rp, 0, none⟩), .agg #[.slice pa na ca], .agg #[.slice pb nb cb]]) ?_ ?_ ?_)
      · first | (simp only [Region.wanted]; done) | simp [Region.wanted, yielded, Act.put, go_sem]
      · simp [Act.eval, Act.put, go_sem]
      · refine (rngmul_fit (HR.out.keep HL.out.2 hg.1.keep) (HA.out.keep hg.1.keep) (HE.out.keep hg.1.keep) (by omega) (by omega)).mono ?_
        rintro en w9 ⟨u, rfl, hu, hb⟩
        rw [HX.out] at hu
        exact ⟨u, rfl, Keep.of hb hg.1.base, hu, hg.1.later hb, by simpa [upd] using hg.2.later hb⟩
    case refine_9 =>
      intro D sp w' hD hW hdp hg
      have hx : ∃ p n c, sp 7 = .agg #[.slice p n c] ∧ NatAt w' p n c (X) ∧ X < B32 (33) := (hdp 7 (List.mem_of_elem_eq_true (by kernel_rfl))).2
      (with_reducible refine Exists.elim hx fun p hx1 => ?_)
      (with_reducible refine Exists.elim hx1 fun n hx2 => ?_)
      (with_reducible refine Exists.elim hx2 fun c hx3 => ?_)
      have h1 := hx3.1
      have hp := hg.2.put (hx3.2.1)
      (with_reducible refine Exists.elim hp fun q hy1 => ?_)
      (with_reducible refine Exists.elim hy1 fun m hy2 => ?_)
      (with_reducible refine Exists.elim hy2 fun k hy3 => ?_)
      have h6 := hy3.1.cell
      have h7 := hy3.1.free
      (with_reducible refine asked_skip (w1 := w'.setCell ⟨w.heap.size + 1 + 1, 0, none⟩ (.slice p n c)) ?_ ?_ ?_)
      · first | (simp only [Region.wanted]; done) | simp [Region.wanted, yielded, Act.put, go_sem]
      · simp [execOp, Act.eval, Act.put, go_sem, h1, h6, h7]
      · refine ⟨Keep.store hy3.1 HB0.out _, trivial, hg.1.store hy3.1 HB0.out HNE.out _, ?_⟩
        have h8 := hy3.2
        simpa [upd] using h8
  · intro sp w7 hsp hg
    obtain ⟨hg1, pz, nz, cz, hz1, hz2⟩ := hg
    have kz := hz1.cell
    have HZ : Hold _ := ⟨hz2 rfl⟩
    have HB7 : Hold _ := ⟨HBX.out.bel.trans hg1.keep.bel⟩
    clear hsp hg1 hz1 hz2
    simp only [frameOf, Nat.reduceAdd]
    generalize sp 1 = y1 at *
    generalize sp 7 = y7 at *
    generalize sp 8 = y8 at *
    go_simp
    go_wp2
    exact bodyPost_ret (v := .agg #[.slice pz nz cz]) (by simp [results, Tryz.results50, go_sem, kz]) rfl ⟨_, rfl, Fit.of HZ.out HLX.out, HB7.out⟩

set_option maxHeartbeats 4000000 in
set_option maxRecDepth 1000000 in
theorem gexp_fit {w : World} {b P Q G H e1 e2 A E : Nat} {v u : Value} (h : GroupAt w b P Q G H) (hv : Fit e1 A v w) (hu : Fit e2 E u w) (he1 : e1 ≤ 30000) (he2 : e2 ≤ 30000) :
    Calls Tryz.prog 34 #[.pointer (some ⟨b, 0, none⟩), v, u] w fun e w' => ∃ x, e = .returned x ∧ Fit 33 (A ^ E % P) x w' ∧ Below w.heap.size w w' := by
  obtain ⟨pa, na, ca, rfl, h1, h2⟩ := fit_cases hv
  obtain ⟨pb, nb, cb, rfl, k1, k2⟩ := fit_cases hu
  have hbx := NB3.mk3 w (.slice pa na ca) (.slice pb nb cb) (.slice none 0 0)
  have hbl := h.lt
  obtain ⟨wa, hwa⟩ : ∃ wa, ((w.alloc (.cells #[.slice pa na ca] 36)).alloc (.cells #[.slice pb nb cb] 36)).alloc (.cells #[.slice none 0 0] 36) = wa := ⟨_, rfl⟩
  rw [hwa] at hbx
  obtain ⟨X, hX⟩ : ∃ X, A ^ E % P = X := ⟨_, rfl⟩
  have HX : Hold _ := ⟨hX⟩
  have HLX : Hold (X < B32 33) := ⟨by rw [← hX]; exact Nat.lt_trans (Nat.mod_lt _ (by have := h.lims.1; omega)) h.lims.2.1⟩
  rw [hX]
  obtain ⟨rp, rq, pg, ng, cg, ph, nh, ch, g1, g2, _⟩ := h.ex
  have HL : Hold (b < w.heap.size ∧ rp < w.heap.size) := ⟨hbl, g2.at_.lt⟩
  have HG : Hold _ := ⟨(hbx.bel.block b hbl).trans g1⟩
  have HR : Hold _ := ⟨g2.below hbx.bel⟩
  have HA : Hold _ := ⟨(Fit.of h1 h2).below hbx.bel⟩
  have HE : Hold _ := ⟨(Fit.of k1 k2).below hbx.bel⟩
  have HB0 : Hold (w.heap.size ≤ w.heap.size + 1 + 1) := ⟨by omega⟩
  have HNE : Hold (∀ x ∈ [((w.heap.size, .cells #[.slice pa na ca] 36 (0, 0)) : Nat × Obj), (w.heap.size + 1, .cells #[.slice pb nb cb] 36 (0, 0))], x.1 ≠ w.heap.size + 1 + 1) := ⟨List.forall_mem_cons.2 ⟨by simp only; omega, List.forall_mem_cons.2 ⟨by simp only; omega, fun x hx => by cases hx⟩⟩⟩
  have HBX : Hold _ := ⟨hbx⟩
  clear hX g1 g2 h1 h2 k1 k2 hbx hbl h hv hu
  go_enter Tryz.func34, Tryz.ntmps34
  go_wp2
  refine wp_region_dutiesS (by kernel_rfl) (by kernel_rfl)
    [some (.pointer (some ⟨b, 0, none⟩)), none, some (.pointer (some ⟨b, 0, none⟩)), some (.pointer (some ⟨b, 0, none⟩)), some (.pointer (some ⟨rp, 0, none⟩)), some (.agg #[.slice pa na ca]), some (.agg #[.slice pb nb cb]), none, none]
    [false, true, false, false, false, false, false, true, true] rfl
    (fun w1 w2 => Keep (w.heap.size) w1 w2)
    (fun D sp w' => RG (w.heap.size) wa [(w.heap.size, .cells #[.slice pa na ca] 36 (0, 0)), (w.heap.size + 1, .cells #[.slice pb nb cb] 36 (0, 0))] w' ∧ StB (D 8) (w.heap.size + 1 + 1) (X) w')
    (fun i v w' => match i with
      | 1 => v = .pointer (some ⟨b, 0, none⟩)
      | 7 => Fit 33 (X) v w'
      | _ => True)
    ?_ ⟨RG.start HBX.out.bel.size (List.forall_mem_cons.2 ⟨HBX.out.b0, List.forall_mem_cons.2 ⟨HBX.out.b1, fun x hx => by cases hx⟩⟩), StB.fresh HBX.out.b2⟩ ?_ ?_
  · intro i v w1 w2 hf hb
    split at hf
    · exact hf
    · exact hf.keep hb
    · trivial
  · simp only [DutiesS, Nat.reduceAdd]
    refine ⟨?_, ?_, ?_, ?_, ?_, ?_, ?_, ?_, ?_, trivial⟩
    case refine_1 =>
      intro D sp w' hD hW hdp hg
      (with_reducible refine asked_value (w1 := w') (v := .pointer (some ⟨b, 0, none⟩)) ?_ ?_ ?_)
      · first | (simp only [Region.wanted]; done) | simp [Region.wanted, yielded, Act.put, go_sem]
      · simp [execOp, Act.eval, go_sem]
      · exact ⟨rfl, rfl⟩
    case refine_2 =>
      intro D sp w' hD hW hdp hg
      (with_reducible refine asked_call (w1 := w') (f := 48) (args := #[.pointer (some ⟨b, 0, none⟩)]) ?_ ?_ ?_)
      · first | (simp only [Region.wanted]; done) | simp [Region.wanted, yielded, Act.put, go_sem]
      · simp [Act.eval, Act.put, go_sem]
      · refine (orNone_ptr w' b).mono ?_
        rintro en w9 ⟨rfl, rfl⟩
        exact ⟨_, rfl, Keep.same _ _, rfl, hg.1, by simpa [upd] using hg.2⟩
    case refine_3 =>
      intro D sp w' hD hW hdp hg
      have k1 : (sp 1) = .pointer (some ⟨b, 0, none⟩) := (hdp 1 (List.mem_of_elem_eq_true (by kernel_rfl))).2
      (with_reducible refine asked_value (w1 := w') (v := .pointer (some ⟨b, 0, none⟩)) ?_ ?_ ?_)
      · first | (simp only [Region.wanted]; done) | simp [Region.wanted, yielded, Act.put, go_sem, k1]
      · simp [execOp, Act.eval, Act.put, go_sem, k1]
      · exact ⟨rfl, rfl⟩
    case refine_4 =>
      intro D sp w' hD hW hdp hg
      (with_reducible refine asked_value (w1 := w') (v := .pointer (some ⟨b, 0, none⟩)) ?_ ?_ ?_)
      · first | (simp only [Region.wanted]; done) | simp [Region.wanted, yielded, Act.put, go_sem]
      · simp [execOp, Act.eval, Act.put, go_sem]
      · exact ⟨rfl, rfl⟩
    case refine_5 =>
      intro D sp w' hD hW hdp hg
      have c0 := (group_cells ((hg.1.keep.bel.block b HL.out.1).trans HG.out)).1
      (with_reducible refine asked_value (w1 := w') (v := .pointer (some ⟨rp, 0, none⟩)) ?_ ?_ ?_)
      · first | (simp only [Region.wanted]; done) | simp [Region.wanted, yielded, Act.put, go_sem]
      · simp [execOp, Act.eval, Act.put, go_sem, c0]
      · exact ⟨rfl, rfl⟩
    case refine_6 =>
      intro D sp w' hD hW hdp hg
      have c0 : w'.cell? ⟨w.heap.size, 0, none⟩ = some (.slice pa na ca) := NatBox.cell (hg.1.of List.mem_cons_self)
      (with_reducible refine asked_value (w1 := w') (v := .agg #[.slice pa na ca]) ?_ ?_ ?_)
      · first | (simp only [Region.wanted]; done) | simp [Region.wanted, yielded, Act.put, go_sem]
      · simp [execOp, Act.eval, Act.put, go_sem, c0]
      · exact ⟨rfl, rfl⟩
    case refine_7 =>
      intro D sp w' hD hW hdp hg
      have c0 : w'.cell? ⟨w.heap.size + 1, 0, none⟩ = some (.slice pb nb cb) := NatBox.cell (hg.1.of (List.mem_cons_of_mem _ List.mem_cons_self))
      (with_reducible refine asked_value (w1 := w') (v := .agg #[.slice pb nb cb]) ?_ ?_ ?_)
      · first | (simp only [Region.wanted]; done) | simp [Region.wanted, yielded, Act.put, go_sem]
      · simp [execOp, Act.eval, Act.put, go_sem, c0]
      · exact ⟨rfl, rfl⟩
    case refine_8 =>
      intro D sp w' hD hW hdp hg
      (with_reducible refine asked_call (w1 := w') (f := 72) (args := #[.pointer (some ⟨rp, 0, none⟩), .agg #[.slice pa na ca], .agg #[.slice pb nb cb]]) ?_ ?_ ?_)
      · first | (simp only [Region.wanted]; done) | simp [Region.wanted, yielded, Act.put, go_sem]
      · simp [Act.eval, Act.put, go_sem]
      · refine (rexp_fit (HR.out.keep HL.out.2 hg.1.keep) (HA.out.keep hg.1.keep) (HE.out.keep hg.1.keep) (by omega) (by omega)).mono ?_
        rintro en w9 ⟨u, rfl, hu, hb⟩
        rw [HX.out] at hu
        exact ⟨u, rfl, Keep.of hb hg.1.base, hu, hg.1.later hb, by simpa [upd] using hg.2.later hb⟩
    case refine_9 =>
      intro D sp w' hD hW hdp hg
      have hx : ∃ p n c, sp 7 = .agg #[.slice p n c] ∧ NatAt w' p n c (X) ∧ X < B32 (33) := (hdp 7 (List.mem_of_elem_eq_true (by kernel_rfl))).2
      (with_reducible refine Exists.elim hx fun p hx1 => ?_)
      (with_reducible refine Exists.elim hx1 fun n hx2 => ?_)
      (with_reducible refine Exists.elim hx2 fun c hx3 => ?_)
      have h1 := hx3.1
      have hp := hg.2.put (hx3.2.1)
      (with_reducible refine Exists.elim hp fun q hy1 => ?_)
      (with_reducible refine Exists.elim hy1 fun m hy2 => ?_)
      (with_reducible refine Exists.elim hy2 fun k hy3 => ?_)
      have h6 := hy3.1.cell
      have h7 := hy3.1.free
      (with_reducible refine asked_skip (w1 := w'.setCell ⟨w.heap.size + 1 + 1, 0, none⟩ (.slice p n c)) ?_ ?_ ?_)
      · first | (simp only [Region.wanted]; done) | simp [Region.wanted, yielded, Act.put, go_sem]
      · simp [execOp, Act.eval, Act.put, go_sem, h1, h6, h7]
      · refine ⟨Keep.store hy3.1 HB0.out _, trivial, hg.1.store hy3.1 HB0.out HNE.out _, ?_⟩
        have h8 := hy3.2
        simpa [upd] using h8
  · intro sp w7 hsp hg
    obtain ⟨hg1, pz, nz, cz, hz1, hz2⟩ := hg
    have kz := hz1.cell
    have HZ : Hold _ := ⟨hz2 rfl⟩
    have HB7 : Hold _ := ⟨HBX.out.bel.trans hg1.keep.bel⟩
    clear hsp hg1 hz1 hz2
    simp only [frameOf, Nat.reduceAdd]
    generalize sp 1 = y1 at *
    generalize sp 7 = y7 at *
    generalize sp 8 = y8 at *
    go_simp
    go_wp2
    exact bodyPost_ret (v := .agg #[.slice pz nz cz]) (by simp [results, Tryz.results34, go_sem, kz]) rfl ⟨_, rfl, Fit.of HZ.out HLX.out, HB7.out⟩

end Go.Proofs.YtblaplcknhpjnaaGreatDoor
