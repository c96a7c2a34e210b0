/- What is weighed, summed (curve.weighed), in any place that has sums and products. -/
import Derived.Test.YtblaplcknhpjnaaGreatDoorCuH
namespace Go.Proofs.YtblaplcknhpjnaaGreatDoor
open Go Go.RowKit Go.Proofs.YtblaplcknhpjnaaGreatDoor.Flow
set_option maxRecDepth 100000

/-- What a method value with two numbers does. -/
structure Op2 (g : Nat) (pr : Value) (w : World) (h : Nat → Nat → Nat) : Prop where
  out : ∀ (W : World) (e1 e2 A B : Nat) (u v : Value), Below w.heap.size w W → e1 ≤ 200 → e2 ≤ 200 → Fit e1 A u W → Fit e2 B v W → Calls Tryz.prog g #[pr, u, v] W fun en w' => ∃ x, en = .returned x ∧ Fit 33 (h A B) x w' ∧ Below W.heap.size W w'
theorem op_add {w : World} {r q : Nat} (hR : Ring w r q 33) : Op2 38 (.pointer (some ⟨r, 0, none⟩)) w (fun a b => (a + b) % q) :=
  ⟨fun W e1 e2 A B u v hW h1 h2 hu hv => rngadd_fit (hR.below hW) hu hv (by omega) (by omega)⟩
theorem op_mul {w : World} {r q : Nat} (hR : Ring w r q 33) : Op2 40 (.pointer (some ⟨r, 0, none⟩)) w (fun a b => a * b % q) :=
  ⟨fun W e1 e2 A B u v hW h1 h2 hu hv => rngmul_fit (hR.below hW) hu hv (by omega) (by omega)⟩
theorem op_gmul {w : World} {b P Q G H : Nat} (hG : GroupAt w b P Q G H) : Op2 50 (.pointer (some ⟨b, 0, none⟩)) w (fun a b => a * b % P) :=
  ⟨fun W e1 e2 A B u v hW h1 h2 hu hv => gmul_fit (hG.below hW) hu hv (by omega) (by omega)⟩
theorem op_gexp {w : World} {b P Q G H : Nat} (hG : GroupAt w b P Q G H) : Op2 34 (.pointer (some ⟨b, 0, none⟩)) w (fun a b => a ^ b % P) :=
  ⟨fun W e1 e2 A B u v hW h1 h2 hu hv => gexp_fit (hG.below hW) hu hv (by omega) (by omega)⟩

set_option maxHeartbeats 8000000 in
set_option maxRecDepth 1000000 in
theorem weighed_fit {w : World} {e n c d O gp gt : Nat} {pp pt v : Value} {hp ht : Nat → Nat → Nat} {p q : Option Addr} {As Ws : List Nat} (egp : ∀ args w, (callFunc gp args).run Tryz.prog w = .ok (.enter gp args) w) (egt : ∀ args w, (callFunc gt args).run Tryz.prog w = .ok (.enter gt args) w)
    (hP : Op2 gp pp w hp) (hT : Op2 gt pt w ht) (hA : PList w e p n c As) (hW : PList w 33 q n d Ws) (hO : Fit 33 O v w) (he : e ≤ 200) (hn : n ≤ 1000000) (hcp : ∃ b, pp = .pointer (some ⟨b, 0, none⟩)) (hct : ∃ b, pt = .pointer (some ⟨b, 0, none⟩)) :
    Calls Tryz.prog 46 #[.slice p n c, .slice q n d, v, .func (.func gp) #[pp] #[], .func (.func gt) #[pt] #[]] w fun en w' => ∃ x, en = .returned x ∧ Fit 33 (wsum hp ht O (As.zip Ws)) x w' ∧ Below w.heap.size w w' := by
  obtain ⟨bp, rfl⟩ := hcp
  obtain ⟨bt, rfl⟩ := hct
  obtain ⟨pv, nv, cv, rfl, v1, v2⟩ := fit_cases hO
  obtain ⟨pp, hpp⟩ : ∃ x : Value, .pointer (some ⟨bp, 0, none⟩) = x := ⟨_, rfl⟩
  obtain ⟨pt, hpt⟩ : ∃ x : Value, .pointer (some ⟨bt, 0, none⟩) = x := ⟨_, rfl⟩
  rw [hpp] at hP ⊢
  rw [hpt] at hT ⊢
  clear hpp hpt
  have hx3 := NB3.mk3 w (.slice pv nv cv) (.slice none 0 0) (.slice pv nv cv)
  obtain ⟨w3, hw3⟩ : ∃ w3, ((w.alloc (.cells #[.slice pv nv cv] 36)).alloc (.cells #[.slice none 0 0] 36)).alloc (.cells #[.slice pv nv cv] 36) = w3 := ⟨_, rfl⟩
  rw [hw3] at hx3
  obtain ⟨b11, hb11⟩ : ∃ b, w.heap.size + 1 + 1 = b := ⟨_, rfl⟩
  have hX2 := hx3.b2
  rw [hb11] at hX2
  have HX3 : Hold (NatBox w3 w.heap.size (.slice pv nv cv) ∧ NatBox w3 (w.heap.size + 1) (.slice none 0 0) ∧ ProdBox w3 b11 (wsum hp ht O ((As.zip Ws).take 0)) ∧ Below w.heap.size w w3) := ⟨⟨hx3.b0, hx3.b1, ⟨pv, nv, cv, hX2, v1.below hx3.bel⟩, hx3.bel⟩⟩
  have HO : Hold _ := ⟨v2⟩
  have HLA : Hold _ := ⟨hA.len⟩
  have HLW : Hold _ := ⟨hW.len⟩
  have HPA : Hold _ := ⟨hA⟩
  have HPW : Hold _ := ⟨hW⟩
  have HPp : Hold _ := ⟨hP⟩
  have HT : Hold _ := ⟨hT⟩
  have HB11 : Hold _ := ⟨hb11⟩
  clear hP hT hA hW hO v1 hx3 hX2
  go_enter Tryz.func46, Tryz.ntmps46
  go_wp2
  clear hw3 hb11
  go_loopw [12, 13, 17] (fun _ _ iv wr => ∃ k : Nat, k ≤ n ∧ iv = .int .i64 k ∧ Hold (NatBox wr w.heap.size (.slice pv nv cv) ∧ NatBox wr (w.heap.size + 1) (.slice none 0 0) ∧ ProdBox wr b11 (wsum hp ht O ((As.zip Ws).take k)) ∧ Below w.heap.size w wr) ∧ Hold (wsum hp ht O ((As.zip Ws).take k) < B32 33)) (fun _ _ iv _ => n - (intOf iv).toNat)
  case atStart => exact ⟨0, by omega, rfl, HX3, ⟨HO.out⟩⟩
  case round =>
    obtain ⟨k, hk, rfl, HS, HSL⟩ := hrel
    by_cases hkn : k < n
    · obtain ⟨A, hAk⟩ : ∃ X, As[k]? = some X := ⟨As[k]'(by rw [← HLA.out]; exact hkn), List.getElem?_eq_getElem _⟩
      obtain ⟨Y, hYk⟩ : ∃ X, Ws[k]? = some X := ⟨Ws[k]'(by rw [← HLW.out]; exact hkn), List.getElem?_eq_getElem _⟩
      obtain ⟨b1, off1, rfl, hb1, hc1⟩ := HPA.out.at_ (by omega)
      obtain ⟨b2, off2, rfl, hb2, hc2⟩ := HPW.out.at_ (by omega)
      obtain ⟨qa, ma, da, ha1, ha2, ha3⟩ := hc1 k A hAk
      obtain ⟨qy, my, dy, hy1, hy2, hy3⟩ := hc2 k Y hYk
      obtain ⟨a, ha⟩ : ∃ x : Option Addr × Nat × Nat, (qa, ma, da) = x := ⟨_, rfl⟩
      obtain rfl : qa = a.1 := by rw [← ha]
      obtain rfl : ma = a.2.1 := by rw [← ha]
      obtain rfl : da = a.2.2 := by rw [← ha]
      obtain ⟨y, hy⟩ : ∃ x : Option Addr × Nat × Nat, (qy, my, dy) = x := ⟨_, rfl⟩
      obtain rfl : qy = y.1 := by rw [← hy]
      obtain rfl : my = y.2.1 := by rw [← hy]
      obtain rfl : dy = y.2.2 := by rw [← hy]
      clear ha hy
      have hcell : wr.cell? ⟨b1, off1 + k, none⟩ = some (.slice a.1 a.2.1 a.2.2) := (HS.out.2.2.2.cell (p := ⟨b1, off1 + k, none⟩) hb1).trans ha1
      have hbw : Below wr.heap.size wr (wr.alloc (.cells #[.slice a.1 a.2.1 a.2.2] 36)) := (Below.refl _ _).alloc (Nat.le_refl _) _
      have hbo := NatBox.made wr (.slice a.1 a.2.1 a.2.2)
      obtain ⟨wb, hwb⟩ : ∃ wb, wr.alloc (.cells #[.slice a.1 a.2.1 a.2.2] 36) = wb := ⟨_, rfl⟩
      rw [hwb] at hbw hbo
      have HBO : Hold _ := ⟨hbo⟩
      have HBb : Hold (Below w.heap.size w wb) := ⟨bstep HS.out.2.2.2 hbw⟩
      have HV : Hold _ := ⟨HS.out.1.below hbw HS.out.1.lt⟩
      have HR1 : Hold _ := ⟨HS.out.2.1.below hbw HS.out.2.1.lt⟩
      obtain ⟨po, no, co, hob, hon⟩ := HS.out.2.2.1
      have HOB : Hold _ := ⟨hob.below hbw hob.lt⟩
      obtain ⟨OO, hOO⟩ : ∃ N, wsum hp ht O ((As.zip Ws).take k) = N := ⟨_, rfl⟩
      rw [hOO] at hon
      have HFO : Hold (Fit 33 OO (.agg #[.slice po no co]) wb) := ⟨(Fit.of hon (by rw [← hOO]; exact HSL.out)).below hbw⟩
      have HFA : Hold _ := ⟨(Fit.of ha2 ha3).below HBb.out⟩
      have HFW : Hold _ := ⟨(Fit.of hy2 hy3).below HBb.out⟩
      have HCW : Hold (wb.cell? ⟨b2, off2 + k, none⟩ = some (.slice y.1 y.2.1 y.2.2)) := ⟨(HBb.out.cell (p := ⟨b2, off2 + k, none⟩) hb2).trans hy1⟩
      have HB2L : Hold _ := ⟨hb2⟩
      obtain ⟨Z, hZ⟩ : ∃ Z, hp OO (ht A Y) = Z := ⟨_, rfl⟩
      have HZ : Hold _ := ⟨hZ⟩
      have HSN : Hold (wsum hp ht O ((As.zip Ws).take (k + 1)) = Z) := ⟨by rw [snoc_take (zip_get hAk hYk), wsum_snoc, hOO, hZ]⟩
      have HNE : Hold (∀ x ∈ ([(wr.heap.size, .cells #[.slice a.1 a.2.1 a.2.2] 36 (0, 0)), (w.heap.size, .cells #[.slice pv nv cv] 36 (0, 0)), (w.heap.size + 1, .cells #[.slice none 0 0] 36 (0, 0))] : List (Nat × Obj)), x.1 ≠ b11) := ⟨by
        have h1 := HB11.out
        have h2 := hob.lt
        intro x hx
        simp only [List.mem_cons, List.not_mem_nil, or_false] at hx
        rcases hx with rfl | rfl | rfl <;> simp only <;> omega⟩
      have HLL : Hold (∀ x ∈ ([(wr.heap.size, .cells #[.slice a.1 a.2.1 a.2.2] 36 (0, 0)), (w.heap.size, .cells #[.slice pv nv cv] 36 (0, 0)), (w.heap.size + 1, .cells #[.slice none 0 0] 36 (0, 0))] : List (Nat × Obj)), wb.heap[x.1]? = some x.2) := ⟨by
        intro x hx
        simp only [List.mem_cons, List.not_mem_nil, or_false] at hx
        rcases hx with rfl | rfl | rfl
        · exact HBO.out
        · exact HV.out
        · exact HR1.out⟩
      have HLE : Hold (w.heap.size ≤ b11) := ⟨by have := HB11.out; omega⟩
      have hkn' : (k : Int) < n := by omega
      clear hc1 hc2 hAk hYk ha1 ha2 hy1 hy2 hbw hbo hob hon hOO hZ hb1 hb2
      go_wp2
      refine wp_region_dutiesS (by kernel_rfl) (by kernel_rfl)
        [some (.func (.func gp) #[pp] #[]), some (.agg #[.slice po no co]), some (.func (.func gt) #[pt] #[]), some (.agg #[.slice a.1 a.2.1 a.2.2]), some (.slice (some ⟨b2, off2, none⟩) n d), some (.int .i64 (k : Nat)), some (.pointer (some ⟨b2, off2 + k, none⟩)), some (.agg #[.slice y.1 y.2.1 y.2.2]), none, none, none]
        [false, false, false, false, false, false, false, false, true, true, true] rfl
        (fun wA wB => Keep (w.heap.size) wA wB)
        (fun D sp w' => RG (w.heap.size) wb [(wr.heap.size, .cells #[.slice a.1 a.2.1 a.2.2] 36 (0, 0)), (w.heap.size, .cells #[.slice pv nv cv] 36 (0, 0)), (w.heap.size + 1, .cells #[.slice none 0 0] 36 (0, 0))] w' ∧ StV (D 10) (b11) po no co (Z) w')
        (fun i v w' => match i with
          | 8 => Fit 33 (ht A Y) v w'
          | 9 => Fit 33 Z v w'
          | _ => True)
        ?_ ⟨RG.start HBb.out.size HLL.out, ⟨fun _ => HOB.out, fun e => by cases e⟩⟩ ?_ ?_
      · intro i v wA wB hf hb
        split at hf
        · exact hf.keep hb
        · exact hf.keep hb
        · trivial
      · simp only [DutiesS, Nat.reduceAdd]
        refine ⟨?_, ?_, ?_, ?_, ?_, ?_, ?_, ?_, ?_, ?_, ?_, trivial⟩
        case refine_1 =>
          intro D sp w' hD hW hdp hg
          (with_reducible refine asked_value (w1 := w') (v := .func (.func gp) #[pp] #[]) ?_ ?_ ?_)
          · first | (simp only [Region.wanted]; done) | simp [Region.wanted, yielded, Act.put, go_sem]
          · simp [execOp, Act.eval, go_sem]
          · exact ⟨rfl, rfl⟩
        case refine_2 =>
          intro D sp w' hD hW hdp hg
          have c0 := (hg.2.z (hW 10 (List.mem_of_elem_eq_true (by kernel_rfl)))).cell
          (with_reducible refine asked_value (w1 := w') (v := .agg #[.slice po no co]) ?_ ?_ ?_)
          · first | (simp only [Region.wanted]; done) | simp [Region.wanted, yielded, Act.put, go_sem]
          · simp [execOp, Act.eval, Act.put, go_sem, c0]
          · exact ⟨rfl, rfl⟩
        case refine_3 =>
          intro D sp w' hD hW hdp hg
          (with_reducible refine asked_value (w1 := w') (v := .func (.func gt) #[pt] #[]) ?_ ?_ ?_)
          · first | (simp only [Region.wanted]; done) | simp [Region.wanted, yielded, Act.put, go_sem]
          · simp [execOp, Act.eval, Act.put, go_sem]
          · exact ⟨rfl, rfl⟩
        case refine_4 =>
          intro D sp w' hD hW hdp hg
          have c0 : w'.cell? ⟨wr.heap.size, 0, none⟩ = some (.slice a.1 a.2.1 a.2.2) := NatBox.cell (hg.1.of List.mem_cons_self)
          (with_reducible refine asked_value (w1 := w') (v := .agg #[.slice a.1 a.2.1 a.2.2]) ?_ ?_ ?_)
          · first | (simp only [Region.wanted]; done) | simp [Region.wanted, yielded, Act.put, go_sem]
          · simp [execOp, Act.eval, Act.put, go_sem, c0]
          · exact ⟨rfl, rfl⟩
        case refine_5 =>
          intro D sp w' hD hW hdp hg
          (with_reducible refine asked_value (w1 := w') (v := .slice (some ⟨b2, off2, none⟩) n d) ?_ ?_ ?_)
          · first | (simp only [Region.wanted]; done) | simp [Region.wanted, yielded, Act.put, go_sem]
          · simp [execOp, Act.eval, Act.put, go_sem]
          · exact ⟨rfl, rfl⟩
        case refine_6 =>
          intro D sp w' hD hW hdp hg
          (with_reducible refine asked_value (w1 := w') (v := .int .i64 (k : Nat)) ?_ ?_ ?_)
          · first | (simp only [Region.wanted]; done) | simp [Region.wanted, yielded, Act.put, go_sem]
          · simp [execOp, Act.eval, Act.put, go_sem]
          · exact ⟨rfl, rfl⟩
        case refine_7 =>
          intro D sp w' hD hW hdp hg
          have hnk : ¬ n ≤ k := Nat.not_le.2 hkn
          (with_reducible refine asked_value (w1 := w') (v := .pointer (some ⟨b2, off2 + k, none⟩)) ?_ ?_ ?_)
          · first | (simp only [Region.wanted]; done) | simp [Region.wanted, yielded, Act.put, go_sem]
          · simp [execOp, Act.eval, Act.put, go_sem, hnk]
          · exact ⟨rfl, rfl⟩
        case refine_8 =>
          intro D sp w' hD hW hdp hg
          have c0 : w'.cell? ⟨b2, off2 + k, none⟩ = some (.slice y.1 y.2.1 y.2.2) := (hg.1.keep.bel.cell (p := ⟨b2, off2 + k, none⟩) HB2L.out).trans HCW.out
          (with_reducible refine asked_value (w1 := w') (v := .agg #[.slice y.1 y.2.1 y.2.2]) ?_ ?_ ?_)
          · first | (simp only [Region.wanted]; done) | simp [Region.wanted, yielded, Act.put, go_sem]
          · simp [execOp, Act.eval, Act.put, go_sem, c0]
          · exact ⟨rfl, rfl⟩
        case refine_9 =>
          intro D sp w' hD hW hdp hg
          (with_reducible refine asked_call (w1 := w') (f := gt) (args := #[pt, .agg #[.slice a.1 a.2.1 a.2.2], .agg #[.slice y.1 y.2.1 y.2.2]]) ?_ ?_ ?_)
          · first | (simp only [Region.wanted]; done) | simp [Region.wanted, yielded, Act.put, go_sem]
          · simp [Act.eval, Act.put, go_sem, egt]
          · refine (HT.out.out w' e 33 _ _ _ _ (HBb.out.trans hg.1.keep.bel) he (by decide) (HFA.out.keep hg.1.keep) (HFW.out.keep hg.1.keep)).mono ?_
            rintro en w9 ⟨u, rfl, hu, hb⟩
            exact ⟨u, rfl, Keep.of hb hg.1.base, hu, hg.1.later hb, by simpa [upd] using hg.2.later hb⟩
        case refine_10 =>
          intro D sp w' hD hW hdp hg
          have k8 : Fit 33 (ht A Y) (sp 8) w' := (hdp 8 (List.mem_of_elem_eq_true (by kernel_rfl))).2
          (with_reducible refine asked_call (w1 := w') (f := gp) (args := #[pp, .agg #[.slice po no co], sp 8]) ?_ ?_ ?_)
          · first | (simp only [Region.wanted]; done) | simp [Region.wanted, yielded, Act.put, go_sem]
          · simp [Act.eval, Act.put, go_sem, egp]
          · refine (HPp.out.out w' 33 33 _ _ _ _ (HBb.out.trans hg.1.keep.bel) (by decide) (by decide) (HFO.out.keep hg.1.keep) k8).mono ?_
            rintro en w9 ⟨u, rfl, hu, hb⟩
            rw [HZ.out] at hu
            exact ⟨u, rfl, Keep.of hb hg.1.base, hu, hg.1.later hb, by simpa [upd] using hg.2.later hb⟩
        case refine_11 =>
          intro D sp w' hD hW hdp hg
          have hx : ∃ p n c, sp 9 = .agg #[.slice p n c] ∧ NatAt w' p n c (Z) ∧ Z < B32 (33) := (hdp 9 (List.mem_of_elem_eq_true (by kernel_rfl))).2
          (with_reducible refine Exists.elim hx fun p hx1 => ?_)
          (with_reducible refine Exists.elim hx1 fun n hx2 => ?_)
          (with_reducible refine Exists.elim hx2 fun c hx3 => ?_)
          have h1 := hx3.1
          rw [hD] at hg
          have hp := hg.2.put (hx3.2.1)
          (with_reducible refine Exists.elim hp fun q hy1 => ?_)
          (with_reducible refine Exists.elim hy1 fun m hy2 => ?_)
          (with_reducible refine Exists.elim hy2 fun k hy3 => ?_)
          have h6 := hy3.1.cell
          have h7 := hy3.1.free
          (with_reducible refine asked_skip (w1 := w'.setCell ⟨b11, 0, none⟩ (.slice p n c)) ?_ ?_ ?_)
          · first | (simp only [Region.wanted]; done) | simp [Region.wanted, yielded, Act.put, go_sem]
          · simp [execOp, Act.eval, Act.put, go_sem, h1, h6, h7]
          · refine ⟨Keep.store hy3.1 HLE.out _, trivial, hg.1.store hy3.1 HLE.out HNE.out _, ?_⟩
            have h8 := hy3.2
            simpa [upd] using h8
      · intro sp w9 hsp hg
        obtain ⟨hg1, hg2⟩ := hg
        obtain ⟨pz, nz, cz, hz1, hz2⟩ := hg2.o rfl
        have hl9 : Fit 33 Z (sp 9) w9 := hsp 9 rfl
        have HSL2 : Hold (wsum hp ht O ((As.zip Ws).take (k + 1)) < B32 33) := ⟨by rw [HSN.out]; exact hl9.lim⟩
        have g0 := hg1.of (List.mem_cons_of_mem _ List.mem_cons_self)
        have g1 := hg1.of (List.mem_cons_of_mem _ (List.mem_cons_of_mem _ List.mem_cons_self))
        have HS9 : Hold (NatBox w9 w.heap.size (.slice pv nv cv) ∧ NatBox w9 (w.heap.size + 1) (.slice none 0 0) ∧ ProdBox w9 b11 (wsum hp ht O ((As.zip Ws).take (k + 1))) ∧ Below w.heap.size w w9) := ⟨⟨g0, g1, ⟨pz, nz, cz, hz1, by rw [HSN.out]; exact hz2⟩, HBb.out.trans hg1.keep.bel⟩⟩
        clear hsp hg1 hg2 hz1 hz2 hl9 g0 g1
        simp only [frameOf, Nat.reduceAdd]
        generalize sp 8 = y8 at *
        generalize sp 9 = y9 at *
        generalize sp 10 = y10 at *
        go_simp
        go_wp2
        go_roundw
        case rel => exact ⟨k + 1, by omega, by go_num, HS9, HSL2⟩
        case measure => simp [intOf]; omega
    · obtain rfl : k = n := by omega
      have hkn' : ¬ (k : Int) < k := by omega
      have htk : (As.zip Ws).take k = As.zip Ws := List.take_of_length_le (by rw [List.length_zip, ← HLA.out, ← HLW.out]; omega)
      rw [htk] at HS HSL
      obtain ⟨po, no, co, hob, hon⟩ := HS.out.2.2.1
      have c11 := hob.cell
      have hr1 := HS.out.2.1
      have k8 := hr1.cell
      have f8 := hr1.free
      have HF : Hold _ := ⟨Fit.of (hon.store hr1 (.slice po no co)) HSL.out⟩
      have HBF : Hold (Below w.heap.size w (wr.setCell ⟨w.heap.size + 1, 0, none⟩ (.slice po no co))) := ⟨HS.out.2.2.2.setCell (by simp) _⟩
      clear htk hob hon hr1
      go_wp2
      exact bodyPost_ret (v := .agg #[.slice po no co]) (by simp [results, Tryz.results46, go_sem, k8]) rfl ⟨_, rfl, HF.out, HBF.out⟩

end Go.Proofs.YtblaplcknhpjnaaGreatDoor
