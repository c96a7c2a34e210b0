/- tag.Of: what the program's call does. -/
import Derived.Test.YthpfpnialeoclaaTagS
namespace Go.Proofs.Ythpfpnialeoclaa
open Go Go.RowKit Go.Shelf Go.Proofs.Ythpfpnialeoclaa.Flow
attribute [local go_sem] Oper.semAt_some

set_option maxHeartbeats 1000000 in
theorem of_err (w : World) (pk : Option Addr) (nk ck : Nat) (pb : Option Addr) (nb cb : Nat) (h : nk ≠ 32) :
    Calls Try.prog 7 #[.slice pk nk ck, .slice pb nb cb] w (GivesNoTag w) := by
  have hne : ((nk : Int) == 32) = false := by rw [beq_eq_false_iff_ne]; omega
  have hne' : ((nk : Int) != 32) = true := by rw [bne_iff_ne]; omega
  go_enter Try.func7, Try.ntmps7
  go_wp2
  go_ret2
  exact ⟨rfl, Below.refl _ _⟩

set_option maxRecDepth 1000000 in
set_option maxHeartbeats 8000000 in
theorem of_in (w : World) (pk : Option Addr) (ck : Nat) (key : List Nat) (pb : Option Addr) (nb cb : Nat) (xs : List Nat)
    (hk : RowIn w .u8 pk 32 ck key) (h8 : Bytes8 key) (hb : RowIn w .u8 pb nb cb xs) (h8b : Bytes8 xs) (hnb : nb ≤ 1000) :
    CallsIn Fence.wide 10 Try.prog 7 #[.slice pk 32 ck, .slice pb nb cb] w (GivesTag key xs w) := by
  have hkl := hk.len
  have hkc := hk.cap
  obtain ⟨bk, ok, rfl, hbk, _⟩ := (hk.row (by omega)).pos (by omega)
  have HK1 : Hold _ := ⟨hk.take 16 (by omega)⟩
  have HK2 : Hold _ := ⟨hk.drop 16 (by omega)⟩
  have HX : Hold _ := ⟨hb⟩
  have H8 : Hold (Bytes8 key) := ⟨h8⟩
  have H8b : Hold (Bytes8 xs) := ⟨h8b⟩
  have hck : ¬ ck = 16 := by omega
  have hxl := hb.len
  have HXL : Hold _ := ⟨hxl⟩
  clear hk hb h8 h8b hkl hxl
  refine callsIn_of_wp_marks Try.func7 rfl trivial ?_ rfl
  simp only [Try.ntmps7, List.size_toArray, List.length_cons, List.length_nil, Nat.reduceAdd, Nat.reduceSub, Array.replicate_succ, Array.replicate_zero, List.push_toArray, List.append_toArray, List.nil_append, List.cons_append]
  gi_wp2_with fail
  refine ⟨trivial, (callsIn_wide.2 (factor_fit w _ ck _ HK1.out (fun h => nomatch h) (H8.out.take 16))).mono ?_⟩
  rintro e w1 ⟨v1, rfl, hf1, hb1⟩
  obtain ⟨p6, n6, c6, rfl, hn6, hl6⟩ := hf1
  have HB1 : Hold _ := ⟨hb1⟩
  have HF6 : Hold (Fit 32 (le (clamp (key.take 16))) (.agg #[.slice p6 n6 c6]) w1) := ⟨Fit.of hn6 hl6⟩
  clear hb1 hn6 hl6
  obtain ⟨b6, hb6⟩ : ∃ b, w1.heap.size = b := ⟨_, rfl⟩
  have hX6 : Hold (NatBox (w1.alloc (.cells #[.slice p6 n6 c6] 32)) b6 (.slice p6 n6 c6)) := ⟨by rw [← hb6]; exact NatBox.made w1 _⟩
  have ha6 : Below w1.heap.size w1 (w1.alloc (.cells #[.slice p6 n6 c6] 32)) := (Below.refl _ _).alloc (Nat.le_refl _) _
  have HA6 : Hold _ := ⟨ha6⟩
  have HBa : Hold _ := ⟨bstep HB1.out ha6⟩
  have hlen16 : (key.drop 16).length ≤ 16 := by rw [List.length_drop]; have := HK2.out.len; rw [List.length_drop] at this; omega
  have HB6 : Hold _ := ⟨hb6⟩
  clear ha6
  gi_wp2_with fail
  refine ⟨trivial, (callsIn_wide.2 (number_fit _ _ 16 _ _ (HK2.out.below HBa.out) (fun h => nomatch h) (fun x hx => H8.out x (List.mem_of_mem_drop hx)) (by decide) (by decide))).mono ?_⟩
  rintro e w2 ⟨v2, rfl, hf2, hb2⟩
  obtain ⟨p7, n7, c7, rfl, hn7, hl7⟩ := hf2
  have HX6 : Hold _ := ⟨hX6.out.below hb2 hX6.out.lt⟩
  have HF6' : Hold _ := ⟨(HF6.out.below HA6.out).below hb2⟩
  have HB2 : Hold _ := ⟨bstep HBa.out hb2⟩
  have HF7 : Hold (Fit 32 (le (key.drop 16)) (.agg #[.slice p7 n7 c7]) w2) := ⟨Fit.of hn7 hl7⟩
  obtain ⟨b7, hb7⟩ : ∃ b, w2.heap.size = b := ⟨_, rfl⟩
  have hX7 : Hold (NatBox (w2.alloc (.cells #[.slice p7 n7 c7] 32)) b7 (.slice p7 n7 c7)) := ⟨by rw [← hb7]; exact NatBox.made w2 _⟩
  have ha7 : Below w2.heap.size w2 (w2.alloc (.cells #[.slice p7 n7 c7] 32)) := (Below.refl _ _).alloc (Nat.le_refl _) _
  have h67 : b6 < b7 := by rw [← hb7]; exact HX6.out.lt
  have HA7 : Hold _ := ⟨ha7⟩
  have HBb : Hold _ := ⟨bstep HB2.out ha7⟩
  have HB7 : Hold _ := ⟨hb7⟩
  clear hb2 hn7 hl7 ha7 hX6 HF6 HA6
  gi_wp2_with fail
  refine ⟨trivial, (callsIn_wide.2 (ring_calls _)).mono ?_⟩
  rintro e w3 ⟨r, rfl, hr, _, hb3⟩
  have HX6 : Hold _ := ⟨(HX6.out.below HA7.out HX6.out.lt).below hb3 (by have := HA7.out.size; have := HX6.out.lt; omega)⟩
  have HF6 : Hold _ := ⟨(HF6'.out.below HA7.out).below hb3⟩
  have HX7 : Hold _ := ⟨hX7.out.below hb3 hX7.out.lt⟩
  have HF7' : Hold _ := ⟨(HF7.out.below HA7.out).below hb3⟩
  have HR3 : Hold _ := ⟨hr⟩
  have HB3 : Hold _ := ⟨bstep HBb.out hb3⟩
  obtain ⟨b8, hb8⟩ : ∃ b, w3.heap.size = b := ⟨_, rfl⟩
  have h78 : b7 < b8 := by rw [← hb8]; exact HX7.out.lt
  have HB8 : Hold _ := ⟨hb8⟩
  clear hr hb3 hX7 HF7 HA7 HF6'
  gi_wp2_with fail
  refine ⟨trivial, (callsIn_wide.2 (numbers_calls _ pb nb cb)).mono ?_⟩
  rintro e w4 ⟨rfl, rfl⟩
  gi_wp2_with fail
  obtain ⟨W4, hW4⟩ : ∃ W4, (((w3.alloc (.cells #[.pointer (some ⟨r, 0, none⟩)] 34)).alloc (.cells #[.slice none 0 0] 32)).alloc (.cells #[.slice pb nb cb] 22)) = W4 := ⟨_, rfl⟩
  have hs4 : W4.heap.size = b8 + 3 := by rw [← hW4, ← HB8.out]; simp
  have hb4 : Below w3.heap.size w3 W4 := by
    rw [← hW4]; exact (((Below.refl _ _).alloc (Nat.le_refl _) _).alloc (by simp) _).alloc (by simp; omega) _
  have hx8 : W4.heap[b8]? = some (.cells #[.pointer (some ⟨r, 0, none⟩)] 34 (0, 0)) := by
    rw [← hW4, ← HB8.out, Below.heap_alloc _ _ _ (by simp; omega), Below.heap_alloc _ _ _ (by simp)]
    exact heap_alloc_new w3 _
  have hx9 : NatBox W4 (b8 + 1) (.slice none 0 0) := by
    unfold NatBox
    rw [← hW4, ← HB8.out, Below.heap_alloc _ _ _ (by simp)]
    have := heap_alloc_new (w3.alloc (.cells #[.pointer (some ⟨r, 0, none⟩)] 34)) (.cells #[.slice none 0 0] 32)
    simpa using this
  have hcb : W4.cell? ⟨b8 + 1 + 1, 0, none⟩ = some (.slice pb nb cb) := by rw [← hW4, ← HB8.out]; simp [go_sem]
  rw [hW4]
  clear hW4
  obtain ⟨Rn, hRn⟩ : ∃ R, le (clamp (key.take 16)) = R := ⟨_, rfl⟩
  obtain ⟨Sn, hSn⟩ : ∃ S, le (key.drop 16) = S := ⟨_, rfl⟩
  have HRn : Hold _ := ⟨hRn⟩
  have HSn : Hold _ := ⟨hSn⟩
  rw [hRn] at HF6
  rw [hSn] at HF7'
  have hst : St w b6 b7 b8 (b8 + 1) r (.slice p6 n6 c6) (.slice p7 n7 c7) Rn Sn (acc Rn xs 0) W4 :=
    ⟨HX6.out.below hb4 HX6.out.lt, HF6.out.below hb4, HX7.out.below hb4 HX7.out.lt, HF7'.out.below hb4, hx8, HR3.out.below hb4, ⟨_, _, _, hx9, Fit.of (N := 0) (NatAt.nil W4) (B32_pos 32)⟩, bstep HB3.out hb4⟩
  have HST : Hold _ := ⟨hst⟩
  have HCB : Hold _ := ⟨hcb⟩
  obtain ⟨N, hN, hN2⟩ : ∃ N, nb ≤ 16 * N ∧ 16 * N < nb + 16 := ⟨(nb + 15) / 16, by omega, by omega⟩
  have hwb8 : w.heap.size ≤ b8 := by rw [← HB8.out]; exact HB3.out.size
  have HN : Hold _ := ⟨hN⟩
  have HN2 : Hold _ := ⟨hN2⟩
  have hnx : HXL.out = HXL.out := rfl
  clear hst hcb hx8 hx9 hb4 HX6 HX7 HF6 HF7' HR3 HB3 hRn hSn hN hN2 hnx
  refine wpIn_rangeFunc_tells rfl (by decide) (gf := 29) (lb := #[.pointer (some ⟨b8 + 1 + 1, 0, none⟩)]) rfl trivial (enters_of Try.func29 (by kernel_rfl) rfl)
    (N := N) (Kp := Mid (fun j => j < w.heap.size ∨ W4.heap.size + 2 ≤ j)) (Gd := fun k v W' => Fit 32 (le (piece xs k ++ [1])) v W')
    (fun W5 hs5 hb5 => numbers1_tells (10 - 1) (W4.heap.size + 2) (W4.heap.size + 1) (b8 + 1 + 1) nb cb N pb xs w W5 (by decide) HX.out H8b.out (by omega) HN.out HN2.out hs5 (HST.out.bel.trans (hb5.mono HST.out.bel.size)) (by omega)
      ((hb5.cell (p := ⟨b8 + 1 + 1, 0, none⟩) (by simp; omega)).trans HCB.out))
    (fun h k => h.trans k) (fun W5 o => Mid.putObj _ _ _ (by omega))
    (fun k => St w b6 b7 b8 (b8 + 1) r (.slice p6 n6 c6) (.slice p7 n7 c7) Rn Sn (acc Rn xs k)) (St.own (by omega)) HST.out
    (fun k a' W5 => ∃ (v : Value) (bx : Nat) (p : Option Addr) (n c : Nat), a' = { defers := [], tmps := #[.slice (some ⟨bk, ok, none⟩) 32 ck, .slice pb nb cb, undef, undef, .slice none 0 0,
          .int .i64 0, .pointer (some ⟨b6, 0, none⟩), .pointer (some ⟨b7, 0, none⟩), .pointer (some ⟨b8, 0, none⟩),
          .pointer (some ⟨b8 + 1, 0, none⟩), .pointer (some ⟨bx, 0, none⟩),
          .slice (some ⟨bk, ok, none⟩) 32 ck, .int .i64 32, .bool false,
          .slice (some ⟨bk, ok, none⟩) 32 ck, .slice (some ⟨bk, ok, none⟩) 16 ck,
          .agg #[.slice p6 n6 c6], .slice (some ⟨bk, ok, none⟩) 32 ck,
          .slice (some ⟨bk, ok + 16, none⟩) 16 (ck - 16), .agg #[.slice p7 n7 c7],
          .pointer (some ⟨r, 0, none⟩), .agg #[.slice none 0 0], .slice pb nb cb,
          .func (.func 29) #[] #[.pointer (some ⟨b8 + 1 + 1, 0, none⟩)], v, undef, undef,
          undef, undef, undef, undef, undef, undef, undef, undef] } ∧ NatBox W5 bx (.slice p n c) ∧ Fit 32 (le (piece xs k ++ [1])) (.agg #[.slice p n c]) W5 ∧ St w b6 b7 b8 (b8 + 1) r (.slice p6 n6 c6) (.slice p7 n7 c7) Rn Sn (acc Rn xs k) W5)
    ?ax ?assign ?body ?done
  case ax =>
    rintro k a' _ X Y row ⟨v, bx, p, n, c, e, h1, h2, h3⟩ hg hr
    exact ⟨v, bx, p, n, c, e, block_kept hg (fun j e => (hr j e).2) h1, h2.kept hg (fun j e => (hr j e).2), St.own (A := acc Rn xs) (B := W4.heap.size) (by omega) k X Y row h3 hg hr⟩
  case assign =>
    rintro l2 k v W5 K hk hi hv hK
    obtain ⟨p, n, c, rfl, h1, h2⟩ := hv
    have hbw : Below W5.heap.size W5 (W5.alloc (.cells #[.slice p n c] 32)) := (Below.refl _ _).alloc (Nat.le_refl _) _
    have HK : Hold _ := ⟨hK⟩
    have HI : Hold _ := ⟨hi⟩
    have H1 : Hold _ := ⟨h1⟩
    have H2 : Hold _ := ⟨h2⟩
    clear hK hi h1 h2
    gi_wp2
    exact HK.out _ _ ((KeepsOthers.alloc _ _).from _) (Mid.of hbw) ⟨_, _, p, n, c, rfl, NatBox.made W5 _, Fit.of (H1.out.below hbw) H2.out, HI.out.stable hbw⟩
  case body =>
    rintro l2 k a' Wb hk ⟨v, bx, pn, nn, cn, rfl, hxn, hfn, hst⟩
    obtain ⟨pa, na, ca, hx9, hfa⟩ := hst.a9
    have HS0 : Hold _ := ⟨hst⟩
    have HX9 : Hold _ := ⟨hx9⟩
    have HFA : Hold _ := ⟨hfa⟩
    have HXN : Hold _ := ⟨hxn⟩
    have HFN : Hold _ := ⟨hfn⟩
    have hsz9 : b8 + 1 < Wb.heap.size := hx9.lt
    clear hst hx9 hfa hxn hfn
    gi_wp2_with fail
    refine wpIn_region_dutiesR (Fe := Fence.wide.inRound l2) (by kernel_rfl) (by kernel_rfl) (by kernel_rfl) (fun _ => trivial) rfl
      [some (.pointer (some ⟨r, 0, none⟩)), some (.agg #[.slice pa na ca]), some (.agg #[.slice pn nn cn]), none, some (.agg #[.slice p6 n6 c6]), none, none]
      [false, false, false, true, false, true, true] rfl
      (fun w1 w2 => Keep w.heap.size w1 w2)
      (fun D sp w' => (D 6 = false → Below Wb.heap.size Wb w') ∧ (D 6 = true → St w b6 b7 b8 (b8 + 1) r (.slice p6 n6 c6) (.slice p7 n7 c7) Rn Sn (acc Rn xs (k + 1)) w' ∧ KeepsFrom W4.heap.size Wb w' ∧ Mid (fun j => j < w.heap.size ∨ W4.heap.size + 2 ≤ j) Wb w'))
      (fun i v w' => match i with
        | 3 => Fit 65 (acc Rn xs k + le (piece xs k ++ [1])) v w'
        | 5 => Fit 32 (acc Rn xs (k + 1)) v w'
        | _ => True)
      ?_ ⟨fun _ => (Below.refl _ _).drew, fun h => nomatch h⟩ ?_ ?_
    · intro i v w1 w2 hf hb
      split at hf
      · exact Fit.keep hf hb
      · exact Fit.keep hf hb
      · trivial
    · simp only [DutiesR, Nat.reduceAdd]
      refine ⟨?_, ?_, ?_, ?_, ?_, ?_, ?_, trivial⟩
      case refine_1 =>
        intro D sp w' hD hW hdp hg
        have hbl := hg.1 (hW 6 (List.mem_of_elem_eq_true (by kernel_rfl)))
        have c8 : w'.cell? ⟨b8, 0, none⟩ = some (.pointer (some ⟨r, 0, none⟩)) := by
          have := (HS0.out.stable hbl).x8
          simp [World.cell?, this]
        refine askedR_of_asked ?_
        simp [asked, Region.wanted, Oper.gives, execOp, Act.eval, Act.put, go_sem, c8]
      case refine_2 =>
        intro D sp w' hD hW hdp hg
        have hbl := hg.1 (hW 6 (List.mem_of_elem_eq_true (by kernel_rfl)))
        have c9 := (HX9.out.below hbl HX9.out.lt).cell
        refine askedR_of_asked ?_
        simp [asked, Region.wanted, Oper.gives, execOp, Act.eval, Act.put, go_sem, c9]
      case refine_3 =>
        intro D sp w' hD hW hdp hg
        have hbl := hg.1 (hW 6 (List.mem_of_elem_eq_true (by kernel_rfl)))
        have cn' := (HXN.out.below hbl HXN.out.lt).cell
        refine askedR_of_asked ?_
        simp [asked, Region.wanted, Oper.gives, execOp, Act.eval, Act.put, go_sem, cn']
      case refine_4 =>
        intro D sp w' hD hW hdp hg
        have h6 := hW 6 (List.mem_of_elem_eq_true (by kernel_rfl))
        have hbl := hg.1 h6
        have hsz : w.heap.size ≤ w'.heap.size := (HS0.out.stable hbl).bel.size
        refine askedR_of_asked ?_
        (with_reducible refine asked_call (w1 := w') (f := 14) (args := #[.agg #[.slice pa na ca], .agg #[.slice pn nn cn]]) ?_ ?_ ?_)
        · simp only [Region.wanted]
        · simp [execOp, Act.eval, Act.put, go_sem]
        · refine (add_fit (HFA.out.below hbl) (HFN.out.below hbl) (by decide) (by decide)).mono ?_
          rintro e w5 ⟨u, rfl, hu, hb⟩
          exact ⟨u, rfl, Keep.of hb hsz, hu, fun _ => bstep hbl hb, fun h => by simp [h6] at h⟩
      case refine_5 =>
        intro D sp w' hD hW hdp hg
        have hbl := hg.1 (hW 6 (List.mem_of_elem_eq_true (by kernel_rfl)))
        have c6' := (HS0.out.stable hbl).x6.cell
        refine askedR_of_asked ?_
        simp [asked, Region.wanted, Oper.gives, execOp, Act.eval, Act.put, go_sem, c6']
      case refine_6 =>
        intro D sp w' hD hW hdp hg
        have h6 := hW 6 (List.mem_of_elem_eq_true (by kernel_rfl))
        have hbl := hg.1 h6
        have hst := HS0.out.stable hbl
        have k3 : Fit 65 (acc Rn xs k + le (piece xs k ++ [1])) (sp 3) w' := (hdp 3 (List.mem_of_elem_eq_true (by kernel_rfl))).2
        refine askedR_of_asked ?_
        (with_reducible refine asked_call (w1 := w') (f := 13) (args := #[.pointer (some ⟨r, 0, none⟩), sp 3, .agg #[.slice p6 n6 c6]]) ?_ ?_ ?_)
        · simp only [Region.wanted]
        · simp [execOp, Act.eval, Act.put, go_sem]
        · refine (rngmul_fit hst.ring k3 hst.f6 (by decide) (by decide)).mono ?_
          rintro e w5 ⟨u, rfl, hu, hb⟩
          exact ⟨u, rfl, Keep.of hb hst.bel.size, hu, fun _ => bstep hbl hb, fun h => by simp [h6] at h⟩
      case refine_7 =>
        intro D sp w' hD hW hdp hg
        have hbl := hg.1 hD
        have hst := HS0.out.stable hbl
        have hx : ∃ p n c, sp 5 = .agg #[.slice p n c] ∧ NatAt w' p n c (acc Rn xs (k + 1)) ∧ acc Rn xs (k + 1) < B32 32 := (hdp 5 (List.mem_of_elem_eq_true (by kernel_rfl))).2
        (with_reducible refine Exists.elim hx fun p hx1 => ?_)
        (with_reducible refine Exists.elim hx1 fun n hx2 => ?_)
        (with_reducible refine Exists.elim hx2 fun c hx3 => ?_)
        have h1 := hx3.1
        have h9 := HX9.out.below hbl HX9.out.lt
        have c9 := h9.cell
        have f9 := h9.free
        refine askedR_of_asked ?_
        (with_reducible refine asked_skip (w1 := w'.setCell ⟨b8 + 1, 0, none⟩ (.slice p n c)) ?_ ?_ ?_)
        · simp only [Region.wanted]
        · simp [execOp, Act.eval, Act.put, go_sem, h1, c9, f9]
        · refine ⟨Keep.store h9 (by omega) _, trivial, fun h => by simp at h, fun _ => ⟨hst.store (by omega) (by omega) (by omega) (by omega) (Fit.of hx3.2.1 hx3.2.2), ?_, ?_⟩⟩
          · exact ((Mid.of (p := fun _ => True) hbl).keeps (fun _ _ => trivial)).trans ((KeepsOthers.setCell _ _ _).from _)
          · refine (Mid.of hbl).trans ⟨rfl, rfl, rfl, by simp, fun j hj hp => Below.heap_setCell _ _ _ _ ?_⟩
            simp only; omega
    · intro sp w7 hsp hg
      have hpost := hg.2 rfl
      have HPo : Hold _ := ⟨hpost⟩
      clear hsp hg hpost
      simp only [frameOf]
      generalize sp 3 = u3 at *
      generalize sp 5 = u5 at *
      generalize sp 6 = u6 at *
      go_simp
      gi_wp2
      have hp := HPo.out
      rw [hs4] at hp
      exact ⟨hp.2.1, hp.2.2, hp.1⟩
  case done =>
    rintro D W5 hD hi hK
    obtain ⟨p9, n9, c9, hx9, hf9⟩ := hi.a9
    have c9' := hx9.cell
    have c7' := hi.x7.cell
    have HF9 : Hold _ := ⟨hf9⟩
    have HF7 : Hold _ := ⟨hi.f7⟩
    have HBl : Hold _ := ⟨hi.bel⟩
    have HK : Hold _ := ⟨hK⟩
    clear hf9 hi hK
    have hD5 : D < W5.heap.size := (Array.getElem?_eq_some_iff.1 HK.out).1
    have hlt : acc Rn xs N + Sn < B8 17 := by
      have h1 := acc_lt Rn xs N
      have h2 : Sn < B8 16 := by
        rw [← HSn.out]
        have h3 : Bytes8 (key.drop 16) := fun x hx => H8.out x (List.mem_of_mem_drop hx)
        exact Nat.lt_of_lt_of_le h3.lt (B8_mono hlen16)
      have h3 : pp + B8 16 ≤ B8 17 := by decide
      omega
    have HLt : Hold _ := ⟨hlt⟩
    have HTag : Hold (bytesLE (acc Rn xs N + Sn) 16 = tagOf key xs) := ⟨by
      rw [tagOf, tagNum, HRn.out, HSn.out, acc_all (by rw [← HXL.out]; exact HN.out) (by rw [← HXL.out]; exact HN2.out)]⟩
    clear hlt
    gi_wp2_with fail
    refine ⟨trivial, (callsIn_wide.2 (add_fit HF9.out HF7.out (by decide) (by decide))).mono ?_⟩
    rintro e w6 ⟨v6, rfl, hf6, hb6⟩
    have HF : Hold _ := ⟨hf6⟩
    have HB6' : Hold _ := ⟨hb6⟩
    clear hf6 hb6
    gi_wp2_with fail
    refine ⟨trivial, (callsIn_wide.2 (lowest_calls HF.out (by decide) HLt.out)).mono ?_⟩
    rintro e w7 ⟨v7, rfl, hv7, hb7⟩
    have hK7 : w7.heap[D]? = some (.deferred (some [])) := by
      have h1 := bstep HB6'.out hb7
      rw [h1.block D hD5]; exact HK.out
    have HK7 : Hold _ := ⟨hK7⟩
    have hw6 : w.heap.size ≤ w6.heap.size := Nat.le_trans HBl.out.size HB6'.out.size
    have HV7 : Hold _ := ⟨hv7.mono hw6⟩
    have HB7' : Hold _ := ⟨bstep (bstep HBl.out HB6'.out) hb7⟩
    clear hK7 hv7 hb7
    gi_wp2
    refine ⟨by simp, .inl ⟨_, _, rfl, run_takeDeferred HK7.out, ?_⟩⟩
    have hgr := grownBy_putObj' w7 D (.deferred none)
    refine ⟨.tuple #[v7, .int .i64 0], ?_, v7, rfl, ?_, HB7'.out.grown hgr HB7'.out.size (fun j e => by cases e; omega)⟩
    · simp [results, Try.f7, go_sem]
    · rw [← HTag.out]
      exact HV7.out.kept hgr (fun j e => by cases e; exact ⟨_, HK7.out, rfl⟩)

theorem of_does : OfDoes := by
  intro w pk nk ck key pb nb cb xs hk h8 _ hb h8b _ hnb
  by_cases h : nk = 32
  · subst h
    exact (callsIn_wide.1 (of_in w pk ck key pb nb cb xs hk h8 hb h8b hnb)).mono fun e w' h => ⟨fun _ => h, fun hn => absurd rfl hn⟩
  · exact (of_err w pk nk ck pb nb cb h).mono fun e w' hg => ⟨fun hn => absurd hn h, fun _ => hg⟩

end Go.Proofs.Ythpfpnialeoclaa
