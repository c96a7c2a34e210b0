/- GroupNews, walked: out of what a group's calls do. -/
import Derived.Test.YtcbhgfiafamflaaGreatDoorGrpF
set_option maxRecDepth 1000000
set_option maxHeartbeats 16000000
namespace Go.Proofs.YtcbhgfiafamflaaGreatDoor
open Go Go.RowKit Go.Proofs.YtcbhgfiafamflaaGreatDoor.Flow
structure TwoG (W0 W : World) (gs gw : Nat) (L : List StepN) (S : StepN) (x y z x' y' z' : Option Addr × Nat × Nat) (va vb : Value) (d2 d3 d6 d7 : Bool) (v2 v3 v6 v7 : Value) (w : World) : Prop where
 bel : Below W0.heap.size W0 w
 size : W.heap.size ≤ w.heap.size
 bs : Box3 37 w gs (.slice x.1 x.2.1 x.2.2) (.slice y.1 y.2.1 y.2.2) (.slice z.1 z.2.1 z.2.2)
 bw : Box3 43 w gw (.slice x'.1 x'.2.1 x'.2.2) (.slice y'.1 y'.2.1 y'.2.2) (.slice z'.1 z'.2.1 z'.2.2)
 la : d2 = true → d3 = false → ∃ g, v2 = .slice (some ⟨g, 0, none⟩) 1 1 ∧ W.heap.size ≤ g ∧ Box3 37 w g (.slice x.1 x.2.1 x.2.2) (.slice y.1 y.2.1 y.2.2) (.slice z.1 z.2.1 z.2.2)
 lb : d6 = true → d7 = false → ∃ g, v6 = .slice (some ⟨g, 0, none⟩) 1 1 ∧ W.heap.size ≤ g ∧ Box3 43 w g (.slice x'.1 x'.2.1 x'.2.2) (.slice y'.1 y'.2.1 y'.2.2) (.slice z'.1 z'.2.1 z'.2.2)
 rows : ∃ bad : Nat → Prop, (∀ g, bad g → g < w.heap.size) ∧
  OwnT (PStep 2) 37 W0.heap.size bad w (if d3 then v3 else va) (if d3 then L ++ [S] else L) ∧ OwnT SStep 43 W0.heap.size bad w (if d7 then v7 else vb) (if d7 then L ++ [S] else L) ∧
  (∀ g, (if d3 then v3 else va).ownBlock = some g → bad g) ∧ (∀ g, (if d7 then v7 else vb).ownBlock = some g → bad g) ∧
  (d3 = false → Firm (PStep 2 S x y z) bad w) ∧ (d7 = false → Firm (SStep S x' y' z') bad w)
section
variable {W0 W : World} {gs gw : Nat} {L : List StepN} {S : StepN} {x y z x' y' z' : Option Addr × Nat × Nat} {va vb : Value} {d2 d3 d6 d7 : Bool} {v2 v3 v6 v7 : Value} {w : World}
theorem TwoG.put2 (h : TwoG W0 W gs gw L S x y z x' y' z' va vb false false d6 d7 v2 v3 v6 v7 w) :
  TwoG W0 W gs gw L S x y z x' y' z' va vb true false d6 d7 (.slice (some ⟨w.heap.size, 0, none⟩) 1 1) v3 v6 v7 (w.alloc (.cells #[.slice x.1 x.2.1 x.2.2, .slice y.1 y.2.1 y.2.2, .slice z.1 z.2.1 z.2.2] 37)) := by
 have hb : Below w.heap.size w (w.alloc (.cells #[.slice x.1 x.2.1 x.2.2, .slice y.1 y.2.1 y.2.2, .slice z.1 z.2.1 z.2.2] 37)) := bal
 obtain ⟨bad, h1, h2, h3, h4, h5, h6, h7⟩ := h.rows
 exact ⟨bstep h.bel hb, Nat.le_trans h.size hb.size, h.bs.below hb h.bs.lt, h.bw.below hb h.bw.lt, fun _ _ => ⟨w.heap.size, rfl, h.size, Box3.made _ w _ _ _⟩,
  fun a b => let ⟨g, e, k1, k2⟩ := h.lb a b; ⟨g, e, k1, k2.below hb k2.lt⟩,
  bad, fun g hg => Nat.lt_of_lt_of_le (h1 g hg) hb.size, h2.below hb, h3.below hb, h4, h5, fun a => (h6 a).step (.of hb), fun a => (h7 a).step (.of hb)⟩
theorem TwoG.put6 (h : TwoG W0 W gs gw L S x y z x' y' z' va vb d2 d3 false false v2 v3 v6 v7 w) :
  TwoG W0 W gs gw L S x y z x' y' z' va vb d2 d3 true false v2 v3 (.slice (some ⟨w.heap.size, 0, none⟩) 1 1) v7 (w.alloc (.cells #[.slice x'.1 x'.2.1 x'.2.2, .slice y'.1 y'.2.1 y'.2.2, .slice z'.1 z'.2.1 z'.2.2] 43)) := by
 have hb : Below w.heap.size w (w.alloc (.cells #[.slice x'.1 x'.2.1 x'.2.2, .slice y'.1 y'.2.1 y'.2.2, .slice z'.1 z'.2.1 z'.2.2] 43)) := bal
 obtain ⟨bad, h1, h2, h3, h4, h5, h6, h7⟩ := h.rows
 exact ⟨bstep h.bel hb, Nat.le_trans h.size hb.size, h.bs.below hb h.bs.lt, h.bw.below hb h.bw.lt, fun a b => let ⟨g, e, k1, k2⟩ := h.la a b; ⟨g, e, k1, k2.below hb k2.lt⟩,
  fun _ _ => ⟨w.heap.size, rfl, h.size, Box3.made _ w _ _ _⟩,
  bad, fun g hg => Nat.lt_of_lt_of_le (h1 g hg) hb.size, h2.below hb, h3.below hb, h4, h5, fun a => (h6 a).step (.of hb), fun a => (h7 a).step (.of hb)⟩
theorem Box3.grown {t : TypeId} {w w' : World} {b : Nat} {v0 v1 v2 : Value} (h : Box3 t w b v0 v1 v2) {g : Option Nat} (hg : w.grownBy w' g) (hn : g ≠ some b) : Box3 t w' b v0 v1 v2 := ⟨by
 rw [hg.block b h.lt (fun e => hn e.symm)]; exact h.at_⟩
theorem TwoG.put3 (h : TwoG W0 W gs gw L S x y z x' y' z' va vb true false d6 d7 v2 v3 v6 v7 w) (hva : ∀ g, va.ownBlock = some g → g < W.heap.size) (hgs : W.heap.size ≤ gs) (hgw : W.heap.size ≤ gw) (hl : L.length ≤ 1000000) (ty : TypeId) {C : Prop}
  (k : ∀ g v' w', v2 = .slice (some ⟨g, 0, none⟩) 1 1 → (Builtin.append_ #[26, 26] ty #[va, .slice (some ⟨g, 0, none⟩) 1 1]).run Tryz.prog w = .ok v' w' → TwoG W0 W gs gw L S x y z x' y' z' va vb true true d6 d7 v2 v' v6 v7 w' → C) : C := by
 obtain ⟨bad, h1, h2, h3, h4, h5, h6, h7⟩ := h.rows
 obtain ⟨g, e2, k1, k2⟩ := h.la rfl rfl
 simp only [Bool.false_eq_true, if_false] at h2 h4
 obtain ⟨i1, hi1, hz1, hs1, hb1⟩ := info_parts Tryz.info_CStep
 obtain ⟨v', w', bad', happ, ho, hg, m1, m2, m3, m4⟩ := h2.app2 Tryz.underlying26 hi1 hz1 hs1 hb1 rfl (by decide) h.bel.size (g := g) (c := 1) k2.cells.1 k2.cells.2.1 k2.cells.2.2 (h6 rfl) h4 h1 hl ty
 have hne : ∀ b, W.heap.size ≤ b → va.ownBlock ≠ some b := fun b hb hx => by have := hva b hx; omega
 have hoth := h3.other hg h2.ty (by decide) (fun g hg => m1 g (h4 g hg)) m2
 refine k g v' w' e2 happ ⟨h.bel.grown hg h.bel.size fun g hg => (h2.block g hg).1, Nat.le_trans h.size hg.size, h.bs.grown hg (hne _ hgs), h.bw.grown hg (hne _ hgw), (fun _ b => by cases b), fun a b => ?_, bad', m4, ?_, hoth, ?_, fun g hg => m1 g (h5 g hg), (fun a => by cases a), fun a => ?_⟩
 ·obtain ⟨g', e', q1, q2⟩ := h.lb a b
  exact ⟨g', e', q1, q2.grown hg (hne _ q1)⟩
 ·simpa using ho
 ·simpa using m3
 ·exact ((h7 a).more m2).step (.grown hg fun g hg => m1 g (h4 g hg))
theorem TwoG.put7 (h : TwoG W0 W gs gw L S x y z x' y' z' va vb d2 d3 true false v2 v3 v6 v7 w) (hvb : ∀ g, vb.ownBlock = some g → g < W.heap.size) (hgs : W.heap.size ≤ gs) (hgw : W.heap.size ≤ gw) (hl : L.length ≤ 1000000) (ty : TypeId) {C : Prop}
  (k : ∀ g v' w', v6 = .slice (some ⟨g, 0, none⟩) 1 1 → (Builtin.append_ #[27, 27] ty #[vb, .slice (some ⟨g, 0, none⟩) 1 1]).run Tryz.prog w = .ok v' w' → TwoG W0 W gs gw L S x y z x' y' z' va vb d2 d3 true true v2 v3 v6 v' w' → C) : C := by
 obtain ⟨bad, h1, h2, h3, h4, h5, h6, h7⟩ := h.rows
 obtain ⟨g, e2, k1, k2⟩ := h.lb rfl rfl
 simp only [Bool.false_eq_true, if_false] at h3 h5
 obtain ⟨i1, hi1, hz1, hs1, hb1⟩ := info_parts Tryz.info_SStep
 obtain ⟨v', w', bad', happ, ho, hg, m1, m2, m3, m4⟩ := h3.app2 Tryz.underlying27 hi1 hz1 hs1 hb1 rfl (by decide) h.bel.size (g := g) (c := 1) k2.cells.1 k2.cells.2.1 k2.cells.2.2 (h7 rfl) h5 h1 hl ty
 have hne : ∀ b, W.heap.size ≤ b → vb.ownBlock ≠ some b := fun b hb hx => by have := hvb b hx; omega
 have hoth := h2.other hg h3.ty (by decide) (fun g hg => m1 g (h5 g hg)) m2
 refine k g v' w' e2 happ ⟨h.bel.grown hg h.bel.size fun g hg => (h3.block g hg).1, Nat.le_trans h.size hg.size, h.bs.grown hg (hne _ hgs), h.bw.grown hg (hne _ hgw), fun a b => ?_, (fun _ b => by cases b), bad', m4, hoth, ?_, fun g hg => m1 g (h4 g hg), ?_, fun a => ?_, (fun a => by cases a)⟩
 ·obtain ⟨g', e', q1, q2⟩ := h.la a b
  exact ⟨g', e', q1, q2.grown hg (hne _ q1)⟩
 ·simpa using ho
 ·simpa using m3
 ·exact ((h6 a).more m2).step (.grown hg fun g hg => m1 g (h5 g hg))
end
end Go.Proofs.YtcbhgfiafamflaaGreatDoor
namespace Go.Proofs.YtcbhgfiafamflaaGreatDoor
open Go Go.RowKit Go.Proofs.YtcbhgfiafamflaaGreatDoor.Flow
structure BasesDoes (At : World → Nat → Nat → Nat → Nat → Nat → Prop) : Prop where
 gg : ∀ {w b P Q G H}, At w b P Q G H → Calls Tryz.prog 13 #[.pointer (some ⟨b, 0, none⟩)] w fun e w' => ∃ x, e = .returned x ∧ Fit 33 G x w' ∧ Below w.heap.size w w'
 hh : ∀ {w b P Q G H}, At w b P Q G H → Calls Tryz.prog 12 #[.pointer (some ⟨b, 0, none⟩)] w fun e w' => ∃ x, e = .returned x ∧ Fit 33 H x w' ∧ Below w.heap.size w w'
structure NewDoes (At : World → Nat → Nat → Nat → Nat → Nat → Prop) (ready : World → Prop) : Prop where
 new : ∀ {w P Q G ps ns cs seed pc nc cc l} {x y z : Option Addr × Nat × Nat}, ready w → At3 w x P → P < B32 2 → At3 w y Q → Q < B32 2 → At3 w z G → G < B32 2 → PartOk w ⟨ps, ns, cs, seed⟩ → (ps = none → cs = 0) → ns ≤ 200 → PSteps w 2 pc nc cc l → nc ≤ 60 → (∀ s ∈ l, s.ps.length ≤ 1000) →
  Calls Tryz.prog 9 #[.agg #[.slice x.1 x.2.1 x.2.2, .slice y.1 y.2.1 y.2.2, .slice z.1 z.2.1 z.2.2, .slice ps ns cs], .slice pc nc cc] w fun e w' =>
   (128 < ns → e = .returned (.tuple #[.pointer none, .int .i64 4])) ∧
   (ns ≤ 128 → (newSpec P Q G seed l).1 = 0 → ∃ b, e = .returned (.tuple #[.pointer (some ⟨b, 0, none⟩), .int .i64 0]) ∧ At w' b P Q G (newSpec P Q G seed l).2) ∧
   (ns ≤ 128 → (newSpec P Q G seed l).1 ≠ 0 → e = .returned (.tuple #[.pointer none, .int .i64 ((newSpec P Q G seed l).1 : Nat)])) ∧ Below w.heap.size w w'
 size : ∀ {w b P Q G H}, At w b P Q G H → Calls Tryz.prog 14 #[.pointer (some ⟨b, 0, none⟩)] w fun e w' => e = .returned (.int .i64 (bsize P : Nat)) ∧ Below w.heap.size w w'
section
variable {At : World → Nat → Nat → Nat → Nat → Nat → Prop} {ready : World → Prop}
theorem news_calls (D : GrpDoes At ready) (X : BasesDoes At) (N : NewDoes At ready) (w : World) (hr : ready w) (P Q G : Nat) (hP : P < 18446744073709551616) (hQ : Q < 18446744073709551616) (hG : G < 18446744073709551616) (ps : Option Addr) (ns cs : Nat) (seed : List Nat) (hs : PartOk w ⟨ps, ns, cs, seed⟩) (zs : ps = none → cs = 0)
  (pl : Option Addr) (nl cl : Nat) (l : List StepN) (hl : ClaimsIn w pl nl cl l) :
  Calls Tryz.prog 3 #[.int .u64 P, .int .u64 Q, .int .u64 G, .slice ps ns cs, .slice pl nl cl] w fun e w' => e = .returned (.bool true) ∧ Below w.heap.size w w' := by
 have HLI : Hold _ := ⟨lives9_calls D⟩
 have HD : Hold _ := ⟨D⟩
 have HA : Hold _ := ⟨X⟩
 have HN : Hold _ := ⟨N⟩
 have HRd : Hold _ := ⟨hr⟩
 have HSd : Hold _ := ⟨hs⟩
 have HZS : Hold _ := ⟨zs⟩
 have HL : Hold _ := ⟨hl⟩
 have HLn : Hold _ := ⟨hl.len⟩
 have HPQG : Hold (P < 18446744073709551616 ∧ Q < 18446744073709551616 ∧ G < 18446744073709551616) := ⟨⟨hP, hQ, hG⟩⟩
 have hlm := Nat.le_trans hl.cap hl.max
 have hsm := Nat.le_trans hs.row.cap hs.row.max
 dsimp only at hsm
 clear D X N hr hs zs hl hP hQ hG
 go_enter Tryz.func3, Tryz.ntmps3
 go_wp2_with fail
 refine (HLI.out w HRd.out).mono ?_
 rintro en w1 ⟨rfl, b1⟩
 have B1 : Hold _ := ⟨b1⟩
 clear b1
 by_cases hl3 : 3 < nl
 ·have hl3' : (3 : Int) < nl := by omega
  go_wp2_with fail
  refine (HLI.out w1 (HD.out.readyBelow HRd.out B1.out)).mono ?_
  rintro en w2 ⟨rfl, b2⟩
  have B2 : Hold _ := ⟨bstep B1.out b2⟩
  clear b2
  go_wp2
  go_ret
  exact ⟨rfl, B2.out⟩
 have hl3' : ¬ (3 : Int) < nl := by omega
 by_cases hs200 : 200 < ns
 ·have hs200' : (200 : Int) < ns := by omega
  go_wp2_with fail
  refine (HLI.out w1 (HD.out.readyBelow HRd.out B1.out)).mono ?_
  rintro en w2 ⟨rfl, b2⟩
  have B2 : Hold _ := ⟨bstep B1.out b2⟩
  clear b2
  go_wp2
  go_ret
  exact ⟨rfl, B2.out⟩
 have hs200' : ¬ (200 : Int) < ns := by omega
 go_wp2
 go_loopw [11, 12, 39] (fun va vb iv wr => ∃ (kk : Nat) (badO : Nat → Prop), kk ≤ nl ∧ iv = .int .i64 kk ∧ Hold (Below w1.heap.size w1 wr) ∧ Hold (∀ h, badO h → h < wr.heap.size) ∧
  Hold (OwnT (PStep 2) 37 w1.heap.size badO wr va (l.take kk)) ∧ Hold (OwnT SStep 43 w1.heap.size badO wr vb (l.take kk)) ∧
  Hold (∀ g, va.ownBlock = some g → badO g) ∧ Hold (∀ g, vb.ownBlock = some g → badO g) ∧ Hold (∀ s ∈ l.take kk, s.ps.length ≤ 10)) (fun _ _ iv _ => nl - (intOf iv).toNat)
 case atStart => exact ⟨0, fun _ => False, by omega, rfl, ⟨Below.refl _ _⟩, ⟨fun _ h => h.elim⟩, ⟨OwnT.nil⟩, ⟨OwnT.nil⟩, ⟨fun g h => by cases h⟩, ⟨fun g h => by cases h⟩, ⟨fun s hs => by simp at hs⟩⟩
 case round =>
  obtain ⟨kk, badO, hkk, rfl, HBO, HLTO, HAO, HDO, HVAO, HVBO, HFW⟩ := hrel
  obtain ⟨wA, hwA⟩ : ∃ x, x = wr := ⟨_, rfl⟩
  subst hwA
  by_cases hkn : kk < nl
  ·obtain ⟨s, hSk⟩ : ∃ s, l[kk]? = some s := ⟨l[kk]'(by rw [← HLn.out]; exact hkn), List.getElem?_eq_getElem _⟩
   have hu := HL.out.u64 s (List.mem_of_getElem? hSk)
   have HBW0 : Hold _ := ⟨bstep B1.out HBO.out⟩
   obtain ⟨bb, off, rfl, hbb, hc⟩ := (HL.out.below HBW0.out).at_ (by omega)
   obtain ⟨q, m, d, k0, k1, k2, k3⟩ := hc kk s hSk
   have HSk : Hold _ := ⟨hSk⟩
   have HU1 : Hold (s.n < 18446744073709551616) := ⟨hu.1⟩
   have HU2 : Hold (s.base < 18446744073709551616) := ⟨hu.2.1⟩
   have HU3 : Hold _ := ⟨hu.2.2⟩
   have HR : Hold _ := ⟨k3⟩
   have HML : Hold _ := ⟨k3.len⟩
   have hmm := Nat.le_trans k3.cap k3.max
   have hkn' : (kk : Int) < nl := by omega
   have b1 : Below wA.heap.size wA (wA.alloc (.cells #[.int .u64 (s.n : Nat), .int .u64 (s.base : Nat), .slice q m d] 30)) := bal
   have hk1 := Box3.made 30 wA (.int .u64 (s.n : Nat)) (.int .u64 (s.base : Nat)) (.slice q m d)
   clear hc k3 hu hSk
   go_wp2
   generalize wA.alloc (.cells #[.int .u64 (s.n : Nat), .int .u64 (s.base : Nat), .slice q m d] 30) = w0 at *
   have HB0 : Hold (Below wA.heap.size wA w0) := ⟨b1⟩
   have HBW : Hold _ := ⟨bstep HBW0.out b1⟩
   clear b1 k0 k1 k2
   have HC : Hold (∀ w', Below w0.heap.size w0 w' → w'.cell? ⟨wA.heap.size, 0, none⟩ = some (.int .u64 (s.n : Nat)) ∧ w'.cell? ⟨wA.heap.size, 1, none⟩ = some (.int .u64 (s.base : Nat))) := ⟨fun w' h => ⟨(hk1.below h hk1.lt).cells.1, (hk1.below h hk1.lt).cells.2.1⟩⟩
   refine wp_region_dutiesS (by kernel_rfl) (by kernel_rfl)
    [some (.pointer (some ⟨wA.heap.size, 0, none⟩)), some (.int .u64 (s.n : Nat)), none, some (.pointer (some ⟨wA.heap.size, 1, none⟩)), some (.int .u64 (s.base : Nat)), none, none, none, none]
    [false, false, true, false, false, true, true, true, true] rfl
    (fun _ _ => True) (fun D sp w' => StepG (NewAt NatAt w0.heap.size) (fun p n c => .agg #[.slice p n c]) 37 w0 s.n s.base (D 2) (D 5) (D 6) (D 7) (D 8) (sp 2) (sp 5) (sp 6) (sp 7) w') (fun _ _ _ => True) (fun _ _ _ _ h _ => h)
    StepG.start ?_ ?_
   ·simp only [DutiesS, Nat.reduceAdd]
    refine ⟨?_, ?_, ?_, ?_, ?_, ?_, ?_, ?_, ?_, trivial⟩
    case refine_3 =>
     intro D sp w' hD hW hdp hG
     have d8 : D 8 = false := hW 8 (mq (by kernel_rfl))
     rw [hD, d8] at hG
     (with_reducible refine asked_call (w1 := w') (f := 7) (args := #[.int .u64 (s.n : Nat)]) ?_ ?_ ?_)
     ·simp only [Region.wanted]
     ·simp [Act.eval, Act.put, go_sem]
     ·refine (new_calls s.n w' HU1.out).mono ?_
      rintro e w5 ⟨p, n, c, rfl, hn, hb, hnew⟩
      exact ⟨_, rfl, trivial, trivial, by simpa [upd, d8] using (hG.later (natLike.new _) hb).put2 ⟨(p, n, c), rfl, hn, fun q hq => Nat.le_trans hG.bel.size (hnew q hq)⟩⟩
    case refine_6 =>
     intro D sp w' hD hW hdp hG
     have d8 : D 8 = false := hW 8 (mq (by kernel_rfl))
     rw [hD, d8] at hG
     (with_reducible refine asked_call (w1 := w') (f := 7) (args := #[.int .u64 (s.base : Nat)]) ?_ ?_ ?_)
     ·simp only [Region.wanted]
     ·simp [Act.eval, Act.put, go_sem]
     ·refine (new_calls s.base w' HU2.out).mono ?_
      rintro e w5 ⟨p, n, c, rfl, hn, hb, hnew⟩
      exact ⟨_, rfl, trivial, trivial, by simpa [upd, d8] using (hG.later (natLike.new _) hb).put5 ⟨(p, n, c), rfl, hn, fun q hq => Nat.le_trans hG.bel.size (hnew q hq)⟩⟩
    case refine_7 =>
     intro D sp w' hD hW hdp hG
     have d8 : D 8 = false := hW 8 (mq (by kernel_rfl))
     have d2 : D 2 = true := (hdp 2 (mq (by kernel_rfl))).1
     have d5 : D 5 = true := (hdp 5 (mq (by kernel_rfl))).1
     rw [hD, d8] at hG
     (with_reducible refine Exists.elim (hG.one d2) fun x hx => Exists.elim (hG.two d5) fun y hy => ?_)
     have h1 := hx.1
     have h2 := hy.1
     (with_reducible refine asked_value (w1 := w') (v := .agg #[.slice x.1 x.2.1 x.2.2, .slice y.1 y.2.1 y.2.2, .slice none 0 0]) ?_ ?_ ?_)
     ·simp only [Region.wanted]
     ·simp [execOp, Act.eval, Act.put, go_sem, h1, h2]
     ·exact ⟨trivial, trivial, by simpa [upd, d8] using hG.put6 hx.2 hy.2⟩
    case refine_8 =>
     intro D sp w' hD hW hdp hG
     have d8 : D 8 = false := hW 8 (mq (by kernel_rfl))
     rw [hD, d8] at hG
     (with_reducible refine asked_value (w1 := w'.alloc (.cells #[.slice none 0 0, .slice none 0 0, .slice none 0 0] 37)) (v := .pointer (some ⟨w'.heap.size, 0, none⟩)) ?_ ?_ ?_)
     ·simp only [Region.wanted]
     ·simp [execOp, go_sem]
     ·exact ⟨trivial, trivial, by simpa [upd, d8] using hG.put7 (natLike.new _)⟩
    case refine_9 =>
     intro D sp w' hD hW hdp hG
     have d6 : D 6 = true := (hdp 6 (mq (by kernel_rfl))).1
     have d7 : D 7 = true := (hdp 7 (mq (by kernel_rfl))).1
     rw [hD] at hG
     (with_reducible refine Exists.elim (hG.box d7 rfl) fun b hb => Exists.elim (hG.agg d6) fun x hx => Exists.elim hx fun y hy => ?_)
     have h7 := hb.1
     have h6 := hy.1
     have hc0 := hb.2.2.cells.1
     have hc1 := hb.2.2.cells.2.1
     have hc2 := hb.2.2.cells.2.2
     have hf0 := hb.2.2.free 0
     have hf1 := hb.2.2.free 1
     have hf2 := hb.2.2.free 2
     have hN := hG.put8 (natLike.new _) h7 hb.2.1 hb.2.2 hy.2.1 hy.2.2
     (with_reducible refine asked_skip (w1 := ((w'.setCell ⟨b, 0, none⟩ (.slice x.1 x.2.1 x.2.2)).setCell ⟨b, 1, none⟩ (.slice y.1 y.2.1 y.2.2)).setCell ⟨b, 2, none⟩ (.slice none 0 0)) ?_ ?_ ?_)
     ·simp only [Region.wanted]
     ·simp [execOp, Act.eval, Act.put, go_sem, h7, h6, hc0, hc1, hc2, hf0, hf1, hf2]
     ·exact ⟨trivial, trivial, by simpa [upd] using hN⟩
    all_goals
     intro D sp w' hD hW hdp hG
     have c0 := HC.out w' hG.bel
     have c1 := c0.1
     have c2 := c0.2
     simp [asked, Region.wanted, Oper.gives, execOp, Act.eval, Act.put, go_sem, c1, c2]
   ·intro sp w3 hsp hG
    simp only [frameOf, Nat.reduceAdd]
    have hb4 := hG.bel
    have hf := hG.full rfl
    clear hsp hG
    (with_reducible refine Exists.elim hf fun g hf1 => Exists.elim hf1 fun x hf2 => Exists.elim hf2 fun y hf3 => ?_)
    clear hf hf1 hf2
    rw [hf3.1]
    generalize sp 2 = u2
    generalize sp 5 = u5
    generalize sp 6 = u6
    have HF : Hold _ := ⟨hf3.2⟩
    have HB4 : Hold _ := ⟨hb4⟩
    have hk3 := hk1.below hb4 hk1.lt
    have HC2 : Hold (∀ w', Below w3.heap.size w3 w' → w'.cell? ⟨wA.heap.size, 0, none⟩ = some (.int .u64 (s.n : Nat)) ∧ w'.cell? ⟨wA.heap.size, 1, none⟩ = some (.int .u64 (s.base : Nat))) := ⟨fun w' h => ⟨(hk3.below h hk3.lt).cells.1, (hk3.below h hk3.lt).cells.2.1⟩⟩
    clear hf3 hb4 HC
    go_simp
    go_wp2
    refine wp_region_dutiesS (by kernel_rfl) (by kernel_rfl)
     [some (.pointer (some ⟨wA.heap.size, 0, none⟩)), some (.int .u64 (s.n : Nat)), none, some (.pointer (some ⟨wA.heap.size, 1, none⟩)), some (.int .u64 (s.base : Nat)), none, none, none, none]
     [false, false, true, false, false, true, true, true, true] rfl
     (fun _ _ => True) (fun D sp w' => StepG (NewAt BitsAt w3.heap.size) (fun p n c => .slice p n c) 43 w3 s.n s.base (D 2) (D 5) (D 6) (D 7) (D 8) (sp 2) (sp 5) (sp 6) (sp 7) w') (fun _ _ _ => True) (fun _ _ _ _ h _ => h)
     StepG.start ?_ ?_
    ·simp only [DutiesS, Nat.reduceAdd]
     refine ⟨?_, ?_, ?_, ?_, ?_, ?_, ?_, ?_, ?_, trivial⟩
     case refine_3 =>
      intro D sp w' hD hW hdp hG
      have d8 : D 8 = false := hW 8 (mq (by kernel_rfl))
      rw [hD, d8] at hG
      (with_reducible refine asked_call (w1 := w') (f := 8) (args := #[.int .u64 (s.n : Nat)]) ?_ ?_ ?_)
      ·simp only [Region.wanted]
      ·simp [Act.eval, Act.put, go_sem]
      ·refine (small_calls s.n w' HU1.out).mono ?_
       rintro e w5 ⟨p, n, c, rfl, hn, hb, hnew⟩
       exact ⟨_, rfl, trivial, trivial, by simpa [upd, d8] using (hG.later (bitsLike.new _) hb).put2 ⟨(p, n, c), rfl, hn, fun q hq => Nat.le_trans hG.bel.size (hnew q hq)⟩⟩
     case refine_6 =>
      intro D sp w' hD hW hdp hG
      have d8 : D 8 = false := hW 8 (mq (by kernel_rfl))
      rw [hD, d8] at hG
      (with_reducible refine asked_call (w1 := w') (f := 8) (args := #[.int .u64 (s.base : Nat)]) ?_ ?_ ?_)
      ·simp only [Region.wanted]
      ·simp [Act.eval, Act.put, go_sem]
      ·refine (small_calls s.base w' HU2.out).mono ?_
       rintro e w5 ⟨p, n, c, rfl, hn, hb, hnew⟩
       exact ⟨_, rfl, trivial, trivial, by simpa [upd, d8] using (hG.later (bitsLike.new _) hb).put5 ⟨(p, n, c), rfl, hn, fun q hq => Nat.le_trans hG.bel.size (hnew q hq)⟩⟩
     case refine_7 =>
      intro D sp w' hD hW hdp hG
      have d8 : D 8 = false := hW 8 (mq (by kernel_rfl))
      have d2 : D 2 = true := (hdp 2 (mq (by kernel_rfl))).1
      have d5 : D 5 = true := (hdp 5 (mq (by kernel_rfl))).1
      rw [hD, d8] at hG
      (with_reducible refine Exists.elim (hG.one d2) fun x hx => Exists.elim (hG.two d5) fun y hy => ?_)
      have h1 := hx.1
      have h2 := hy.1
      (with_reducible refine asked_value (w1 := w') (v := .agg #[.slice x.1 x.2.1 x.2.2, .slice y.1 y.2.1 y.2.2, .slice none 0 0]) ?_ ?_ ?_)
      ·simp only [Region.wanted]
      ·simp [execOp, Act.eval, Act.put, go_sem, h1, h2]
      ·exact ⟨trivial, trivial, by simpa [upd, d8] using hG.put6 hx.2 hy.2⟩
     case refine_8 =>
      intro D sp w' hD hW hdp hG
      have d8 : D 8 = false := hW 8 (mq (by kernel_rfl))
      rw [hD, d8] at hG
      (with_reducible refine asked_value (w1 := w'.alloc (.cells #[.slice none 0 0, .slice none 0 0, .slice none 0 0] 43)) (v := .pointer (some ⟨w'.heap.size, 0, none⟩)) ?_ ?_ ?_)
      ·simp only [Region.wanted]
      ·simp [execOp, go_sem]
      ·exact ⟨trivial, trivial, by simpa [upd, d8] using hG.put7 (bitsLike.new _)⟩
     case refine_9 =>
      intro D sp w' hD hW hdp hG
      have d6 : D 6 = true := (hdp 6 (mq (by kernel_rfl))).1
      have d7 : D 7 = true := (hdp 7 (mq (by kernel_rfl))).1
      rw [hD] at hG
      (with_reducible refine Exists.elim (hG.box d7 rfl) fun b hb => Exists.elim (hG.agg d6) fun x hx => Exists.elim hx fun y hy => ?_)
      have h7 := hb.1
      have h6 := hy.1
      have hc0 := hb.2.2.cells.1
      have hc1 := hb.2.2.cells.2.1
      have hc2 := hb.2.2.cells.2.2
      have hf0 := hb.2.2.free 0
      have hf1 := hb.2.2.free 1
      have hf2 := hb.2.2.free 2
      have hN := hG.put8 (bitsLike.new _) h7 hb.2.1 hb.2.2 hy.2.1 hy.2.2
      (with_reducible refine asked_skip (w1 := ((w'.setCell ⟨b, 0, none⟩ (.slice x.1 x.2.1 x.2.2)).setCell ⟨b, 1, none⟩ (.slice y.1 y.2.1 y.2.2)).setCell ⟨b, 2, none⟩ (.slice none 0 0)) ?_ ?_ ?_)
      ·simp only [Region.wanted]
      ·simp [execOp, Act.eval, Act.put, go_sem, h7, h6, hc0, hc1, hc2, hf0, hf1, hf2]
      ·exact ⟨trivial, trivial, by simpa [upd] using hN⟩
     all_goals
      intro D sp w' hD hW hdp hG
      have c0 := HC2.out w' hG.bel
      have c1 := c0.1
      have c2 := c0.2
      simp [asked, Region.wanted, Oper.gives, execOp, Act.eval, Act.put, go_sem, c1, c2]
    ·intro sp w4 hsp hG
     simp only [frameOf, Nat.reduceAdd]
     have hb5 := hG.bel
     have hf := hG.full rfl
     clear hsp hG
     (with_reducible refine Exists.elim hf fun g2 hf1 => Exists.elim hf1 fun x2 hf2 => Exists.elim hf2 fun y2 hf3 => ?_)
     clear hf hf1 hf2
     rw [hf3.1]
     generalize sp 2 = u2'
     generalize sp 5 = u5'
     generalize sp 6 = u6'
     have hk4 := hk3.below hb5 hk3.lt
     have hq2 := hk4.cells.2.2
     have hg1 := HF.out.2.1.below hb5 HF.out.2.1.lt
     have hg2 := hf3.2.2.1
     have hz3 : w0.heap.size ≤ w3.heap.size := HB4.out.size
     have hz4 : w0.heap.size ≤ g2 := Nat.le_trans hz3 hf3.2.1
     have nw1 := HF.out.2.2.1
     have nw2 := HF.out.2.2.2
     have nw3 := hf3.2.2.2.1
     have nw4 := hf3.2.2.2.2
     have HS1 : Hold (Side NatAt 37 33 w0.heap.size (fun h => h < w0.heap.size ∨ h = g ∨ h = g2) g s.n s.base [] x y (.slice none 0 0) w4) :=
      ⟨Side.start natStands natZero ⟨natLike.below nw1.1 hb5, nw1.2⟩ ⟨natLike.below nw2.1 hb5, nw2.2⟩ hg1 HF.out.1 (.inl rfl) (z1 := (none, 0, 0)) (z2 := (none, 0, 0)) hg1 hg2⟩
     have HS2 : Hold (Side BitsAt 43 39 w0.heap.size (fun h => h < w0.heap.size ∨ h = g ∨ h = g2) g2 s.n s.base [] x2 y2 (.slice none 0 0) w4) :=
      ⟨Side.start bitsStands bitsZero ⟨nw3.1, fun q hq => Nat.le_trans hz3 (nw3.2 q hq)⟩ ⟨nw4.1, fun q hq => Nat.le_trans hz3 (nw4.2 q hq)⟩ hg2 hz4 (.inr rfl) (z1 := (none, 0, 0)) (z2 := (none, 0, 0)) hg1 hg2⟩
     have HBL0 : Hold _ := ⟨bstepS HB4.out hb5⟩
     have HLT0 : Hold (∀ h, (h < w0.heap.size ∨ h = g ∨ h = g2) → h < w4.heap.size) := ⟨fun h hh => by
      rcases hh with hh | rfl | rfl
      ·exact Nat.lt_of_lt_of_le hh (bstepS HB4.out hb5).size
      ·exact hg1.lt
      ·exact hg2.lt⟩
     clear hf3 hg1 hg2 hz3 hz4 nw1 nw2 nw3 nw4 hk1 hk3 hk4 hb5 HB4 HF HC2
     go_simp
     by_cases hm10 : 10 < m
     ·have hm10' : (10 : Int) < m := by omega
      have HBr : Hold _ := ⟨bstep HBW.out HBL0.out⟩
      go_wp2
      go_ret
      exact ⟨rfl, HBr.out⟩
     have hm10' : ¬ (10 : Int) < m := by omega
     go_wp2
     go_loopw [18, 64] (fun _ iv wr => ∃ k : Nat, k ≤ m ∧ iv = .int .i64 k ∧ ∃ (bad : Nat → Prop) (v u : Value), Hold (Below w0.heap.size w0 wr) ∧ Hold (∀ h, bad h → h < wr.heap.size) ∧ Hold (∀ h, h < w0.heap.size → bad h) ∧
      Hold (Side NatAt 37 33 w0.heap.size bad g s.n s.base (s.ps.take k) x y v wr) ∧ Hold (Side BitsAt 43 39 w0.heap.size bad g2 s.n s.base (s.ps.take k) x2 y2 u wr)) (fun _ iv _ => m - (intOf iv).toNat)
     case atStart => exact ⟨0, by omega, rfl, _, _, _, HBL0, HLT0, ⟨fun h hh => .inl hh⟩, HS1, HS2⟩
     case round =>
      clear HS1 HS2 HBL0 HLT0 hq2
      obtain ⟨k, hk, rfl, bad, v, u, HBL, HLT, HLO, HS1, HS2⟩ := hrel
      by_cases hkm : k < m
      ·obtain ⟨N, hN⟩ : ∃ N, s.ps[k]? = some N := ⟨s.ps[k]'(by rw [← HML.out]; exact hkm), List.getElem?_eq_getElem _⟩
       have HN3 : Hold (N < 18446744073709551616) := ⟨HU3.out N (List.mem_of_getElem? hN)⟩
       obtain ⟨b, off, rfl, hbs, hc⟩ := (HR.out.row (by omega)).pos (by omega)
       have hck : wr.cell? ⟨b, off + k, none⟩ = some (.int .u64 (N : Nat)) := by rw [(bstep HB0.out HBL.out).cell (p := ⟨b, off + k, none⟩) hbs]; exact hc k N hN
       have HNx : Hold _ := ⟨take_snoc hN⟩
       have HTK : Hold ((s.ps.take k).length ≤ 1000000) := ⟨by rw [List.length_take]; omega⟩
       obtain ⟨i1, hi1, hz1, hs1, hb1⟩ := info_parts Tryz.info_Nat
       obtain ⟨i2, hi2, hz2, hs2, hb2⟩ := info_parts Tryz.info_N
       have II1 : Hold (_ ∧ _ ∧ _ ∧ _) := ⟨⟨hi1, hz1, hs1, hb1⟩⟩
       have II2 : Hold (_ ∧ _ ∧ _ ∧ _) := ⟨⟨hi2, hz2, hs2, hb2⟩⟩
       clear hc hN hi1 hz1 hs1 hb1 hi2 hz2 hs2 hb2
       go_wp2
       refine wp_region_dutiesS (by kernel_rfl) (by kernel_rfl)
         [some (.pointer (some ⟨g, 2, none⟩)), some v, some (.int .u64 (N : Nat)), none, none, none, some (.pointer (some ⟨g, 2, none⟩)), none]
         [false, false, false, true, true, true, false, true] rfl
         (fun _ _ => True) (fun D sp w' => GrowG NatAt (fun p n c => .agg #[.slice p n c]) 37 33 w0 wr bad g (.slice x.1 x.2.1 x.2.2) (.slice y.1 y.2.1 y.2.2) v (s.ps.take k) N (D 3) (D 4) (D 5) (D 7) (sp 3) (sp 4) (sp 5) w') (fun _ _ _ => True) (fun _ _ _ _ h _ => h)
         (GrowG.start HBL.out) ?_ ?_
       ·simp only [DutiesS, Nat.reduceAdd]
        refine ⟨?_, ?_, ?_, ?_, ?_, ?_, ?_, ?_, trivial⟩
        case refine_4 =>
         intro D sp w' hD hW hdp hG
         have d4 : D 4 = false := hW 4 (mq (by kernel_rfl))
         rw [hD, d4] at hG
         have d5 := hG.d5f
         rw [d5] at hG
         have d7 := hG.d7f
         rw [d7] at hG
         (with_reducible refine asked_call (w1 := w') (f := 7) (args := #[.int .u64 (N : Nat)]) ?_ ?_ ?_)
         ·simp only [Region.wanted]
         ·simp [Act.eval, Act.put, go_sem]
         ·refine (new_calls N w' HN3.out).mono ?_
          rintro e w5 ⟨p, n, c, rfl, hn, hb, hnew⟩
          exact ⟨_, rfl, trivial, trivial, by simpa [upd, d4, d5, d7] using hG.put3 (x := (p, n, c)) natLike hb hn hnew⟩
        case refine_5 =>
         intro D sp w' hD hW hdp hG
         have d3 : D 3 = true := (hdp 3 (mq (by kernel_rfl))).1
         rw [hD, d3] at hG
         have d5 := hG.d5f
         rw [d5] at hG
         have d7 := hG.d7f
         rw [d7] at hG
         (with_reducible refine Exists.elim (hG.one rfl rfl) fun x hx => ?_)
         have h3 := hx.1
         have hN4 := hG.put4 natLike hx.2.1 hx.2.2
         (with_reducible refine asked_value (w1 := w'.alloc (.cells #[.slice x.1 x.2.1 x.2.2] 33)) (v := .slice (some ⟨w'.heap.size, 0, none⟩) 1 1) ?_ ?_ ?_)
         ·simp only [Region.wanted]
         ·simp [execOp, Act.eval, Act.put, go_sem, h3]
         ·exact ⟨trivial, trivial, by simpa [upd, d3, d5, d7] using hN4⟩
        case refine_6 =>
         intro D sp w' hD hW hdp hG
         have d4 : D 4 = true := (hdp 4 (mq (by kernel_rfl))).1
         rw [hD, d4] at hG
         have d7 := hG.d7f
         have d3 := hG.o4 rfl
         rw [d7, d3] at hG
         (with_reducible refine Exists.elim (hG.row rfl rfl) fun g hg => Exists.elim hg fun x hx => ?_)
         clear hg
         have h4 := hx.1
         have hpre := hG.pre rfl
         have hlt' : ∀ g, bad g → g < w'.heap.size := fun g hg => Nat.lt_of_lt_of_le (HLT.out g hg) hpre.size
         (with_reducible refine OwnV.app2 (N := N) (c := 1) Tryz.underlying35 II1.out.1 II1.out.2.1 II1.out.2.2.1 II1.out.2.2.2 rfl (by decide) (HS1.out.own.below hpre) hG.bel.size hx.2.1 (natStands.fresh hx.2.2.1 hx.2.2.2 HLT.out) HS1.out.inv hlt' HTK.out 35 (fun v' w5 bad' hr ho hgr h1 h2 h3 h5 => ?_))
         have hN5 := hG.put5 ho hgr (fun g hg => (HS1.out.own.block g hg).1) h1 (fun g hg => h2 g (Nat.lt_of_lt_of_le hg hpre.size)) h3 h5
         (with_reducible refine asked_value (w1 := w5) (v := v') ?_ ?_ ?_)
         ·simp only [Region.wanted]
         ·simp [execOp, resolve, invoke, builtin, Act.eval, Act.put, h4, hr, Result.andThen]
         ·exact ⟨trivial, trivial, by simpa [upd, d3, d4, d7] using hN5⟩
        case refine_8 =>
         intro D sp w' hD hW hdp hG
         have d5 : D 5 = true := (hdp 5 (mq (by kernel_rfl))).1
         rw [hD, d5] at hG
         have hp := hG.put7 HS1.out.box (HS1.out.apart (by decide)) HS1.out.inb (by decide) HS1.out.low
         have hc2 := hp.1.cells.2.2
         have hf2 := hp.1.free 2
         have hN7 := hp.2
         (with_reducible refine Exists.elim hG.slc fun z hz => ?_)
         (with_reducible refine asked_skip (w1 := w'.setCell ⟨g, 2, none⟩ (sp 5)) ?_ ?_ ?_)
         ·simp only [Region.wanted]
         ·simp [execOp, Act.eval, Act.put, go_sem, hc2, hf2, hz]
         ·exact ⟨trivial, trivial, by simpa [upd, d5] using hN7⟩
        case refine_2 =>
         intro D sp w' hD hW hdp hG
         have d5 : D 5 = false := hW 5 (mq (by kernel_rfl))
         rw [d5] at hG
         have hc2 := (hG.box HS1.out.box).cells.2.2
         simp [asked, Region.wanted, Oper.gives, execOp, Act.eval, Act.put, go_sem, hc2]
        all_goals
         intro D sp w' hD hW hdp hG
         simp [asked, Region.wanted, Oper.gives, execOp, Act.eval, Act.put, go_sem]
       ·intro sp w5 hsp hG
        simp only [frameOf, Nat.reduceAdd]
        have hbel := hG.bel
        (with_reducible refine Exists.elim (hG.side HS1.out) fun bad2 hs3 => ?_)
        have hs2 := HS2.out.other HS1.out (by decide) (by decide) (by decide) (by decide) hs3.2.2.1 hs3.2.1 hs3.2.2.2.2
        have HT1 : Hold _ := ⟨hs3.1⟩
        have HT2 : Hold _ := ⟨hs2⟩
        have HLT5 : Hold _ := ⟨hs3.2.2.2.1⟩
        have HLO5 : Hold (∀ h, h < w0.heap.size → bad2 h) := ⟨fun h hh => hs3.2.1 _ (HLO.out h hh)⟩
        have HBL5 : Hold _ := ⟨hbel⟩
        clear hbel hs2 hs3 hsp hG HS1 HS2 HLT HLO HBL
        generalize sp 3 = z3
        generalize sp 4 = z4
        generalize sp 5 = v5 at *
        go_simp
        go_wp2
        refine wp_region_dutiesS (by kernel_rfl) (by kernel_rfl)
          [some (.pointer (some ⟨g2, 2, none⟩)), some u, some (.int .u64 (N : Nat)), none, none, none, some (.pointer (some ⟨g2, 2, none⟩)), none]
          [false, false, false, true, true, true, false, true] rfl
          (fun _ _ => True) (fun D sp w' => GrowG BitsAt (fun p n c => .slice p n c) 43 39 w0 w5 bad2 g2 (.slice x2.1 x2.2.1 x2.2.2) (.slice y2.1 y2.2.1 y2.2.2) u (s.ps.take k) N (D 3) (D 4) (D 5) (D 7) (sp 3) (sp 4) (sp 5) w') (fun _ _ _ => True) (fun _ _ _ _ h _ => h)
          (GrowG.start HBL5.out) ?_ ?_
        ·simp only [DutiesS, Nat.reduceAdd]
         refine ⟨?_, ?_, ?_, ?_, ?_, ?_, ?_, ?_, trivial⟩
         case refine_4 =>
          intro D sp w' hD hW hdp hG
          have d4 : D 4 = false := hW 4 (mq (by kernel_rfl))
          rw [hD, d4] at hG
          have d5 := hG.d5f
          rw [d5] at hG
          have d7 := hG.d7f
          rw [d7] at hG
          (with_reducible refine asked_call (w1 := w') (f := 8) (args := #[.int .u64 (N : Nat)]) ?_ ?_ ?_)
          ·simp only [Region.wanted]
          ·simp [Act.eval, Act.put, go_sem]
          ·refine (small_calls N w' HN3.out).mono ?_
           rintro e w5 ⟨p, n, c, rfl, hn, hb, hnew⟩
           exact ⟨_, rfl, trivial, trivial, by simpa [upd, d4, d5, d7] using hG.put3 (x := (p, n, c)) bitsLike hb hn hnew⟩
         case refine_5 =>
          intro D sp w' hD hW hdp hG
          have d3 : D 3 = true := (hdp 3 (mq (by kernel_rfl))).1
          rw [hD, d3] at hG
          have d5 := hG.d5f
          rw [d5] at hG
          have d7 := hG.d7f
          rw [d7] at hG
          (with_reducible refine Exists.elim (hG.one rfl rfl) fun x hx => ?_)
          have h3 := hx.1
          have hN4 := hG.put4 bitsLike hx.2.1 hx.2.2
          (with_reducible refine asked_value (w1 := w'.alloc (.cells #[.slice x.1 x.2.1 x.2.2] 39)) (v := .slice (some ⟨w'.heap.size, 0, none⟩) 1 1) ?_ ?_ ?_)
          ·simp only [Region.wanted]
          ·simp [execOp, Act.eval, Act.put, go_sem, h3]
          ·exact ⟨trivial, trivial, by simpa [upd, d3, d5, d7] using hN4⟩
         case refine_6 =>
          intro D sp w' hD hW hdp hG
          have d4 : D 4 = true := (hdp 4 (mq (by kernel_rfl))).1
          rw [hD, d4] at hG
          have d7 := hG.d7f
          have d3 := hG.o4 rfl
          rw [d7, d3] at hG
          (with_reducible refine Exists.elim (hG.row rfl rfl) fun g hg => Exists.elim hg fun x hx => ?_)
          clear hg
          have h4 := hx.1
          have hpre := hG.pre rfl
          have hlt' : ∀ g, bad2 g → g < w'.heap.size := fun g hg => Nat.lt_of_lt_of_le (HLT5.out g hg) hpre.size
          (with_reducible refine OwnV.app2 (N := N) (c := 1) Tryz.underlying41 II2.out.1 II2.out.2.1 II2.out.2.2.1 II2.out.2.2.2 rfl (by decide) (HT2.out.own.below hpre) hG.bel.size hx.2.1 (bitsStands.fresh hx.2.2.1 hx.2.2.2 HLT5.out) HT2.out.inv hlt' HTK.out 41 (fun v' w5 bad' hr ho hgr h1 h2 h3 h5 => ?_))
          have hN5 := hG.put5 ho hgr (fun g hg => (HT2.out.own.block g hg).1) h1 (fun g hg => h2 g (Nat.lt_of_lt_of_le hg hpre.size)) h3 h5
          (with_reducible refine asked_value (w1 := w5) (v := v') ?_ ?_ ?_)
          ·simp only [Region.wanted]
          ·simp [execOp, resolve, invoke, builtin, Act.eval, Act.put, h4, hr, Result.andThen]
          ·exact ⟨trivial, trivial, by simpa [upd, d3, d4, d7] using hN5⟩
         case refine_8 =>
          intro D sp w' hD hW hdp hG
          have d5 : D 5 = true := (hdp 5 (mq (by kernel_rfl))).1
          rw [hD, d5] at hG
          have hp := hG.put7 HT2.out.box (HT2.out.apart (by decide)) HT2.out.inb (by decide) HT2.out.low
          have hc2 := hp.1.cells.2.2
          have hf2 := hp.1.free 2
          have hN7 := hp.2
          (with_reducible refine Exists.elim hG.slc fun z hz => ?_)
          (with_reducible refine asked_skip (w1 := w'.setCell ⟨g2, 2, none⟩ (sp 5)) ?_ ?_ ?_)
          ·simp only [Region.wanted]
          ·simp [execOp, Act.eval, Act.put, go_sem, hc2, hf2, hz]
          ·exact ⟨trivial, trivial, by simpa [upd, d5] using hN7⟩
         case refine_2 =>
          intro D sp w' hD hW hdp hG
          have d5 : D 5 = false := hW 5 (mq (by kernel_rfl))
          rw [d5] at hG
          have hc2 := (hG.box HT2.out.box).cells.2.2
          simp [asked, Region.wanted, Oper.gives, execOp, Act.eval, Act.put, go_sem, hc2]
         all_goals
          intro D sp w' hD hW hdp hG
          simp [asked, Region.wanted, Oper.gives, execOp, Act.eval, Act.put, go_sem]
        ·intro sp w6 hsp hG
         simp only [frameOf, Nat.reduceAdd]
         have hbel := hG.bel
         (with_reducible refine Exists.elim (hG.side HT2.out) fun bad3 hs3 => ?_)
         have hs1 := HT1.out.other HT2.out (by decide) (by decide) (by decide) (by decide) hs3.2.2.1 hs3.2.1 hs3.2.2.2.2
         have HSF1 : Hold _ := ⟨hs1⟩
         have HSF2 : Hold _ := ⟨hs3.1⟩
         have HLT6 : Hold _ := ⟨hs3.2.2.2.1⟩
         have HLO6 : Hold (∀ h, h < w0.heap.size → bad3 h) := ⟨fun h hh => hs3.2.1 _ (HLO5.out h hh)⟩
         have HBL6 : Hold _ := ⟨hbel⟩
         clear hbel hs1 hs3 hsp hG
         generalize sp 3 = r3
         generalize sp 4 = r4
         generalize sp 5 = r5 at *
         go_simp
         go_wp2
         go_roundw
         case rel => exact ⟨k + 1, by omega, by go_num, bad3, _, _, HBL6, HLT6, HLO6, ⟨by rw [HNx.out]; exact HSF1.out⟩, ⟨by rw [HNx.out]; exact HSF2.out⟩⟩
         case measure => simp [intOf]; omega
      ·obtain rfl : k = m := by omega
       have htk : s.ps.take k = s.ps := List.take_of_length_le (by rw [← HML.out]; exact Nat.le_refl _)
       rw [htk] at HS1 HS2
       have hkm' : ¬ (k : Int) < k := by omega
       obtain ⟨z1, rfl, F1⟩ := HS1.out.pstep (B0 := w0.heap.size) HU3.out (Nat.le_refl _) HLO.out
       obtain ⟨z2, rfl, F2⟩ := HS2.out.sstep (B0 := w0.heap.size) (Nat.le_refl _) HLO.out
       have hA0 := HB0.out.size
       have HTG : Hold (TwoG w1 w0 g g2 (l.take kk) s x y z1 x2 y2 z2 u11 u12 false false false false undef undef undef undef wr) := ⟨⟨bstep (bstep HBO.out HB0.out) HBL.out, HBL.out.size, HS1.out.box, HS2.out.box, (fun a => by cases a), (fun a => by cases a),
        badO, fun h hh => Nat.lt_of_lt_of_le (HLTO.out h hh) (Nat.le_trans hA0 HBL.out.size), (HAO.out.below HB0.out).below HBL.out, (HDO.out.below HB0.out).below HBL.out, HVAO.out, HVBO.out,
        fun _ => F1.more (fun h _ hh => Nat.lt_of_lt_of_le (HLTO.out h hh) hA0), fun _ => F2.more (fun h _ hh => Nat.lt_of_lt_of_le (HLTO.out h hh) hA0)⟩⟩
       have HVA : Hold (∀ h, u11.ownBlock = some h → h < w0.heap.size) := ⟨fun h hh => Nat.lt_of_lt_of_le (HAO.out.block h hh).2 hA0⟩
       have HVB : Hold (∀ h, u12.ownBlock = some h → h < w0.heap.size) := ⟨fun h hh => Nat.lt_of_lt_of_le (HDO.out.block h hh).2 hA0⟩
       have HG1 : Hold _ := ⟨HS1.out.low⟩
       have HG2 : Hold _ := ⟨HS2.out.low⟩
       have HTl : Hold ((l.take kk).length ≤ 1000000) := ⟨by rw [List.length_take]; omega⟩
       have HTk : Hold (l.take (kk + 1) = l.take kk ++ [s]) := ⟨snoc_take HSk.out⟩
       have HFW' : Hold (∀ t ∈ l.take (kk + 1), t.ps.length ≤ 10) := ⟨fun t ht => by
        rw [HTk.out] at ht
        rcases List.mem_append.1 ht with ht | ht
        ·exact HFW.out t ht
        ·simp at ht
         rw [ht, ← HML.out]
         omega⟩
       clear F1 F2 HS1 HS2 htk
       go_wp2
       refine wp_region_dutiesS (by kernel_rfl) (by kernel_rfl)
        [some u11, some (trip x y z1), none, none, some u12, some (trip x2 y2 z2), none, none, none, none]
        [false, false, true, true, false, false, true, true, true, true] rfl
        (fun _ _ => True)
        (fun D sp w' => TwoG w1 w0 g g2 (l.take kk) s x y z1 x2 y2 z2 u11 u12 (D 2) (D 3) (D 6) (D 7) (sp 2) (sp 3) (sp 6) (sp 7) w' ∧ (D 8 = true → sp 8 = sp 3) ∧ (D 9 = true → sp 9 = sp 7))
        (fun _ _ _ => True) (fun _ _ _ _ h _ => h) ?_ ?_ ?_
       ·have h := HTG.out
        obtain ⟨bad, h1, h2, h3, h4, h5, h6, h7⟩ := h.rows
        have hdr : Below wr.heap.size wr wr.drew := (Below.refl _ _).drew
        exact ⟨⟨h.bel.drew, h.size, h.bs.drew, h.bw.drew, (fun a => by cases a), (fun a => by cases a), bad, h1, h2.below hdr, h3.below hdr, h4, h5, fun a => (h6 a).step (.of hdr), fun a => (h7 a).step (.of hdr)⟩, (fun a => by cases a), (fun a => by cases a)⟩
       ·simp only [DutiesS, Nat.reduceAdd]
        refine ⟨?_, ?_, ?_, ?_, ?_, ?_, ?_, ?_, ?_, ?_, trivial⟩
        case refine_1 =>
         intro D sp w' hD hW hdp hG
         (with_reducible refine asked_value (w1 := w') (v := u11) ?_ ?_ ?_)
         ·simp only [Region.wanted]
         ·simp [execOp, Act.eval, go_sem]
         ·exact ⟨rfl, rfl⟩
        case refine_2 =>
         intro D sp w' hD hW hdp hG
         have c0 := hG.1.bs.cells.1
         have c1 := hG.1.bs.cells.2.1
         have c2 := hG.1.bs.cells.2.2
         (with_reducible refine asked_value (w1 := w') (v := trip x y z1) ?_ ?_ ?_)
         ·simp only [Region.wanted]
         ·simp [execOp, Act.eval, Act.put, go_sem, c0, c1, c2]
         ·exact ⟨rfl, rfl⟩
        case refine_3 =>
         intro D sp w' hD hW hdp hG
         have d3 : D 3 = false := hW 3 (mq (by kernel_rfl))
         rw [hD, d3] at hG
         have hN := hG.1.put2
         (with_reducible refine asked_value (w1 := w'.alloc (.cells #[.slice x.1 x.2.1 x.2.2, .slice y.1 y.2.1 y.2.2, .slice z1.1 z1.2.1 z1.2.2] 37)) (v := .slice (some ⟨w'.heap.size, 0, none⟩) 1 1) ?_ ?_ ?_)
         ·simp only [Region.wanted]
         ·simp [execOp, Act.eval, Act.put, go_sem]
         ·exact ⟨trivial, trivial, by simpa [upd, d3] using And.intro hN hG.2⟩
        case refine_4 =>
         intro D sp w' hD hW hdp hG
         have d2 : D 2 = true := (hdp 2 (mq (by kernel_rfl))).1
         have d8 : D 8 = false := hW 8 (mq (by kernel_rfl))
         rw [hD, d2] at hG
         (with_reducible refine hG.1.put3 HVA.out HG1.out (Nat.le_trans (Nat.le_refl _) HG2.out) HTl.out 26 (fun gg v' w5 e happ hN => ?_))
         (with_reducible refine asked_value (w1 := w5) (v := v') ?_ ?_ ?_)
         ·simp only [Region.wanted]
         ·simp [execOp, resolve, invoke, builtin, Act.eval, Act.put, e, happ, Result.andThen]
         ·exact ⟨trivial, trivial, by simpa [upd, d2, d8] using And.intro hN hG.2.2⟩
        case refine_5 =>
         intro D sp w' hD hW hdp hG
         (with_reducible refine asked_value (w1 := w') (v := u12) ?_ ?_ ?_)
         ·simp only [Region.wanted]
         ·simp [execOp, Act.eval, Act.put, go_sem]
         ·exact ⟨rfl, rfl⟩
        case refine_6 =>
         intro D sp w' hD hW hdp hG
         have c0 := hG.1.bw.cells.1
         have c1 := hG.1.bw.cells.2.1
         have c2 := hG.1.bw.cells.2.2
         (with_reducible refine asked_value (w1 := w') (v := trip x2 y2 z2) ?_ ?_ ?_)
         ·simp only [Region.wanted]
         ·simp [execOp, Act.eval, Act.put, go_sem, c0, c1, c2]
         ·exact ⟨rfl, rfl⟩
        case refine_7 =>
         intro D sp w' hD hW hdp hG
         have d7 : D 7 = false := hW 7 (mq (by kernel_rfl))
         rw [hD, d7] at hG
         have hN := hG.1.put6
         (with_reducible refine asked_value (w1 := w'.alloc (.cells #[.slice x2.1 x2.2.1 x2.2.2, .slice y2.1 y2.2.1 y2.2.2, .slice z2.1 z2.2.1 z2.2.2] 43)) (v := .slice (some ⟨w'.heap.size, 0, none⟩) 1 1) ?_ ?_ ?_)
         ·simp only [Region.wanted]
         ·simp [execOp, Act.eval, Act.put, go_sem]
         ·exact ⟨trivial, trivial, by simpa [upd, d7] using And.intro hN hG.2⟩
        case refine_8 =>
         intro D sp w' hD hW hdp hG
         have d6 : D 6 = true := (hdp 6 (mq (by kernel_rfl))).1
         have d9 : D 9 = false := hW 9 (mq (by kernel_rfl))
         rw [hD, d6] at hG
         (with_reducible refine hG.1.put7 HVB.out HG1.out (Nat.le_trans (Nat.le_refl _) HG2.out) HTl.out 27 (fun gg v' w5 e happ hN => ?_))
         (with_reducible refine asked_value (w1 := w5) (v := v') ?_ ?_ ?_)
         ·simp only [Region.wanted]
         ·simp [execOp, resolve, invoke, builtin, Act.eval, Act.put, e, happ, Result.andThen]
         ·exact ⟨trivial, trivial, by simpa [upd, d6, d9] using And.intro hN hG.2.1⟩
        case refine_9 =>
         intro D sp w' hD hW hdp hG
         (with_reducible refine asked_value (w1 := w') (v := sp 3) ?_ ?_ ?_)
         ·simp only [Region.wanted]
         ·simp [execOp, Act.eval, Act.put, go_sem]
         ·exact ⟨trivial, trivial, by simpa [upd] using And.intro hG.1 hG.2.2⟩
        case refine_10 =>
         intro D sp w' hD hW hdp hG
         (with_reducible refine asked_value (w1 := w') (v := sp 7) ?_ ?_ ?_)
         ·simp only [Region.wanted]
         ·simp [execOp, Act.eval, Act.put, go_sem]
         ·exact ⟨trivial, trivial, by simpa [upd] using And.intro hG.1 hG.2.1⟩
       ·intro sp w9 hsp hG
        have e8 := hG.2.1 rfl
        have e9 := hG.2.2 rfl
        have hT := hG.1
        clear hsp hG
        simp only [frameOf, Nat.reduceAdd]
        rw [e8, e9]
        clear e8 e9
        generalize sp 2 = y2'
        generalize sp 3 = va' at *
        generalize sp 6 = y6'
        generalize sp 7 = vb' at *
        obtain ⟨bad, t1, t2, t3, t4, t5, _, _⟩ := hT.rows
        simp only [if_true] at t2 t3 t4 t5
        have R1 : Hold _ := ⟨hT.bel⟩
        have R2 : Hold _ := ⟨t1⟩
        have R3 : Hold (OwnT (PStep 2) 37 w1.heap.size bad w9 va' (l.take (kk + 1))) := ⟨by rw [HTk.out]; exact t2⟩
        have R4 : Hold (OwnT SStep 43 w1.heap.size bad w9 vb' (l.take (kk + 1))) := ⟨by rw [HTk.out]; exact t3⟩
        have R5 : Hold _ := ⟨t4⟩
        have R6 : Hold _ := ⟨t5⟩
        clear hT t1 t2 t3 t4 t5 HTG
        go_simp
        go_wp2
        go_roundw
        case rel => exact ⟨kk + 1, bad, by omega, by go_num, R1, R2, R3, R4, R5, R6, HFW'⟩
        case measure => simp [intOf]; omega
  ·obtain rfl : kk = nl := by omega
   have hkn' : ¬ (kk : Int) < kk := by omega
   have htk : l.take kk = l := List.take_of_length_le (by rw [← HLn.out]; exact Nat.le_refl _)
   rw [htk] at HAO HDO HFW
   have HU := HL.out.u64
   obtain ⟨pa, ca, rfl, hpa⟩ := HAO.out.psteps (fun s hs => ⟨(HU s hs).1, (HU s hs).2.1⟩)
   obtain ⟨pb, cb, rfl, hpb⟩ := HDO.out.slist
   rw [← HLn.out] at hpa hpb ⊢
   have HPA : Hold _ := ⟨hpa⟩
   have HPB : Hold _ := ⟨hpb⟩
   have HBw : Hold _ := ⟨bstep B1.out HBO.out⟩
   have HSl : Hold (ns = seed.length) := ⟨HSd.out.row.len⟩
   have hb1 : Below wA.heap.size wA (wA.alloc (.cells #[] 5)) := bal
   have hgg : (wA.alloc (.cells #[] 5)).heap[wA.heap.size]? = some (.cells #[] 5 (0, 0)) := heap_alloc_new wA _
   obtain ⟨wc, hwc⟩ : ∃ wc, wA.alloc (.cells #[] 5) = wc := ⟨_, rfl⟩
   rw [hwc] at hb1 hgg
   have hrs := (HSd.out.below (bstep HBw.out hb1)).row
   obtain ⟨v', w2, happ, hown, hb2⟩ := run_app0 (B := wA.heap.size) hgg (Nat.le_refl _) hrs HZS.out (by show ns ≤ 140737488355328; omega) 23
   have HOwn : Hold _ := ⟨hown⟩
   have HB2 : Hold _ := ⟨bstep hb1 hb2⟩
   clear htk HU hpa hpb hb1 hgg hrs hown hb2
   go_wp2_with (at_builtin; refine Lib.wpList_append_run _ rfl _ _ _ _ rfl _ _ rfl rfl _ _ happ ?_; refine Paused.out ?_)
   refine ⟨?_⟩
   clear happ
   obtain ⟨po, co, rfl, hro, _, hzo, _⟩ := HOwn.out.elim
   rw [← HSl.out] at hro ⊢
   have HRO : Hold _ := ⟨hro⟩
   have HZO : Hold _ := ⟨hzo⟩
   have HBw2 : Hold _ := ⟨bstep HBw.out HB2.out⟩
   clear hro hzo
   go_wp2_with fail
   refine (new_calls P w2 HPQG.out.1).mono ?_
   rintro en w3 ⟨xp, xn, xc, rfl, hn3, hb3, _⟩
   have H3 : Hold _ := ⟨hn3⟩
   have HB3 : Hold _ := ⟨hb3⟩
   clear hn3 hb3
   go_wp2_with fail
   refine (new_calls Q w3 HPQG.out.2.1).mono ?_
   rintro en w4 ⟨yp, yn, yc, rfl, hn4, hb4, _⟩
   have H4 : Hold _ := ⟨hn4⟩
   have H34 : Hold _ := ⟨H3.out.below hb4⟩
   have HB4 : Hold _ := ⟨bstep HB3.out hb4⟩
   clear hn4 hb4
   go_wp2_with fail
   refine (new_calls G w4 HPQG.out.2.2).mono ?_
   rintro en w5 ⟨zp, zn, zc, rfl, hn5, hb5, _⟩
   have H5 : Hold _ := ⟨hn5⟩
   have H35 : Hold _ := ⟨H34.out.below hb5⟩
   have H45 : Hold _ := ⟨H4.out.below hb5⟩
   have HB5 : Hold _ := ⟨bstep HB4.out hb5⟩
   have HBw5 : Hold _ := ⟨bstep HBw2.out HB5.out⟩
   have HRO5 : Hold (PartOk w5 ⟨po, ns, co, seed⟩) := ⟨⟨HRO.out.below HB5.out, HSd.out.bytes⟩⟩
   have HPA5 : Hold _ := ⟨(HPA.out.below HB2.out).below HB5.out⟩
   have HPB5 : Hold _ := ⟨(HPB.out.below HB2.out).below HB5.out⟩
   clear hn5 hb5
   obtain ⟨R, hR⟩ : ∃ R, newSpec P Q G seed l = R := ⟨_, rfl⟩
   have HRe : Hold _ := ⟨hR⟩
   have HNw : Hold _ := ⟨HN.out.new (x := (xp, xn, xc)) (y := (yp, yn, yc)) (z := (zp, zn, zc)) (HD.out.readyBelow HRd.out HBw5.out) H35.out HPQG.out.1 H45.out HPQG.out.2.1 H5.out HPQG.out.2.2 HRO5.out HZO.out (by omega) HPA5.out (by omega) (fun s hs => Nat.le_trans (HFW.out s hs) (by decide))⟩
   rw [hR] at HNw
   clear hR
   go_wp2_with fail
   refine HNw.out.mono ?_
   rintro en w6 ⟨hlong, hok, hno, hb6⟩
   have HB6 : Hold _ := ⟨bstep HB5.out hb6⟩
   have HBw6 : Hold _ := ⟨bstep HBw5.out hb6⟩
   have HPB6 : Hold _ := ⟨HPB5.out.below hb6⟩
   have HRO6 : Hold _ := ⟨HRO5.out.below hb6⟩
   clear HNw
   by_cases h128 : 128 < ns
   ·obtain rfl := hlong h128
    have h128' : (128 : Int) < ns := by omega
    clear hlong hok hno hb6
    go_wp2
    go_ret
    exact ⟨rfl, HBw6.out⟩
   ·have h128' : ¬ (128 : Int) < ns := by omega
    have HOut : Hold ((R.1 = 0 → ∃ b, en = .returned (.tuple #[.pointer (some ⟨b, 0, none⟩), .int .i64 0]) ∧ At w6 b P Q G R.2) ∧ (R.1 ≠ 0 → en = .returned (.tuple #[.pointer none, .int .i64 (R.1 : Nat)]))) := ⟨⟨hok (by omega), hno (by omega)⟩⟩
    clear hlong hok hno hb6
    have HFB : Hold (FewB l) := ⟨fun s hs => by
     have hu := HL.out.u64 s hs
     have h64 : ∀ {a : Nat}, a < 18446744073709551616 → blen a ≤ 1100 := fun h => Nat.le_trans (blen_small (k := 64) h) (by decide)
     exact ⟨h64 hu.1, h64 hu.2.1, fun q hq => h64 (hu.2.2 q hq), Nat.le_trans (HFW.out s hs) (by decide)⟩⟩
    have HBl : Hold (blen P ≤ 1100 ∧ blen Q ≤ 1100 ∧ blen G ≤ 1100) := ⟨⟨Nat.le_trans (blen_small (k := 64) HPQG.out.1) (by decide), Nat.le_trans (blen_small (k := 64) HPQG.out.2.1) (by decide), Nat.le_trans (blen_small (k := 64) HPQG.out.2.2) (by decide)⟩⟩
    obtain ⟨r1, r2⟩ := R
    by_cases hr1 : r1 = 0
    ·obtain ⟨b, rfl, hg⟩ := HOut.out.1 hr1
     subst hr1
     have HG6 : Hold (At w6 b P Q G r2) := ⟨hg⟩
     clear hg HOut
     go_wp2_with fail
     refine (small_calls P w6 HPQG.out.1).mono ?_
     rintro en w7 ⟨ap, an, ac, rfl, hn7, hb7, _⟩
     have K7 : Hold _ := ⟨hn7⟩
     have KB7 : Hold _ := ⟨hb7⟩
     clear hn7 hb7
     go_wp2_with fail
     refine (small_calls Q w7 HPQG.out.2.1).mono ?_
     rintro en w8 ⟨bp, bn, bc, rfl, hn8, hb8, _⟩
     have K8 : Hold _ := ⟨hn8⟩
     have K78 : Hold _ := ⟨K7.out.below hb8⟩
     have KB8 : Hold _ := ⟨bstep KB7.out hb8⟩
     clear hn8 hb8
     go_wp2_with fail
     refine (small_calls G w8 HPQG.out.2.2).mono ?_
     rintro en w9 ⟨cp, cn, cc, rfl, hn9, hb9, _⟩
     have K9 : Hold _ := ⟨hn9⟩
     have K79 : Hold _ := ⟨K78.out.below hb9⟩
     have K89 : Hold _ := ⟨K8.out.below hb9⟩
     have KB9 : Hold _ := ⟨bstep KB8.out hb9⟩
     have KW9 : Hold _ := ⟨bstep HBw6.out KB9.out⟩
     have HDN : Hold _ := ⟨dnew_calls w9 ap an ac P bp bn bc Q cp cn cc G ps ns cs seed pb kk cb l K79.out K89.out K9.out (HSd.out.below KW9.out) HZS.out (by omega) (HPB6.out.below KB9.out) HBl.out.1 HBl.out.2.1 HBl.out.2.2 HFB.out (by omega)⟩
     rw [HRe.out] at HDN
     clear hn9 hb9
     go_wp2_with fail
     refine HDN.out.mono ?_
     rintro en wx ⟨x1, x2, x3, x4, rfl, hbits, hbx⟩
     have hba : Below wx.heap.size wx (wx.alloc (.cells #[.slice x1.1 x1.2.1 x1.2.2, .slice x2.1 x2.2.1 x2.2.2, .slice x3.1 x3.2.1 x3.2.2, .slice x4.1 x4.2.1 x4.2.2] 51)) := bal
     have HX22 : Hold _ := ⟨Box4.made 51 wx (.slice x1.1 x1.2.1 x1.2.2) (.slice x2.1 x2.2.1 x2.2.2) (.slice x3.1 x3.2.1 x3.2.2) (.slice x4.1 x4.2.1 x4.2.2)⟩
     obtain ⟨wq, hwq⟩ : ∃ wq, wx.alloc (.cells #[.slice x1.1 x1.2.1 x1.2.2, .slice x2.1 x2.2.1 x2.2.2, .slice x3.1 x3.2.1 x3.2.2, .slice x4.1 x4.2.1 x4.2.2] 51) = wq := ⟨_, rfl⟩
     rw [hwq] at hba HX22
     have hbq := bstep hbx hba
     have KBq : Hold _ := ⟨bstep KB9.out hbq⟩
     have KWq : Hold _ := ⟨bstep KW9.out hbq⟩
     have hb4 := hbits rfl
     have HR3 : Hold _ := ⟨hb4.2.2.1.below hba⟩
     have HR4 : Hold _ := ⟨hb4.2.2.2.below hba⟩
     have HRV : Hold (RefVal P Q G r2 (.agg #[.slice x1.1 x1.2.1 x1.2.2, .slice x2.1 x2.2.1 x2.2.2, .slice x3.1 x3.2.1 x3.2.2, .slice x4.1 x4.2.1 x4.2.2]) wq) := ⟨⟨_, _, _, _, _, _, _, _, _, _, _, _, rfl, hb4.1.below hba, hb4.2.1.below hba, HR3.out, HR4.out⟩⟩
     have HGq : Hold _ := ⟨HD.out.below HG6.out KBq.out⟩
     clear hb4
     have hcO : (convert 23 9 (.slice po ns co)).run Tryz.prog wq = .ok (.string (strOf seed)) wq := convert_in (HRO6.out.below KBq.out).row
     have hcX : (convert 23 9 (.slice ps ns cs)).run Tryz.prog wq = .ok (.string (strOf seed)) wq := convert_in (HSd.out.below KWq.out).row
     obtain ⟨SS, hSS⟩ : ∃ SS, strOf seed = SS := ⟨_, rfl⟩
     rw [hSS] at hcO hcX
     clear hba hbq hbx hbits HDN hSS
     go_wp2
     refine wp_region_duties (by kernel_rfl) (by kernel_rfl)
      [some (.int .i64 0), some (.bool false), some (.bool false), some (.pointer (some ⟨b, 0, none⟩)), none, some (.pointer (some ⟨wx.heap.size, 3, none⟩)), some (.slice x4.1 x4.2.1 x4.2.2), none, some (.bool true), some (.pointer (some ⟨b, 0, none⟩)), none, some (.pointer (some ⟨wx.heap.size, 2, none⟩)), some (.slice x3.1 x3.2.1 x3.2.2), none, some (.bool true), some (.bool true), some (.pointer (some ⟨b, 0, none⟩)), none, some (.agg #[.slice x1.1 x1.2.1 x1.2.2, .slice x2.1 x2.2.1 x2.2.2, .slice x3.1 x3.2.1 x3.2.2, .slice x4.1 x4.2.1 x4.2.2]), none, some (.bool true), some (.bool true), some (.bool true), some (.bool true)]
      [false, false, false, false, true, false, false, true, false, false, true, false, false, true, false, false, false, true, false, true, false, false, false, false] rfl
      (fun w1 w2 => Below w1.heap.size w1 w2)
      (fun _ w' => Below wq.heap.size wq w')
      (fun i v w' => match i with
       | 4 => Fit 33 r2 v w'
       | 7 => v = .bool true
       | 10 => Fit 33 G v w'
       | 13 => v = .bool true
       | 17 => v = .int .i64 (bsize P : Nat)
       | 19 => v = .int .i64 (bsize P : Nat)
       | _ => True)
      ?_ (Below.refl _ _).drew ?_ ?_
     ·intro i v w1 w2 hf hb
      split at hf
      ·exact hf.below hb
      ·exact hf
      ·exact hf.below hb
      ·exact hf
      ·exact hf
      ·exact hf
      ·trivial
     ·simp only [Duties, Nat.reduceAdd]
      refine ⟨?_, ?_, ?_, ?_, ?_, ?_, ?_, ?_, ?_, ?_, ?_, ?_, ?_, ?_, ?_, ?_, ?_, ?_, ?_, ?_, ?_, ?_, ?_, ?_, trivial⟩
      case refine_1 =>
       intro D sp w' hD hW hdp hbx'
       (with_reducible refine asked_value (w1 := w') (v := .int .i64 0) ?_ ?_ ?_)
       ·simp only [Region.wanted]
       ·simp [execOp, Act.eval, go_sem]
       ·exact ⟨rfl, rfl⟩
      case refine_2 =>
       intro D sp w' hD hW hdp hbx'
       (with_reducible refine asked_value (w1 := w') (v := .bool false) ?_ ?_ ?_)
       ·simp only [Region.wanted]
       ·simp [execOp, Act.eval, Act.put, go_sem]
       ·exact ⟨rfl, rfl⟩
      case refine_3 =>
       intro D sp w' hD hW hdp hbx'
       (with_reducible refine asked_value (w1 := w') (v := .bool false) ?_ ?_ ?_)
       ·simp only [Region.wanted]
       ·simp [execOp, Act.eval, Act.put, go_sem]
       ·exact ⟨rfl, rfl⟩
      case refine_4 =>
       intro D sp w' hD hW hdp hbx'
       (with_reducible refine asked_value (w1 := w') (v := .pointer (some ⟨b, 0, none⟩)) ?_ ?_ ?_)
       ·simp [Region.wanted, yielded, Act.put, go_sem]
       ·simp [execOp, Act.eval, Act.put, go_sem]
       ·exact ⟨rfl, rfl⟩
      case refine_5 =>
       intro D sp w' hD hW hdp hbx'
       (with_reducible refine asked_call (w1 := w') (f := 12) (args := #[.pointer (some ⟨b, 0, none⟩)]) ?_ ?_ ?_)
       ·simp [Region.wanted, yielded, Act.put, go_sem]
       ·simp [Act.eval, Act.put, go_sem]
       ·refine (HA.out.hh (HD.out.below HGq.out hbx')).mono ?_
        rintro en w9 ⟨u, rfl, hu, hb⟩
        exact ⟨u, rfl, hb, hu, bstep hbx' hb⟩
      case refine_6 =>
       intro D sp w' hD hW hdp hbx'
       (with_reducible refine asked_value (w1 := w') (v := .pointer (some ⟨wx.heap.size, 3, none⟩)) ?_ ?_ ?_)
       ·simp [Region.wanted, yielded, Act.put, go_sem]
       ·simp [execOp, Act.eval, Act.put, go_sem]
       ·exact ⟨rfl, rfl⟩
      case refine_7 =>
       intro D sp w' hD hW hdp hbx'
       have c3 := (HX22.out.below hbx' HX22.out.lt).cells.2.2.2
       (with_reducible refine asked_value (w1 := w') (v := .slice x4.1 x4.2.1 x4.2.2) ?_ ?_ ?_)
       ·simp [Region.wanted, yielded, Act.put, go_sem]
       ·simp [execOp, Act.eval, Act.put, go_sem, c3]
       ·exact ⟨rfl, rfl⟩
      case refine_8 =>
       intro D sp w' hD hW hdp hbx'
       have k4 : Fit 33 r2 (sp 4) w' := (hdp 4 (mq (by kernel_rfl))).2
       (with_reducible refine asked_call (w1 := w') (f := 11) (args := #[sp 4, .slice x4.1 x4.2.1 x4.2.2]) ?_ ?_ ?_)
       ·simp [Region.wanted, yielded, Act.put, go_sem]
       ·simp [Act.eval, Act.put, go_sem]
       ·refine (same_fit' k4 (RBits.of (HR4.out.below hbx')) (by decide)).mono ?_
        rintro en w9 ⟨u, rfl, rfl, hb⟩
        exact ⟨_, rfl, hb, rfl, bstep hbx' hb⟩
      case refine_9 =>
       intro D sp w' hD hW hdp hbx'
       have k7 : (sp 7) = .bool true := (hdp 7 (mq (by kernel_rfl))).2
       (with_reducible refine asked_value (w1 := w') (v := .bool true) ?_ ?_ ?_)
       ·first | (simp only [Region.wanted]; done) | simp [Region.wanted, yielded, Act.put, go_sem, k7]
       ·simp [execOp, Act.eval, Act.put, go_sem, k7]
       ·exact ⟨rfl, rfl⟩
      case refine_10 =>
       intro D sp w' hD hW hdp hbx'
       (with_reducible refine asked_value (w1 := w') (v := .pointer (some ⟨b, 0, none⟩)) ?_ ?_ ?_)
       ·simp [Region.wanted, yielded, Act.put, go_sem]
       ·simp [execOp, Act.eval, Act.put, go_sem]
       ·exact ⟨rfl, rfl⟩
      case refine_11 =>
       intro D sp w' hD hW hdp hbx'
       (with_reducible refine asked_call (w1 := w') (f := 13) (args := #[.pointer (some ⟨b, 0, none⟩)]) ?_ ?_ ?_)
       ·simp [Region.wanted, yielded, Act.put, go_sem]
       ·simp [Act.eval, Act.put, go_sem]
       ·refine (HA.out.gg (HD.out.below HGq.out hbx')).mono ?_
        rintro en w9 ⟨u, rfl, hu, hb⟩
        exact ⟨u, rfl, hb, hu, bstep hbx' hb⟩
      case refine_12 =>
       intro D sp w' hD hW hdp hbx'
       (with_reducible refine asked_value (w1 := w') (v := .pointer (some ⟨wx.heap.size, 2, none⟩)) ?_ ?_ ?_)
       ·simp [Region.wanted, yielded, Act.put, go_sem]
       ·simp [execOp, Act.eval, Act.put, go_sem]
       ·exact ⟨rfl, rfl⟩
      case refine_13 =>
       intro D sp w' hD hW hdp hbx'
       have c2 := (HX22.out.below hbx' HX22.out.lt).cells.2.2.1
       (with_reducible refine asked_value (w1 := w') (v := .slice x3.1 x3.2.1 x3.2.2) ?_ ?_ ?_)
       ·simp [Region.wanted, yielded, Act.put, go_sem]
       ·simp [execOp, Act.eval, Act.put, go_sem, c2]
       ·exact ⟨rfl, rfl⟩
      case refine_14 =>
       intro D sp w' hD hW hdp hbx'
       have k10 : Fit 33 G (sp 10) w' := (hdp 10 (mq (by kernel_rfl))).2
       (with_reducible refine asked_call (w1 := w') (f := 11) (args := #[sp 10, .slice x3.1 x3.2.1 x3.2.2]) ?_ ?_ ?_)
       ·simp [Region.wanted, yielded, Act.put, go_sem]
       ·simp [Act.eval, Act.put, go_sem]
       ·refine (same_fit' k10 (RBits.of (HR3.out.below hbx')) (by decide)).mono ?_
        rintro en w9 ⟨u, rfl, rfl, hb⟩
        exact ⟨_, rfl, hb, rfl, bstep hbx' hb⟩
      case refine_15 =>
       intro D sp w' hD hW hdp hbx'
       have k13 : (sp 13) = .bool true := (hdp 13 (mq (by kernel_rfl))).2
       (with_reducible refine asked_value (w1 := w') (v := .bool true) ?_ ?_ ?_)
       ·first | (simp only [Region.wanted]; done) | simp [Region.wanted, yielded, Act.put, go_sem, k13]
       ·simp [execOp, Act.eval, Act.put, go_sem, k13]
       ·exact ⟨rfl, rfl⟩
      case refine_16 =>
       intro D sp w' hD hW hdp hbx'
       (with_reducible refine asked_value (w1 := w') (v := .bool true) ?_ ?_ ?_)
       ·simp [Region.wanted, yielded, Act.put, go_sem]
       ·simp [execOp, Act.eval, Act.put, go_sem]
       ·exact ⟨rfl, rfl⟩
      case refine_17 =>
       intro D sp w' hD hW hdp hbx'
       (with_reducible refine asked_value (w1 := w') (v := .pointer (some ⟨b, 0, none⟩)) ?_ ?_ ?_)
       ·simp [Region.wanted, yielded, Act.put, go_sem]
       ·simp [execOp, Act.eval, Act.put, go_sem]
       ·exact ⟨rfl, rfl⟩
      case refine_18 =>
       intro D sp w' hD hW hdp hbx'
       (with_reducible refine asked_call (w1 := w') (f := 14) (args := #[.pointer (some ⟨b, 0, none⟩)]) ?_ ?_ ?_)
       ·simp [Region.wanted, yielded, Act.put, go_sem]
       ·simp [Act.eval, Act.put, go_sem]
       ·refine (HN.out.size (HD.out.below HGq.out hbx')).mono ?_
        rintro en w9 ⟨rfl, hb⟩
        exact ⟨_, rfl, hb, rfl, bstep hbx' hb⟩
      case refine_19 =>
       intro D sp w' hD hW hdp hbx'
       have c0 := (HX22.out.below hbx' HX22.out.lt).cells.1
       have c1 := (HX22.out.below hbx' HX22.out.lt).cells.2.1
       have c2 := (HX22.out.below hbx' HX22.out.lt).cells.2.2.1
       have c3 := (HX22.out.below hbx' HX22.out.lt).cells.2.2.2
       (with_reducible refine asked_value (w1 := w') (v := .agg #[.slice x1.1 x1.2.1 x1.2.2, .slice x2.1 x2.2.1 x2.2.2, .slice x3.1 x3.2.1 x3.2.2, .slice x4.1 x4.2.1 x4.2.2]) ?_ ?_ ?_)
       ·simp [Region.wanted, yielded, Act.put, go_sem]
       ·simp [execOp, Act.eval, Act.put, go_sem, c0, c1, c2, c3]
       ·exact ⟨rfl, rfl⟩
      case refine_20 =>
       intro D sp w' hD hW hdp hbx'
       (with_reducible refine asked_call (w1 := w') (f := 15) (args := #[.agg #[.slice x1.1 x1.2.1 x1.2.2, .slice x2.1 x2.2.1 x2.2.2, .slice x3.1 x3.2.1 x3.2.2, .slice x4.1 x4.2.1 x4.2.2]]) ?_ ?_ ?_)
       ·simp [Region.wanted, yielded, Act.put, go_sem]
       ·simp [Act.eval, Act.put, go_sem]
       ·refine (dsize_calls (HRV.out.below hbx') (by have := HBl.out.1; omega)).mono ?_
        rintro en w9 ⟨rfl, hb⟩
        exact ⟨_, rfl, hb, rfl, bstep hbx' hb⟩
      case refine_21 =>
       intro D sp w' hD hW hdp hbx'
       have k17 : (sp 17) = .int .i64 (bsize P : Nat) := (hdp 17 (mq (by kernel_rfl))).2
       have k19 : (sp 19) = .int .i64 (bsize P : Nat) := (hdp 19 (mq (by kernel_rfl))).2
       (with_reducible refine asked_value (w1 := w') (v := .bool true) ?_ ?_ ?_)
       ·first | (simp only [Region.wanted]; done) | simp [Region.wanted, yielded, Act.put, go_sem, k17, k19]
       ·simp [execOp, Act.eval, Act.put, go_sem, k17, k19]
       ·exact ⟨rfl, rfl⟩
      case refine_22 =>
       intro D sp w' hD hW hdp hbx'
       (with_reducible refine asked_value (w1 := w') (v := .bool true) ?_ ?_ ?_)
       ·simp [Region.wanted, yielded, Act.put, go_sem]
       ·simp [execOp, Act.eval, Act.put, go_sem]
       ·exact ⟨rfl, rfl⟩
      case refine_23 =>
       intro D sp w' hD hW hdp hbx'
       (with_reducible refine asked_value (w1 := w') (v := .bool true) ?_ ?_ ?_)
       ·simp only [Region.wanted]
       ·simp [execOp, Act.eval, Act.put, go_sem]
       ·exact ⟨rfl, rfl⟩
      case refine_24 =>
       intro D sp w' hD hW hdp hbx'
       (with_reducible refine asked_value (w1 := w') (v := .bool true) ?_ ?_ ?_)
       ·simp only [Region.wanted]
       ·simp [execOp, Act.eval, Act.put, go_sem]
       ·exact ⟨rfl, rfl⟩
     ·intro sp wr9 hsp hbx'
      have HBe : Hold _ := ⟨bstep KWq.out hbx'⟩
      clear hsp hbx'
      simp only [frameOf, Nat.reduceAdd]
      generalize sp 4 = y4 at *
      generalize sp 7 = y7 at *
      generalize sp 10 = y10 at *
      generalize sp 13 = y13 at *
      generalize sp 17 = y17 at *
      generalize sp 19 = y19 at *
      go_simp
      go_wp2
      go_ret
      exact ⟨rfl, HBe.out⟩
    ·obtain rfl := HOut.out.2 hr1
     have hr0 : ((r1 : Int) == 0) = false := by rw [beq_eq_false_iff_ne]; omega
     have hr2 : ((r1 : Int) != 0) = true := by rw [bne_iff_ne]; omega
     have hr3 : ¬ (r1 : Int) = 0 := by omega
     clear HOut
     go_wp2_with fail
     refine (small_calls P w6 HPQG.out.1).mono ?_
     rintro en w7 ⟨ap, an, ac, rfl, hn7, hb7, _⟩
     have K7 : Hold _ := ⟨hn7⟩
     have KB7 : Hold _ := ⟨hb7⟩
     clear hn7 hb7
     go_wp2_with fail
     refine (small_calls Q w7 HPQG.out.2.1).mono ?_
     rintro en w8 ⟨bp, bn, bc, rfl, hn8, hb8, _⟩
     have K8 : Hold _ := ⟨hn8⟩
     have K78 : Hold _ := ⟨K7.out.below hb8⟩
     have KB8 : Hold _ := ⟨bstep KB7.out hb8⟩
     clear hn8 hb8
     go_wp2_with fail
     refine (small_calls G w8 HPQG.out.2.2).mono ?_
     rintro en w9 ⟨cp, cn, cc, rfl, hn9, hb9, _⟩
     have K9 : Hold _ := ⟨hn9⟩
     have K79 : Hold _ := ⟨K78.out.below hb9⟩
     have K89 : Hold _ := ⟨K8.out.below hb9⟩
     have KB9 : Hold _ := ⟨bstep KB8.out hb9⟩
     have KW9 : Hold _ := ⟨bstep HBw6.out KB9.out⟩
     have HDN : Hold _ := ⟨dnew_calls w9 ap an ac P bp bn bc Q cp cn cc G ps ns cs seed pb kk cb l K79.out K89.out K9.out (HSd.out.below KW9.out) HZS.out (by omega) (HPB6.out.below KB9.out) HBl.out.1 HBl.out.2.1 HBl.out.2.2 HFB.out (by omega)⟩
     rw [HRe.out] at HDN
     clear hn9 hb9
     go_wp2_with fail
     refine HDN.out.mono ?_
     rintro en wx ⟨x1, x2, x3, x4, rfl, hbits, hbx⟩
     have hba : Below wx.heap.size wx (wx.alloc (.cells #[.slice x1.1 x1.2.1 x1.2.2, .slice x2.1 x2.2.1 x2.2.2, .slice x3.1 x3.2.1 x3.2.2, .slice x4.1 x4.2.1 x4.2.2] 51)) := bal
     have HX22 : Hold _ := ⟨Box4.made 51 wx (.slice x1.1 x1.2.1 x1.2.2) (.slice x2.1 x2.2.1 x2.2.2) (.slice x3.1 x3.2.1 x3.2.2) (.slice x4.1 x4.2.1 x4.2.2)⟩
     obtain ⟨wq, hwq⟩ : ∃ wq, wx.alloc (.cells #[.slice x1.1 x1.2.1 x1.2.2, .slice x2.1 x2.2.1 x2.2.2, .slice x3.1 x3.2.1 x3.2.2, .slice x4.1 x4.2.1 x4.2.2] 51) = wq := ⟨_, rfl⟩
     rw [hwq] at hba HX22
     have hbq := bstep hbx hba
     have KBq : Hold _ := ⟨bstep KB9.out hbq⟩
     have KWq : Hold _ := ⟨bstep KW9.out hbq⟩
     have hcO : (convert 23 9 (.slice po ns co)).run Tryz.prog wq = .ok (.string (strOf seed)) wq := convert_in (HRO6.out.below KBq.out).row
     have hcX : (convert 23 9 (.slice ps ns cs)).run Tryz.prog wq = .ok (.string (strOf seed)) wq := convert_in (HSd.out.below KWq.out).row
     obtain ⟨SS, hSS⟩ : ∃ SS, strOf seed = SS := ⟨_, rfl⟩
     rw [hSS] at hcO hcX
     clear hba hbq hbx hbits HDN hSS
     go_wp2
     refine wp_region_duties (by kernel_rfl) (by kernel_rfl)
      [some (.int .i64 (r1 : Nat)), some (.bool true), some (.bool true), some (undef), some (undef), some (undef), some (undef), some (undef), some (undef), some (undef), some (undef), some (undef), some (undef), some (undef), some (undef), some (undef), some (undef), some (undef), some (undef), some (undef), some (undef), some (undef), some (.bool true), some (.bool true)]
      [false, false, false, false, false, false, false, false, false, false, false, false, false, false, false, false, false, false, false, false, false, false, false, false] rfl
      (fun w1 w2 => Below w1.heap.size w1 w2)
      (fun _ w' => Below wq.heap.size wq w')
      (fun i v w' => match i with
       | _ => True)
      ?_ (Below.refl _ _).drew ?_ ?_
     ·intro i v w1 w2 hf hb
      split at hf
      ·trivial
     ·simp only [Duties, Nat.reduceAdd]
      refine ⟨?_, ?_, ?_, ?_, ?_, ?_, ?_, ?_, ?_, ?_, ?_, ?_, ?_, ?_, ?_, ?_, ?_, ?_, ?_, ?_, ?_, ?_, ?_, ?_, trivial⟩
      case refine_1 =>
       intro D sp w' hD hW hdp hbx'
       (with_reducible refine asked_value (w1 := w') (v := .int .i64 (r1 : Nat)) ?_ ?_ ?_)
       ·simp only [Region.wanted]
       ·simp [execOp, Act.eval, go_sem]
       ·exact ⟨rfl, rfl⟩
      case refine_2 =>
       intro D sp w' hD hW hdp hbx'
       (with_reducible refine asked_value (w1 := w') (v := .bool true) ?_ ?_ ?_)
       ·simp only [Region.wanted]
       ·simp [execOp, Act.eval, Act.put, go_sem, hr1]
       ·exact ⟨rfl, rfl⟩
      case refine_3 =>
       intro D sp w' hD hW hdp hbx'
       (with_reducible refine asked_value (w1 := w') (v := .bool true) ?_ ?_ ?_)
       ·simp only [Region.wanted]
       ·simp [execOp, Act.eval, Act.put, go_sem]
       ·exact ⟨rfl, rfl⟩
      case refine_4 =>
       intro D sp w' hD hW hdp hbx'
       (with_reducible refine asked_not ?_ ?_)
       ·(simp [Region.wanted, yielded, Act.put, go_sem] <;> exact fun h => by cases h)
       ·exact ⟨rfl, rfl⟩
      case refine_5 =>
       intro D sp w' hD hW hdp hbx'
       (with_reducible refine asked_not ?_ ?_)
       ·(simp [Region.wanted, yielded, Act.put, go_sem] <;> exact fun h => by cases h)
       ·exact ⟨rfl, rfl⟩
      case refine_6 =>
       intro D sp w' hD hW hdp hbx'
       (with_reducible refine asked_not ?_ ?_)
       ·(simp [Region.wanted, yielded, Act.put, go_sem] <;> exact fun h => by cases h)
       ·exact ⟨rfl, rfl⟩
      case refine_7 =>
       intro D sp w' hD hW hdp hbx'
       (with_reducible refine asked_not ?_ ?_)
       ·(simp [Region.wanted, yielded, Act.put, go_sem] <;> exact fun h => by cases h)
       ·exact ⟨rfl, rfl⟩
      case refine_8 =>
       intro D sp w' hD hW hdp hbx'
       (with_reducible refine asked_not ?_ ?_)
       ·(simp [Region.wanted, yielded, Act.put, go_sem] <;> exact fun h => by cases h)
       ·exact ⟨rfl, rfl⟩
      case refine_9 =>
       intro D sp w' hD hW hdp hbx'
       (with_reducible refine asked_not ?_ ?_)
       ·(simp [Region.wanted, yielded, Act.put, go_sem] <;> exact fun h => by cases h)
       ·exact ⟨rfl, rfl⟩
      case refine_10 =>
       intro D sp w' hD hW hdp hbx'
       (with_reducible refine asked_not ?_ ?_)
       ·(simp [Region.wanted, yielded, Act.put, go_sem] <;> exact fun h => by cases h)
       ·exact ⟨rfl, rfl⟩
      case refine_11 =>
       intro D sp w' hD hW hdp hbx'
       (with_reducible refine asked_not ?_ ?_)
       ·(simp [Region.wanted, yielded, Act.put, go_sem] <;> exact fun h => by cases h)
       ·exact ⟨rfl, rfl⟩
      case refine_12 =>
       intro D sp w' hD hW hdp hbx'
       (with_reducible refine asked_not ?_ ?_)
       ·(simp [Region.wanted, yielded, Act.put, go_sem] <;> exact fun h => by cases h)
       ·exact ⟨rfl, rfl⟩
      case refine_13 =>
       intro D sp w' hD hW hdp hbx'
       (with_reducible refine asked_not ?_ ?_)
       ·(simp [Region.wanted, yielded, Act.put, go_sem] <;> exact fun h => by cases h)
       ·exact ⟨rfl, rfl⟩
      case refine_14 =>
       intro D sp w' hD hW hdp hbx'
       (with_reducible refine asked_not ?_ ?_)
       ·(simp [Region.wanted, yielded, Act.put, go_sem] <;> exact fun h => by cases h)
       ·exact ⟨rfl, rfl⟩
      case refine_15 =>
       intro D sp w' hD hW hdp hbx'
       (with_reducible refine asked_not ?_ ?_)
       ·(simp [Region.wanted, yielded, Act.put, go_sem] <;> exact fun h => by cases h)
       ·exact ⟨rfl, rfl⟩
      case refine_16 =>
       intro D sp w' hD hW hdp hbx'
       (with_reducible refine asked_not ?_ ?_)
       ·(simp [Region.wanted, yielded, Act.put, go_sem] <;> exact fun h => by cases h)
       ·exact ⟨rfl, rfl⟩
      case refine_17 =>
       intro D sp w' hD hW hdp hbx'
       (with_reducible refine asked_not ?_ ?_)
       ·(simp [Region.wanted, yielded, Act.put, go_sem] <;> exact fun h => by cases h)
       ·exact ⟨rfl, rfl⟩
      case refine_18 =>
       intro D sp w' hD hW hdp hbx'
       (with_reducible refine asked_not ?_ ?_)
       ·(simp [Region.wanted, yielded, Act.put, go_sem] <;> exact fun h => by cases h)
       ·exact ⟨rfl, rfl⟩
      case refine_19 =>
       intro D sp w' hD hW hdp hbx'
       (with_reducible refine asked_not ?_ ?_)
       ·(simp [Region.wanted, yielded, Act.put, go_sem] <;> exact fun h => by cases h)
       ·exact ⟨rfl, rfl⟩
      case refine_20 =>
       intro D sp w' hD hW hdp hbx'
       (with_reducible refine asked_not ?_ ?_)
       ·(simp [Region.wanted, yielded, Act.put, go_sem] <;> exact fun h => by cases h)
       ·exact ⟨rfl, rfl⟩
      case refine_21 =>
       intro D sp w' hD hW hdp hbx'
       (with_reducible refine asked_not ?_ ?_)
       ·(simp [Region.wanted, yielded, Act.put, go_sem] <;> exact fun h => by cases h)
       ·exact ⟨rfl, rfl⟩
      case refine_22 =>
       intro D sp w' hD hW hdp hbx'
       (with_reducible refine asked_not ?_ ?_)
       ·(simp [Region.wanted, yielded, Act.put, go_sem] <;> exact fun h => by cases h)
       ·exact ⟨rfl, rfl⟩
      case refine_23 =>
       intro D sp w' hD hW hdp hbx'
       (with_reducible refine asked_value (w1 := w') (v := .bool true) ?_ ?_ ?_)
       ·simp only [Region.wanted]
       ·simp [execOp, Act.eval, Act.put, go_sem]
       ·exact ⟨rfl, rfl⟩
      case refine_24 =>
       intro D sp w' hD hW hdp hbx'
       (with_reducible refine asked_value (w1 := w') (v := .bool true) ?_ ?_ ?_)
       ·simp only [Region.wanted]
       ·simp [execOp, Act.eval, Act.put, go_sem]
       ·exact ⟨rfl, rfl⟩
     ·intro sp wr9 hsp hbx'
      have HBe : Hold _ := ⟨bstep KWq.out hbx'⟩
      clear hsp hbx'
      simp only [frameOf]
      go_simp
      go_wp2
      go_ret
      exact ⟨rfl, HBe.out⟩
end
end Go.Proofs.YtcbhgfiafamflaaGreatDoor
