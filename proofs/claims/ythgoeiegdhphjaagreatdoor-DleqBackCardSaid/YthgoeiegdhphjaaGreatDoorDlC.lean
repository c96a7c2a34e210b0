/- A claim and its proof (dleq.Prove). -/
import Derived.Test.YthgoeiegdhphjaaGreatDoorDlA
import Derived.Test.YthgoeiegdhphjaaGreatDoorSgC
set_option maxRecDepth 1000000
set_option maxHeartbeats 16000000
set_option linter.unusedSimpArgs false
set_option linter.unusedVariables false
namespace Go.Proofs.YthgoeiegdhphjaaGreatDoor
open Go Go.RowKit Go.Proofs.YthgoeiegdhphjaaGreatDoor.Flow
def litDleq (w : World) : World := w.alloc (.cells #[.int .u8 100, .int .u8 108, .int .u8 101, .int .u8 113] 5 (4, 5))
theorem litDleq_below (w : World) : Below w.heap.size w (litDleq w) := bal
theorem litDleq_size (w : World) : (litDleq w).heap.size = w.heap.size + 1 := by simp [litDleq]
theorem litDleq_part (w : World) : PartOk (litDleq w) ⟨some ⟨w.heap.size, 0, none⟩, 4, 4, dlW⟩ := by
 have h1 : (litDleq w).heap[w.heap.size]? = some (.cells #[.int .u8 100, .int .u8 108, .int .u8 101, .int .u8 113] 5 (4, 5)) := by
  unfold litDleq
  rw [heap_alloc_new]
 exact ⟨marked_rowM (bs := dlW) h1 rfl (by decide : 4 <= 9223372036854775807), (by decide : ∀ x ∈ dlW, x < 256)⟩
theorem dlchal_fit {w : World} {b P Q G H A B Y Z U V : Nat} {xa xb xy xz xu xv : Option Addr × Nat × Nat} {pm : Option Addr} {nm cm : Nat} {msg : List Nat} (hg : GroupAt w b P Q G H) (hT : Tabs w) (hC : AtC A B Y Z xa xb xy xz w) (hU : At3 w xu U) (hV : At3 w xv V)
  (lA : A < P) (lB : B < P) (lY : Y < P) (lZ : Z < P) (lU : U < P) (lV : V < P) (hs : bsize P <= 16) (hm : PartOk w ⟨pm, nm, cm, msg⟩) :
  Calls Tryz.prog 115 #[.agg #[.slice xa.1 xa.2.1 xa.2.2, .slice xb.1 xb.2.1 xb.2.2, .slice xy.1 xy.2.1 xy.2.2, .slice xz.1 xz.2.1 xz.2.2], .pointer (some ⟨b, 0, none⟩), .agg #[.slice xu.1 xu.2.1 xu.2.2], .agg #[.slice xv.1 xv.2.1 xv.2.2], .slice pm nm cm] w fun en w' => ∃ x, en = .returned x /\ Fit 33 (dlCh P Q A B Y Z U V msg) x w' /\ Below w.heap.size w w' := by
 have hb0 : Below w.heap.size w (w.alloc (.cells #[.slice xa.1 xa.2.1 xa.2.2, .slice xb.1 xb.2.1 xb.2.2, .slice xy.1 xy.2.1 xy.2.2, .slice xz.1 xz.2.1 xz.2.2] 83)) := bal
 have hx0 := Box4.made 83 w (.slice xa.1 xa.2.1 xa.2.2) (.slice xb.1 xb.2.1 xb.2.2) (.slice xy.1 xy.2.1 xy.2.2) (.slice xz.1 xz.2.1 xz.2.2)
 have hz0 : (w.alloc (.cells #[.slice xa.1 xa.2.1 xa.2.2, .slice xb.1 xb.2.1 xb.2.2, .slice xy.1 xy.2.1 xy.2.2, .slice xz.1 xz.2.1 xz.2.2] 83)).heap.size = w.heap.size + 1 := by simp
 have hbx := NB3.mk3 (w.alloc (.cells #[.slice xa.1 xa.2.1 xa.2.2, .slice xb.1 xb.2.1 xb.2.2, .slice xy.1 xy.2.1 xy.2.2, .slice xz.1 xz.2.1 xz.2.2] 83)) (.slice xu.1 xu.2.1 xu.2.2) (.slice xv.1 xv.2.1 xv.2.2) (.slice none 0 0)
 have q0 := hbx.b0
 have q1 := hbx.b1
 have q2 := hbx.b2
 have hbl := bstep hb0 hbx.bel
 have hx4 := hx0.below hbx.bel hx0.lt
 rw [hz0] at q0 q1 q2
 have hzs : ((((w.alloc (.cells #[.slice xa.1 xa.2.1 xa.2.2, .slice xb.1 xb.2.1 xb.2.2, .slice xy.1 xy.2.1 xy.2.2, .slice xz.1 xz.2.1 xz.2.2] 83)).alloc (.cells #[.slice xu.1 xu.2.1 xu.2.2] 36)).alloc (.cells #[.slice xv.1 xv.2.1 xv.2.2] 36)).alloc (.cells #[.slice none 0 0] 36)).heap.size = w.heap.size + 1 + 1 + 1 + 1 := by simp
 obtain ⟨wa, hwa⟩ : ∃ wa, (((w.alloc (.cells #[.slice xa.1 xa.2.1 xa.2.2, .slice xb.1 xb.2.1 xb.2.2, .slice xy.1 xy.2.1 xy.2.2, .slice xz.1 xz.2.1 xz.2.2] 83)).alloc (.cells #[.slice xu.1 xu.2.1 xu.2.2] 36)).alloc (.cells #[.slice xv.1 xv.2.1 xv.2.2] 36)).alloc (.cells #[.slice none 0 0] 36) = wa := ⟨_, rfl⟩
 rw [hwa] at q0 q1 q2 hbl hx4 hzs
 have HBL := hol hbl
 have hcv := Joins.run_convert_bytes_const_at (P := Tryz.prog) wa 60 5 #[.int .u8 100, .int .u8 108, .int .u8 101, .int .u8 113] 4 4 wa.heap.size rfl Tryz.underlying60 Tryz.underlying5
 have hTr : Trip w 33 [xa, xb, xy, xz, xu, xv] [A, B, Y, Z, U, V] := by
  have lim : ∀ N, N < P -> N < B32 33 := fun N h => Nat.lt_trans h hg.lims.2.1
  exact ((((((Trip.nil w 33).snoc hC.1 (lim _ lA)).snoc hC.2.1 (lim _ lB)).snoc hC.2.2.1 (lim _ lY)).snoc hC.2.2.2 (lim _ lZ)).snoc hU (lim _ lU)).snoc hV (lim _ lV)
 have hNl : ∀ N ∈ [A, B, Y, Z, U, V], N < P := by
  intro N hN
  simp only [List.mem_cons, List.not_mem_nil, or_false] at hN
  rcases hN with rfl | rfl | rfl | rfl | rfl | rfl <;> assumption
 have hus : (#[.slice xa.1 xa.2.1 xa.2.2, .slice xb.1 xb.2.1 xb.2.2, .slice xy.1 xy.2.1 xy.2.2, .slice xz.1 xz.2.1 xz.2.2, .slice xu.1 xu.2.1 xu.2.2, .slice xv.1 xv.2.1 xv.2.2] : Array Value) = ([xa, xb, xy, xz, xu, xv].map sv).toArray := rfl
 obtain ⟨sz, hsz⟩ : ∃ s, bsize P = s := ⟨_, rfl⟩
 have HCH : Hold (∀ L : List Part, L.map (·.bs) = dlW :: ([A, B, Y, Z, U, V].map fun N => beOf N sz) ++ [msg] -> be (sha (saidOf (L.map (·.bs)))) % Q = dlCh P Q A B Y Z U V msg) := ⟨fun L h => by
  rw [h]
  subst hsz
  rfl⟩
 obtain ⟨CH, hCH⟩ : ∃ C, dlCh P Q A B Y Z U V msg = C := ⟨_, rfl⟩
 rw [hCH] at HCH ⊢
 have HCl : Hold (CH < B32 33) := ⟨by rw [<- hCH]; exact Nat.lt_trans (dlCh_lt (by have := hg.lims.2.2.1; omega)) hg.lims.2.2.2⟩
 obtain ⟨Ns, hNs⟩ : ∃ l, [A, B, Y, Z, U, V] = l := ⟨_, rfl⟩
 obtain ⟨us, hus2⟩ : ∃ l, [xa, xb, xy, xz, xu, xv] = l := ⟨_, rfl⟩
 have hnl : Ns.length = 6 := by rw [<- hNs]; rfl
 rw [hNs] at hTr hNl HCH
 rw [hus2] at hTr hus
 rw [hsz] at hs
 have HTr := hol hTr
 have HNl := hol hNl
 have HNL := hol hnl
 have HSz := hol hsz
 have HSs := hol hs
 have HG0 := hol hg
 have HT0 := hol hT
 have HM0 := hol hm
 have HZ0 := hol q2
 have HWA : Hold (w.heap.size + 1 + 1 + 1 < wa.heap.size) := ⟨by omega⟩
 -- the worlds up to the loop
 have hb1 := litDleq_below wa
 have hP1 := litDleq_part wa
 have hz1 := litDleq_size wa
 obtain ⟨w1, hw1⟩ : ∃ W, wa.alloc (.cells #[.int .u8 100, .int .u8 108, .int .u8 101, .int .u8 113] 5 (4, 5)) = W := ⟨_, rfl⟩
 have hw1' : litDleq wa = w1 := hw1
 rw [hw1'] at hb1 hP1 hz1
 have hO2 := PartsO.one (B := wa.heap.size) (w := w1) (by omega) hP1
 rw [hz1] at hO2
 have hb2 : Below w1.heap.size w1 (w1.alloc (.cells #[.slice (some ⟨wa.heap.size, 0, none⟩) 4 4] 60)) := bal
 have hz2 : (w1.alloc (.cells #[.slice (some ⟨wa.heap.size, 0, none⟩) 4 4] 60)).heap.size = wa.heap.size + 1 + 1 := by simp [hz1]
 obtain ⟨w2, hw2⟩ : ∃ W, w1.alloc (.cells #[.slice (some ⟨wa.heap.size, 0, none⟩) 4 4] 60) = W := ⟨_, rfl⟩
 rw [hw2] at hb2 hz2
 have hO2' : PartsO w2 wa.heap.size (.slice (some ⟨wa.heap.size + 1, 0, none⟩) 1 1) [⟨some ⟨wa.heap.size, 0, none⟩, 4, 4, dlW⟩] := by rw [<- hw2]; exact hO2
 have hb3 : Below w2.heap.size w2 (w2.alloc (.cells #[.slice xa.1 xa.2.1 xa.2.2, .slice xb.1 xb.2.1 xb.2.2, .slice xy.1 xy.2.1 xy.2.2, .slice xz.1 xz.2.1 xz.2.2, .slice xu.1 xu.2.1 xu.2.2, .slice xv.1 xv.2.1 xv.2.2] 36)) := bal
 have hr3 : (w2.alloc (.cells #[.slice xa.1 xa.2.1 xa.2.2, .slice xb.1 xb.2.1 xb.2.2, .slice xy.1 xy.2.1 xy.2.2, .slice xz.1 xz.2.1 xz.2.2, .slice xu.1 xu.2.1 xu.2.2, .slice xv.1 xv.2.1 xv.2.2] 36)).heap[w2.heap.size]? = some (.cells (us.map sv).toArray 36 (0, 0)) := by rw [<- hus]; exact heap_alloc_new w2 _
 obtain ⟨w3, hw3⟩ : ∃ W, w2.alloc (.cells #[.slice xa.1 xa.2.1 xa.2.2, .slice xb.1 xb.2.1 xb.2.2, .slice xy.1 xy.2.1 xy.2.2, .slice xz.1 xz.2.1 xz.2.2, .slice xu.1 xu.2.1 xu.2.2, .slice xv.1 xv.2.1 xv.2.2] 36) = W := ⟨_, rfl⟩
 rw [hw3] at hb3 hr3
 rw [hz2] at hr3
 have HR3 := hol hr3
 have HO3 := hol (hO2'.below hb3)
 have HB3 : Hold (Below wa.heap.size wa w3) := ⟨bstep hb1 (bstep hb2 hb3)⟩
 have hc2 := hx4.below (bstep hb1 hb2) hx4.lt
 obtain ⟨ca0, ca1, ca2, ca3⟩ := hc2.cells
 have cu := (q0.below (bstep hb1 hb2) q0.lt).cell
 have cv := (q1.below (bstep hb1 hb2) q1.lt).cell
 clear hzs hbx hb0 hz0 hx0 hg hT hC hU hV lA lB lY lZ lU lV hs hm hTr hNl hus hus2 hNs hnl hsz hCH q2 hb1 hP1 hw1' hO2 hb2 hO2' hb3 hr3 hc2
 go_enter Tryz.func115, Tryz.ntmps115
 go_wp2
 clear ca0 ca1 ca2 ca3 cu cv hcv
 go_loopw [11, 29] (fun pv iv wr => ∃ (k : Nat) (L : List Part), k <= 6 /\ iv = .int .i64 k /\ Hold (PartsO wr wa.heap.size pv L) /\ Hold (L.map (·.bs) = dlW :: ((Ns.take k).map fun N => beOf N sz)) /\ Hold (pv.ownBlock ≠ some (wa.heap.size + 1 + 1)) /\ Hold (wr.heap[wa.heap.size + 1 + 1]? = some (.cells (us.map sv).toArray 36 (0, 0))) /\ Hold (Below wa.heap.size wa wr)) (fun _ iv _ => 6 - (intOf iv).toNat)
 case atStart => exact ⟨0, _, by omega, rfl, HO3, ⟨rfl⟩, ⟨by simp [Value.ownBlock]⟩, HR3, HB3⟩
 case round =>
  obtain ⟨k, L, hk, rfl, HO, HL, HNE, HR, HBw⟩ := hrel
  have HLen : Hold (L.length = k + 1) := ⟨by
   have h1 := congrArg List.length HL.out
   rw [List.length_map, List.length_cons, List.length_map, List.length_take, HNL.out] at h1
   omega⟩
  by_cases hkn : k < 6
  ·obtain ⟨N, hN⟩ : ∃ N, Ns[k]? = some N := ⟨Ns[k]'(by rw [HNL.out]; exact hkn), List.getElem?_eq_getElem _⟩
   obtain ⟨x, hx1, hx2, hx3⟩ := HTr.out.at_ k N hN
   have hck : wr.cell? ⟨wa.heap.size + 1 + 1, k, none⟩ = some (.slice x.1 x.2.1 x.2.2) := by
    simp [World.cell?, HR.out, hx1, sv]
   have hkn' : (k : Int) < 6 := by omega
   have HTk : Hold (Ns.take (k + 1) = Ns.take k ++ [N]) := ⟨snoc_take hN⟩
   have HNp : Hold (N < P) := ⟨HNl.out N (List.mem_of_getElem? hN)⟩
   have hbB : Below wr.heap.size wr (wr.alloc (.cells #[.slice x.1 x.2.1 x.2.2] 36)) := bal
   have hXB := NatBox.made wr (.slice x.1 x.2.1 x.2.2)
   obtain ⟨wb, hwb⟩ : ∃ W, wr.alloc (.cells #[.slice x.1 x.2.1 x.2.2] 36) = W := ⟨_, rfl⟩
   rw [hwb] at hbB hXB
   have HXB := hol hXB
   have HBB := hol hbB
   have HBt := hol (bstep HBL.out (bstep HBw.out hbB))
   have HFN : Hold (Fit 33 N (.agg #[.slice x.1 x.2.1 x.2.2]) wb) := ⟨Fit.of (hx2.below HBt.out) hx3⟩
   have cX := hXB.cell
   clear hx1 hx2 hx3 hN hbB hXB
   go_wp2_with fail
   refine (member_fit (HG0.out.below HBt.out) HFN.out (by decide) HNp.out HSz.out HSs.out).mono ?_
   rintro en wc ⟨g, rfl, hg1, hblk, hbc⟩
   have hbd : Below wc.heap.size wc (wc.alloc (.cells #[.slice (some ⟨g, 0, none⟩) sz sz] 60)) := bal
   have hcd : (wc.alloc (.cells #[.slice (some ⟨g, 0, none⟩) sz sz] 60)).cell? ⟨wc.heap.size, 0, none⟩ = some (.slice (some ⟨g, 0, none⟩) sz sz) := by simp [go_sem]
   obtain ⟨wd, hwd⟩ : ∃ W, wc.alloc (.cells #[.slice (some ⟨g, 0, none⟩) sz sz] 60) = W := ⟨_, rfl⟩
   rw [hwd] at hbd hcd
   have hbrd := bstep HBB.out (bstep hbc hbd)
   have hpk : PartOk wd ⟨some ⟨g, 0, none⟩, sz, sz, beOf N sz⟩ := (blk_part hblk (by have := HSs.out; omega)).below hbd
   obtain ⟨v9, w9, happ, ho9, hg9, hmv⟩ := (HO.out.below hbrd).app (P := ⟨some ⟨g, 0, none⟩, sz, sz, beOf N sz⟩) (c := 1) (Nat.le_trans HBw.out.size hbrd.size) hcd hpk
    (fun _ q hq e => by
     cases hq
     have h1 := (ownsRow_block HO.out.own _ e).2
     have h2 := HBB.out.size
     simp only at h1
     omega) (by have := HLen.out; omega) 203
   have HO9 := hol ho9
   have HB9 : Hold (Below wa.heap.size wa w9) := ⟨(bstep HBw.out hbrd).grown hg9 (Nat.le_trans HBw.out.size hbrd.size) fun g hg => (ownsRow_block HO.out.own g hg).1⟩
   have hrl := (Array.getElem?_eq_some_iff.1 HR.out).1
   have HR9 : Hold (w9.heap[wa.heap.size + 1 + 1]? = some (.cells (us.map sv).toArray 36 (0, 0))) := ⟨by
    rw [hg9.block _ (Nat.lt_of_lt_of_le hrl hbrd.size) (fun e => HNE.out e.symm), hbrd.block _ hrl]
    exact HR.out⟩
   have HNE9 : Hold (v9.ownBlock ≠ some (wa.heap.size + 1 + 1)) := ⟨fun e => by
    rcases hmv with h1 | h1
    ·rw [h1] at e; exact HNE.out e
    ·have h2 := h1 _ e
     have h3 := hbrd.size
     omega⟩
   have HL9 : Hold ((L ++ [(⟨some ⟨g, 0, none⟩, sz, sz, beOf N sz⟩ : Part)]).map (·.bs) = dlW :: ((Ns.take (k + 1)).map fun N => beOf N sz)) := ⟨by
    rw [List.map_append, HL.out, HTk.out, List.map_append]
    rfl⟩
   clear hg1 hblk hbc hbd hcd hbrd hpk ho9 hg9 hmv hrl HFN HXB cX hck
   go_wp2_with (at_builtin; refine Lib.wpList_append_run _ rfl _ _ _ _ rfl _ _ rfl rfl _ _ happ ?_; refine Paused.out ?_)
   refine ⟨?_⟩
   clear happ
   go_wp2
   go_roundw
   case rel => exact ⟨k + 1, _, by omega, by go_num, HO9, HL9, HNE9, HR9, HB9⟩
   case measure => simp [intOf]; omega
  ·obtain rfl : k = 6 := by omega
   have HTk : Hold (Ns.take 6 = Ns) := ⟨List.take_of_length_le (by rw [HNL.out]; exact Nat.le_refl _)⟩
   have hbd : Below wr.heap.size wr (wr.alloc (.cells #[.slice pm nm cm] 60)) := bal
   have hcd : (wr.alloc (.cells #[.slice pm nm cm] 60)).cell? ⟨wr.heap.size, 0, none⟩ = some (.slice pm nm cm) := by simp [go_sem]
   obtain ⟨wd, hwd⟩ : ∃ W, wr.alloc (.cells #[.slice pm nm cm] 60) = W := ⟨_, rfl⟩
   rw [hwd] at hbd hcd
   have hbwd := bstep HBL.out (bstep HBw.out hbd)
   obtain ⟨v9, w9, happ, ho9, hg9, _⟩ := (HO.out.below hbd).app (P := ⟨pm, nm, cm, msg⟩) (c := 1) (Nat.le_trans HBw.out.size hbd.size) hcd (HM0.out.below hbwd)
    (fun h0 q hq e => by
     have h1 := (ownsRow_block HO.out.own _ e).1
     have h2 := HM0.out.lt h0 q hq
     have h3 := HWA.out
     omega) (by have := HLen.out; omega) 203
   obtain ⟨p9, c9, e9, hin⟩ := ho9.in_
   have HB9 : Hold (Below wa.heap.size wa w9) := ⟨(bstep HBw.out hbd).grown hg9 (Nat.le_trans HBw.out.size hbd.size) fun g hg => (ownsRow_block HO.out.own g hg).1⟩
   have hm9 : (L ++ [(⟨pm, nm, cm, msg⟩ : Part)]).map (·.bs) = dlW :: (Ns.map fun N => beOf N sz) ++ [msg] := by
    rw [List.map_append, HL.out, HTk.out]
    rfl
   have hl9 : (L ++ [(⟨pm, nm, cm, msg⟩ : Part)]).length = 8 := by rw [List.length_append, HLen.out]; rfl
   rw [hl9] at e9 hin
   have HIN := hol hin
   have HCH9 := hol (HCH.out _ hm9)
   clear hbd hcd hbwd ho9 hg9 hin hm9 hl9
   subst e9
   go_wp2_with (at_builtin; refine Lib.wpList_append_run _ rfl _ _ _ _ rfl _ _ rfl rfl _ _ happ ?_; refine Paused.out ?_)
   refine ⟨?_⟩
   clear happ hwd
   have HBw9 := hol (HBL.out.trans (HB9.out.mono (by have := HWA.out; omega)))
   go_wp2_with fail
   refine (chal_fit (HG0.out.below HBw9.out) (HT0.out.below HBw9.out HT0.out.size) HIN.out).mono ?_
   rintro en w10 ⟨_, rfl, ⟨p5, n5, c5, rfl, h5, l5⟩, hb4⟩
   rw [HCH9.out] at h5 l5
   have hz := (HZ0.out.below HB9.out HWA.out).below hb4 (Nat.lt_of_lt_of_le HWA.out HB9.out.size)
   have fz := hz.free
   have kz := hz.cell
   have ks := (hz.set (.slice p5 n5 c5)).cell
   have HN : Hold (Fit 33 CH (.agg #[.slice p5 n5 c5]) (w10.setCell ⟨w.heap.size + 1 + 1 + 1, 0, none⟩ (.slice p5 n5 c5))) := ⟨Fit.of (h5.store hz _) l5⟩
   have HBf : Hold (Below w.heap.size w (w10.setCell ⟨w.heap.size + 1 + 1 + 1, 0, none⟩ (.slice p5 n5 c5))) := ⟨(bstep HBw9.out hb4).setCell (show w.heap.size <= w.heap.size + 1 + 1 + 1 by omega) _⟩
   clear h5 l5 hb4 hz
   go_wp2
   exact bodyPost_ret (v := .agg #[.slice p5 n5 c5]) (by simp [results, Tryz.results115, go_sem, ks]) rfl ⟨_, rfl, HN.out, HBf.out⟩
theorem PartOk.kn {B : Nat} {P : Part} {w w' : World} (h : PartOk w P) (hk : KN B w w') : PartOk w' P := by
 refine ⟨⟨h.row.len, h.row.cap, h.row.max, fun h0 => ?_⟩, h.bytes⟩
 obtain ⟨k1, k2, k3, k4⟩ := h.row.row h0
 refine ⟨k1, k2, k3, ?_⟩
 rcases k4 with e | ⟨b, off, h1, h2, h3⟩
 ·exact .inl e
 ·refine .inr ⟨b, off, h1, Nat.lt_of_lt_of_le h2 hk.k.bel.size, fun i x hx => ?_⟩
  have hc := h3 i x hx
  have hblk : w'.heap[b]? = w.heap[b]? := by
   have hc2 := hc
   unfold World.cell? at hc2
   dsimp only at hc2
   cases ho : w.heap[b]? with
   | none => rw [ho] at hc2; cases hc2
   | some o =>
    rw [ho] at hc2
    refine hk.blk b o ho fun q m d e => ?_
    subst e
    dsimp only at hc2
    cases hj : off + i with
    | zero => rw [hj] at hc2; simp at hc2
    | succ j => rw [hj] at hc2; simp at hc2
  rw [World.cell?_of_block (a := ⟨b, off + i, none⟩) hblk]
  exact hc
def PrtK (n : Nat) (bs : List Nat) (v : Value) (w : World) : Prop := ∃ p c, v = .slice p n c /\ PartOk w ⟨p, n, c, bs⟩
theorem PrtK.kn {B n : Nat} {bs : List Nat} {v : Value} {w w' : World} (h : PrtK n bs v w) (hk : KN B w w') : PrtK n bs v w' := let ⟨p, c, h1, h2⟩ := h; ⟨p, c, h1, h2.kn hk⟩
theorem trip2 {w : World} {e A B : Nat} {x y : Option Addr × Nat × Nat} (h1 : At3 w x A) (h2 : At3 w y B) (l1 : A < B32 e) (l2 : B < B32 e) : Trip w e [x, y] [A, B] := ((Trip.nil w e).snoc h1 l1).snoc h2 l2
theorem prove_ok {w : World} {b P Q G H e A B X : Nat} {va vb vx : Value} {pm : Option Addr} {nm cm : Nat} {msg : List Nat} (hg : GroupAt w b P Q G H) (hT : Tabs w) (ha : Fit 33 A va w) (hb : Fit 33 B vb w) (hx : Fit e X vx w) (he : e <= 30000) (hX : X < Q) (mA : sigMem P Q A) (mB : sigMem P Q B) (hP : bsize P <= 16) (hQ : bsize Q <= 16) (hm : PartOk w ⟨pm, nm, cm, msg⟩) (hz : pm = none -> cm = 0) (hn : nm <= 1000) :
  Calls Tryz.prog 55 #[.pointer (some ⟨b, 0, none⟩), va, vb, vx, .slice pm nm cm] w fun en w' => ∃ c u, en = .returned (.tuple #[c, u, .int .i64 0]) /\ ClV A B (A ^ X % P) (B ^ X % P) c w' /\ OwnIs 0 (dlB P Q A B X msg) u w' /\ Below w.heap.size w w' := by
 obtain ⟨pa, na, ca, rfl, h1, h2⟩ := fit_cases ha
 obtain ⟨pb, nb, cb, rfl, h3, h4⟩ := fit_cases hb
 obtain ⟨px, nx, cx, rfl, h5, h6⟩ := fit_cases hx
 have hbx := NB3.mk3 w (.slice pa na ca) (.slice pb nb cb) (.slice px nx cx)
 have hz3 : (((w.alloc (.cells #[.slice pa na ca] 36)).alloc (.cells #[.slice pb nb cb] 36)).alloc (.cells #[.slice px nx cx] 36)).heap.size = w.heap.size + 1 + 1 + 1 := by simp
 obtain ⟨w0, hw0⟩ : ∃ wa, ((w.alloc (.cells #[.slice pa na ca] 36)).alloc (.cells #[.slice pb nb cb] 36)).alloc (.cells #[.slice px nx cx] 36) = wa := ⟨_, rfl⟩
 rw [hw0] at hbx hz3
 have hb0 : Below w0.heap.size w0 (w0.alloc (.cells #[.slice none 0 0, .slice none 0 0, .slice none 0 0, .slice none 0 0] 83)) := bal
 have hz0 : (w0.alloc (.cells #[.slice none 0 0, .slice none 0 0, .slice none 0 0, .slice none 0 0] 83)).heap[w0.heap.size]? = some (z4 83) := heap_alloc_new w0 _
 obtain ⟨wa, hwa⟩ : ∃ wa, w0.alloc (.cells #[.slice none 0 0, .slice none 0 0, .slice none 0 0, .slice none 0 0] 83) = wa := ⟨_, rfl⟩
 rw [hwa] at hb0 hz0
 rw [hz3] at hz0
 have hbel := bstep hbx.bel hb0
 have HXA := hol (hbx.b0.below hb0 hbx.b0.lt)
 have HXB := hol (hbx.b1.below hb0 hbx.b1.lt)
 have HXX := hol (hbx.b2.below hb0 hbx.b2.lt)
 have HB := hol hbel
 have HFA := hol ((Fit.of h1 h2).below hbel)
 have HFB := hol ((Fit.of h3 h4).below hbel)
 have HFX := hol ((Fit.of h5 h6).below hbel)
 have HG := hol (hg.below hbel)
 have HT := hol (hT.below hbel hT.size)
 have HM := hol (hm.below hbel)
 have HPs := hol hP
 have HQs := hol hQ
 have HZ0 := hol hz0
 have HWS : Hold ((w.heap.size + 1 + 1 + 1) < wa.heap.size) := ⟨(Array.getElem?_eq_some_iff.1 hz0).1⟩
 have HG0 := hol hg
 have HZM := hol hz
 have HNM := hol hn
 have HAl := hol mA.2.1
 have HBl := hol mB.2.1
 have HXl := hol hX
 have HP2 := hg.lims.1
 have HQ2 := hg.lims.2.2.1
 have HQl := hol hg.lims.2.2.2
 have hPl := hg.lims.2.1
 have HIN := hol (decide_eq_true hX)
 have HMB : Hold ([A, B].all (memB P Q) = true) := ⟨by
  simp only [List.all_cons, List.all_nil, Bool.and_true, Bool.and_eq_true]
  exact ⟨memB_iff.2 mA, memB_iff.2 mB⟩⟩
 obtain ⟨MM, hMM⟩ : ∃ M, dlMsg P A B msg = M := ⟨_, rfl⟩
 obtain ⟨LL, hLL⟩ : ∃ L, MM.length = L := ⟨_, rfl⟩
 obtain ⟨Y, hY⟩ : ∃ Y, A ^ X % P = Y := ⟨_, rfl⟩
 obtain ⟨Z, hZ⟩ : ∃ Y, B ^ X % P = Y := ⟨_, rfl⟩
 obtain ⟨K, hK⟩ : ∃ K, sigK Q X MM = K := ⟨_, rfl⟩
 obtain ⟨U, hU⟩ : ∃ W, A ^ K % P = W := ⟨_, rfl⟩
 obtain ⟨V, hV⟩ : ∃ W, B ^ K % P = W := ⟨_, rfl⟩
 obtain ⟨CC, hCC⟩ : ∃ C, dlCh P Q A B Y Z U V msg = C := ⟨_, rfl⟩
 obtain ⟨SS, hSS⟩ : ∃ S, (K + CC * X % Q) % Q = S := ⟨_, rfl⟩
 obtain ⟨SB, hSB⟩ : ∃ S, dlB P Q A B X msg = S := ⟨_, rfl⟩
 have HSBE : Hold (beOf CC (bsize Q) ++ beOf SS (bsize Q) = SB) := ⟨by
  rw [<- hSB]
  unfold dlB dlS dlC dlK
  rw [hMM, hK, hU, hV, hY, hZ, hCC, hSS]⟩
 have HMM := hol hMM
 have HLL := hol hLL
 have HYE := hol hY
 have HZE := hol hZ
 have HKE := hol hK
 have HUE := hol hU
 have HVE := hol hV
 have HCE := hol hCC
 have HSE := hol hSS
 have HYl : Hold (Y < P) := ⟨by rw [<- hY]; exact Nat.mod_lt _ (by omega)⟩
 have HZl : Hold (Z < P) := ⟨by rw [<- hZ]; exact Nat.mod_lt _ (by omega)⟩
 have HUl : Hold (U < P) := ⟨by rw [<- hU]; exact Nat.mod_lt _ (by omega)⟩
 have HVl : Hold (V < P) := ⟨by rw [<- hV]; exact Nat.mod_lt _ (by omega)⟩
 have HCl : Hold (CC < Q) := ⟨by rw [<- hCC]; exact dlCh_lt (by omega)⟩
 have HSl : Hold (SS < Q) := ⟨by rw [<- hSS]; exact Nat.mod_lt _ (by omega)⟩
 have HKb : Hold (K < B32 33) := ⟨by rw [<- hK]; exact Nat.lt_trans (sigK_lt HQ2) HQl.out⟩
 have HCb : Hold (CC < B32 33) := ⟨Nat.lt_trans HCl.out HQl.out⟩
 rw [hSB, hY, hZ]
 have c0 := (hbx.b2.below hb0 hbx.b2.lt).cell
 clear hMM hLL hY hZ hK hU hV hCC hSS hSB h1 h2 h3 h4 h5 h6 hbx hg ha hb hx hm hz hn hb0 hz0 hbel hX mA mB hT hPl
 go_enter Tryz.func55, Tryz.ntmps55
 go_wp2_with fail
 refine (isin_fit (QAt.of HG.out) HFX.out he).mono ?_
 rintro en w1 ⟨rfl, hb⟩
 rw [HIN.out]
 have HZ1 : Hold (w1.heap[(w.heap.size + 1 + 1 + 1)]? = some (z4 83)) := ⟨by rw [hb.block _ HWS.out]; exact HZ0.out⟩
 have HWS1 : Hold ((w.heap.size + 1 + 1 + 1) < w1.heap.size) := ⟨Nat.lt_of_lt_of_le HWS.out hb.size⟩
 have HXA_ := HXA.out.below hb HXA.out.lt
 have HXB_ := HXB.out.below hb HXB.out.lt
 have HXX_ := HXX.out.below hb HXX.out.lt
 have HFA_ := HFA.out.below hb
 have HFB_ := HFB.out.below hb
 have HFX_ := HFX.out.below hb
 have HG_ := HG.out.below hb
 have HT_ := HT.out.below hb HT.out.size
 have HM_ := HM.out.below hb
 have HB_ := bstep HB.out hb
 clear HXA HXB HXX HFA HFB HFX HG HT HM HB
 have HXA := hol HXA_
 have HXB := hol HXB_
 have HXX := hol HXX_
 have HFA := hol HFA_
 have HFB := hol HFB_
 have HFX := hol HFX_
 have HG := hol HG_
 have HT := hol HT_
 have HM := hol HM_
 have HB := hol HB_
 clear HXA_ HXB_ HXX_ HFA_ HFB_ HFX_ HG_ HT_ HM_ HB_
 clear hb c0 HZ0 HWS
 have c1 := HXA.out.cell
 have c2 := HXB.out.cell
 have hb2 : Below w1.heap.size w1 (w1.alloc (.cells #[.slice pa na ca, .slice pb nb cb] 36)) := bal
 have hr2 : (w1.alloc (.cells #[.slice pa na ca, .slice pb nb cb] 36)).heap[w1.heap.size]? = some (.cells #[.slice pa na ca, .slice pb nb cb] 36 (0, 0)) := heap_alloc_new w1 _
 obtain ⟨w2, hw2⟩ : ∃ W, w1.alloc (.cells #[.slice pa na ca, .slice pb nb cb] 36) = W := ⟨_, rfl⟩
 rw [hw2] at hb2 hr2
 have HZ2 : Hold (w2.heap[(w.heap.size + 1 + 1 + 1)]? = some (z4 83)) := ⟨by rw [hb2.block _ HWS1.out]; exact HZ1.out⟩
 have HWS2 : Hold ((w.heap.size + 1 + 1 + 1) < w2.heap.size) := ⟨Nat.lt_of_lt_of_le HWS1.out hb2.size⟩
 have HXA_ := HXA.out.below hb2 HXA.out.lt
 have HXB_ := HXB.out.below hb2 HXB.out.lt
 have HXX_ := HXX.out.below hb2 HXX.out.lt
 have HFA_ := HFA.out.below hb2
 have HFB_ := HFB.out.below hb2
 have HFX_ := HFX.out.below hb2
 have HG_ := HG.out.below hb2
 have HT_ := HT.out.below hb2 HT.out.size
 have HM_ := HM.out.below hb2
 have HB_ := bstep HB.out hb2
 clear HXA HXB HXX HFA HFB HFX HG HT HM HB
 have HXA := hol HXA_
 have HXB := hol HXB_
 have HXX := hol HXX_
 have HFA := hol HFA_
 have HFB := hol HFB_
 have HFX := hol HFX_
 have HG := hol HG_
 have HT := hol HT_
 have HM := hol HM_
 have HB := hol HB_
 clear HXA_ HXB_ HXX_ HFA_ HFB_ HFX_ HG_ HT_ HM_ HB_
 have HPL := hol (plist_row (us := [(pa, na, ca), (pb, nb, cb)]) (Ns := [A, B]) hr2 (trip2 (fit_nat HFA.out) (fit_nat HFB.out) HFA.out.lim HFB.out.lim) (show 2 <= 1000000 by decide))
 clear hb2 hr2 HZ1 HWS1
 go_wp2_with fail
 clear c1 c2
 refine (aremem_fit HG.out HPL.out (by decide)).mono ?_
 rintro en w3 ⟨rfl, hb⟩
 rw [HMB.out]
 have HZ3 : Hold (w3.heap[(w.heap.size + 1 + 1 + 1)]? = some (z4 83)) := ⟨by rw [hb.block _ HWS2.out]; exact HZ2.out⟩
 have HWS3 : Hold ((w.heap.size + 1 + 1 + 1) < w3.heap.size) := ⟨Nat.lt_of_lt_of_le HWS2.out hb.size⟩
 have HXA_ := HXA.out.below hb HXA.out.lt
 have HXB_ := HXB.out.below hb HXB.out.lt
 have HXX_ := HXX.out.below hb HXX.out.lt
 have HFA_ := HFA.out.below hb
 have HFB_ := HFB.out.below hb
 have HFX_ := HFX.out.below hb
 have HG_ := HG.out.below hb
 have HT_ := HT.out.below hb HT.out.size
 have HM_ := HM.out.below hb
 have HB_ := bstep HB.out hb
 clear HXA HXB HXX HFA HFB HFX HG HT HM HB
 have HXA := hol HXA_
 have HXB := hol HXB_
 have HXX := hol HXX_
 have HFA := hol HFA_
 have HFB := hol HFB_
 have HFX := hol HFX_
 have HG := hol HG_
 have HT := hol HT_
 have HM := hol HM_
 have HB := hol HB_
 clear HXA_ HXB_ HXX_ HFA_ HFB_ HFX_ HG_ HT_ HM_ HB_
 clear hb HZ2 HWS2 HPL
 go_wp2
 clear hw2 hwa hw0 hz3
 refine wp_region_dutiesS (by kernel_rfl) (by kernel_rfl)
  [some (.agg #[.slice pa na ca]), none, some (.agg #[.slice pb nb cb]), none, some (.pointer (some ⟨b, 0, none⟩)), some (.agg #[.slice pa na ca]), some (.agg #[.slice px nx cx]), none, some (.pointer (some ⟨b, 0, none⟩)), some (.agg #[.slice pb nb cb]), some (.agg #[.slice px nx cx]), none, none, none, none]
  [false, true, false, true, false, false, false, true, false, false, false, true, true, true, true] rfl
  (fun wA wB => KT 83 (w3.heap.size) wA wB)
  (fun D sp w' => RG (w3.heap.size) w3 [] w' /\ MkO (D 13) (D 14) (sp 13) w3.heap.size (z4 83) (ClF 83 A B Y Z) w')
  (fun i v w' => match i with
   | 1 => Fit 33 A v w'
   | 3 => Fit 33 B v w'
   | 7 => Fit 33 (Y) v w'
   | 11 => Fit 33 (Z) v w'
   | 12 => ClV A B Y Z v w'
   | _ => True)
  ?_ ⟨RG.start (Nat.le_refl _) (fun x hx => by cases hx), MkO.start (Nat.le_refl _)⟩ ?_ ?_
 ·intro i v wA wB hf hb
  split at hf
  ·exact hf.kt hb
  ·exact hf.kt hb
  ·exact hf.kt hb
  ·exact hf.kt hb
  ·exact hf.kt hb
  ·trivial
 ·simp only [DutiesS, Nat.reduceAdd]
  refine ⟨?_, ?_, ?_, ?_, ?_, ?_, ?_, ?_, ?_, ?_, ?_, ?_, ?_, ?_, ?_, trivial⟩
  all_goals intro D sp w' hD hW hdp hg
  case refine_1 | refine_6 =>
   have c0 := (HXA.out.below hg.1.keep.bel HXA.out.lt).cell
   with_reducible refine asked_pl ?_ ?_
   all_goals simp [Region.wanted, yielded, execOp, Act.eval, Act.put, go_sem, c0]
  case refine_2 =>
   (with_reducible refine asked_call (w1 := w') (f := 113) (args := #[.agg #[.slice pa na ca]]) ?_ ?_ ?_)
   ·simp [Region.wanted, yielded, Act.put, go_sem]
   ·simp [Act.eval, Act.put, go_sem]
   ·refine (dcopied_fit (HFA.out.keep hg.1.keep) (by decide)).mono ?_
    rintro en w9 ⟨u, rfl, hu, hb⟩
    exact ⟨u, rfl, KT.of hb hg.1.base, hu, hg.1.later hb, by simpa [upd] using hg.2.later hb (fun o h => h.below hb)⟩
  case refine_3 | refine_10 =>
   have c0 := (HXB.out.below hg.1.keep.bel HXB.out.lt).cell
   with_reducible refine asked_pl ?_ ?_
   all_goals simp [Region.wanted, yielded, execOp, Act.eval, Act.put, go_sem, c0]
  case refine_4 =>
   (with_reducible refine asked_call (w1 := w') (f := 113) (args := #[.agg #[.slice pb nb cb]]) ?_ ?_ ?_)
   ·simp [Region.wanted, yielded, Act.put, go_sem]
   ·simp [Act.eval, Act.put, go_sem]
   ·refine (dcopied_fit (HFB.out.keep hg.1.keep) (by decide)).mono ?_
    rintro en w9 ⟨u, rfl, hu, hb⟩
    exact ⟨u, rfl, KT.of hb hg.1.base, hu, hg.1.later hb, by simpa [upd] using hg.2.later hb (fun o h => h.below hb)⟩
  case refine_7 | refine_11 =>
   have c0 := (HXX.out.below hg.1.keep.bel HXX.out.lt).cell
   with_reducible refine asked_pl ?_ ?_
   all_goals simp [Region.wanted, yielded, execOp, Act.eval, Act.put, go_sem, c0]
  case refine_8 =>
   (with_reducible refine asked_call (w1 := w') (f := 41) (args := #[.pointer (some ⟨b, 0, none⟩), .agg #[.slice pa na ca], .agg #[.slice px nx cx]]) ?_ ?_ ?_)
   ·simp [Region.wanted, yielded, Act.put, go_sem]
   ·simp [Act.eval, Act.put, go_sem]
   ·refine (gexp_fit (HG.out.below hg.1.keep.bel) (HFA.out.keep hg.1.keep) (HFX.out.keep hg.1.keep) (by decide) (by omega)).mono ?_
    rintro en w9 ⟨u, rfl, hu, hb⟩
    rw [HYE.out] at hu
    exact ⟨u, rfl, KT.of hb hg.1.base, hu, hg.1.later hb, by simpa [upd] using hg.2.later hb (fun o h => h.below hb)⟩
  case refine_12 =>
   (with_reducible refine asked_call (w1 := w') (f := 41) (args := #[.pointer (some ⟨b, 0, none⟩), .agg #[.slice pb nb cb], .agg #[.slice px nx cx]]) ?_ ?_ ?_)
   ·simp [Region.wanted, yielded, Act.put, go_sem]
   ·simp [Act.eval, Act.put, go_sem]
   ·refine (gexp_fit (HG.out.below hg.1.keep.bel) (HFB.out.keep hg.1.keep) (HFX.out.keep hg.1.keep) (by decide) (by omega)).mono ?_
    rintro en w9 ⟨u, rfl, hu, hb⟩
    rw [HZE.out] at hu
    exact ⟨u, rfl, KT.of hb hg.1.base, hu, hg.1.later hb, by simpa [upd] using hg.2.later hb (fun o h => h.below hb)⟩
  case refine_13 =>
   have hxa : ∃ p n c, sp 1 = .agg #[.slice p n c] /\ NatAt w' p n c (A) /\ A < B32 (33) := (hdp 1 (mq (by kernel_rfl))).2
   (with_reducible refine Exists.elim hxa fun pa hxa1 => Exists.elim hxa1 fun na hxa2 => Exists.elim hxa2 fun ca hxa3 => ?_)
   have ha := hxa3.1
   have hxb : ∃ p n c, sp 3 = .agg #[.slice p n c] /\ NatAt w' p n c (B) /\ B < B32 (33) := (hdp 3 (mq (by kernel_rfl))).2
   (with_reducible refine Exists.elim hxb fun pb hxb1 => Exists.elim hxb1 fun nb hxb2 => Exists.elim hxb2 fun cb hxb3 => ?_)
   have hb := hxb3.1
   have hxy : ∃ p n c, sp 7 = .agg #[.slice p n c] /\ NatAt w' p n c (Y) /\ Y < B32 (33) := (hdp 7 (mq (by kernel_rfl))).2
   (with_reducible refine Exists.elim hxy fun py hxy1 => Exists.elim hxy1 fun ny hxy2 => Exists.elim hxy2 fun cy hxy3 => ?_)
   have hy := hxy3.1
   have hxz : ∃ p n c, sp 11 = .agg #[.slice p n c] /\ NatAt w' p n c (Z) /\ Z < B32 (33) := (hdp 11 (mq (by kernel_rfl))).2
   (with_reducible refine Exists.elim hxz fun pz hxz1 => Exists.elim hxz1 fun nz hxz2 => Exists.elim hxz2 fun cz hxz3 => ?_)
   have hz := hxz3.1
   (with_reducible refine asked_value (w1 := w') (v := .agg #[.slice pa na ca, .slice pb nb cb, .slice py ny cy, .slice pz nz cz]) ?_ ?_ ?_)
   ·simp only [Region.wanted]
   ·simp [execOp, Act.eval, Act.put, go_sem, ha, hb, hy, hz]
   ·exact ⟨KT.same _ _ _, ⟨(pa, na, ca), (pb, nb, cb), (py, ny, cy), (pz, nz, cz), rfl, hxa3.2.1, hxb3.2.1, hxy3.2.1, hxz3.2.1⟩, hg.1, by simpa [upd] using hg.2⟩
  case refine_14 =>
   have h9 : D 14 = false := hW 14 (mq (by kernel_rfl))
   rw [hD, h9] at hg
   (with_reducible refine asked_value (w1 := w'.alloc (.cells #[.slice none 0 0, .slice none 0 0, .slice none 0 0, .slice none 0 0] 83)) (v := .pointer (some ⟨w'.heap.size, 0, none⟩)) ?_ ?_ ?_)
   ·simp only [Region.wanted]
   ·simp [execOp, go_sem]
   ·have hb : Below w'.heap.size w' (w'.alloc (.cells #[.slice none 0 0, .slice none 0 0, .slice none 0 0, .slice none 0 0] 83)) := bal
    refine ⟨KT.of hb hg.1.base, trivial, hg.1.later hb, ?_⟩
    have h8 : MkO true false _ _ (z4 83) _ _ := MkO.made hg.2
    simpa [upd, h9] using h8
  case refine_15 =>
   have hx : ∃ xa xb xy xz : Option Addr × Nat × Nat, sp 12 = .agg #[.slice xa.1 xa.2.1 xa.2.2, .slice xb.1 xb.2.1 xb.2.2, .slice xy.1 xy.2.1 xy.2.2, .slice xz.1 xz.2.1 xz.2.2] /\ AtC A B Y Z xa xb xy xz w' := (hdp 12 (mq (by kernel_rfl))).2
   (with_reducible refine Exists.elim hx fun xa hx1 => Exists.elim hx1 fun xb hx2 => Exists.elim hx2 fun xy hx3 => Exists.elim hx3 fun xz hx4 => ?_)
   have h1 := hx4.1
   have h9 : D 13 = true := (hdp 13 (mq (by kernel_rfl))).1
   rw [hD, h9] at hg
   have hm := hg.2.2 rfl
   (with_reducible refine Exists.elim hm fun bq hm1 => ?_)
   have h3 := hm1.1
   have h6 : w'.heap[bq]? = some (.cells #[.slice none 0 0, .slice none 0 0, .slice none 0 0, .slice none 0 0] 83 (0, 0)) := hm1.2.2.1 rfl
   have hp := put4 (u0 := .slice xa.1 xa.2.1 xa.2.2) (u1 := .slice xb.1 xb.2.1 xb.2.2) (u2 := .slice xy.1 xy.2.1 xy.2.2) (u3 := .slice xz.1 xz.2.1 xz.2.2) h6
   have hs := slices4 (none, 0, 0) (none, 0, 0) (none, 0, 0) (none, 0, 0)
   have hkt := hp.kt h6 hs hm1.2.1
   have g0 := cells4 h6
   (with_reducible refine asked_skip (w1 := set4 w' bq (.slice xa.1 xa.2.1 xa.2.2) (.slice xb.1 xb.2.1 xb.2.2) (.slice xy.1 xy.2.1 xy.2.2) (.slice xz.1 xz.2.1 xz.2.2)) ?_ ?_ ?_)
   ·simp only [Region.wanted]
   ·simp [execOp, Act.eval, Act.put, go_sem, h1, h3, g0.1.1, g0.1.2.1, g0.1.2.2.1, g0.1.2.2.2, g0.2.1, g0.2.2.1, g0.2.2.2.1, g0.2.2.2.2, set4]
   ·refine ⟨hkt, trivial, hg.1.putO hp h6 hs hm1.2.1 (fun x hx => by cases hx), ?_⟩
    have h8 : MkO true true (sp 13) _ (z4 83) (ClF 83 A B Y Z) _ := ⟨by rw [hp.size]; exact hg.2.1, fun _ => ⟨bq, h3, hm1.2.1, StO.done hp.new ⟨xa, xb, xy, xz, rfl, hx4.2.kt hkt⟩⟩⟩
    simpa [upd, h9] using h8
  all_goals ((with_reducible refine asked_pl ?_ ?_); all_goals first | (simp only [Region.wanted]; done) | simp [Region.wanted, yielded, execOp, Act.eval, Act.put, go_sem])
 ·intro sp w4 hsp hk
  obtain ⟨hk1, _, hk2⟩ := hk
  obtain ⟨b13, e13, hb13, hst⟩ := hk2 rfl
  obtain ⟨_, hbox, xa, xb, xy, xz, rfl, hat⟩ := hst.2 rfl
  have hb := hk1.keep.bel
  have HC4 := hol hbox
  have HA4 := hol hat
  have HNE : Hold (b13 ≠ (w.heap.size + 1 + 1 + 1)) := ⟨by have := HWS3.out; omega⟩
  have HZ4 : Hold (w4.heap[(w.heap.size + 1 + 1 + 1)]? = some (z4 83)) := ⟨by rw [hb.block _ HWS3.out]; exact HZ3.out⟩
  have HWS4 : Hold ((w.heap.size + 1 + 1 + 1) < w4.heap.size) := ⟨Nat.lt_of_lt_of_le HWS3.out hb.size⟩
  have HXA_ := HXA.out.below hb HXA.out.lt
  have HXB_ := HXB.out.below hb HXB.out.lt
  have HXX_ := HXX.out.below hb HXX.out.lt
  have HFA_ := HFA.out.below hb
  have HFB_ := HFB.out.below hb
  have HFX_ := HFX.out.below hb
  have HG_ := HG.out.below hb
  have HT_ := HT.out.below hb HT.out.size
  have HM_ := HM.out.below hb
  have HB_ := bstep HB.out hb
  clear HXA HXB HXX HFA HFB HFX HG HT HM HB
  have HXA := hol HXA_
  have HXB := hol HXB_
  have HXX := hol HXX_
  have HFA := hol HFA_
  have HFB := hol HFB_
  have HFX := hol HFX_
  have HG := hol HG_
  have HT := hol HT_
  have HM := hol HM_
  have HB := hol HB_
  clear HXA_ HXB_ HXX_ HFA_ HFB_ HFX_ HG_ HT_ HM_ HB_
  clear hsp hk1 hk2 hst hbox hat hb13 hb HZ3 HWS3
  simp only [frameOf, Nat.reduceAdd]
  rw [e13]
  clear e13
  generalize sp 1 = y1, sp 3 = y3, sp 7 = y7, sp 11 = y11, sp 12 = y12, sp 14 = y14 at *
  go_simp
  go_wp2
  refine wp_region_dutiesS (by kernel_rfl) (by kernel_rfl)
   [some (.pointer (some ⟨b, 0, none⟩)), some (.agg #[.slice px nx cx]), some (.pointer (some ⟨b, 0, none⟩)), some (.agg #[.slice pa na ca]), some (.agg #[.slice pb nb cb]), some (.slice pm nm cm), none, none, none, none]
   [false, false, false, false, false, false, true, true, true, true] rfl
   (fun wA wB => KN (w4.heap.size) wA wB)
   (fun D sp w' => RG (w4.heap.size) w4 [] w' /\ MkB (D 8) (D 9) (sp 8) (w4.heap.size) (K) w')
   (fun i v w' => match i with
    | 6 => PrtK LL MM v w'
    | 7 => Fit 33 (K) v w'
    | _ => True)
   ?_ ⟨RG.start (Nat.le_refl _) (fun x hx => by cases hx), MkB.start (Nat.le_refl _)⟩ ?_ ?_
  ·intro i v wA wB hf hb
   split at hf
   ·exact hf.kn hb
   ·exact hf.kn hb
   ·trivial
  ·simp only [DutiesS, Nat.reduceAdd]
   refine ⟨?_, ?_, ?_, ?_, ?_, ?_, ?_, ?_, ?_, ?_, trivial⟩
   all_goals intro D sp w' hD hW hdp hg
   case refine_2 =>
    have c0 := (HXX.out.below hg.1.keep.bel HXX.out.lt).cell
    with_reducible refine asked_pl ?_ ?_
    all_goals simp [Region.wanted, yielded, execOp, Act.eval, Act.put, go_sem, c0]
   case refine_4 =>
    have c0 := (HXA.out.below hg.1.keep.bel HXA.out.lt).cell
    with_reducible refine asked_pl ?_ ?_
    all_goals simp [Region.wanted, yielded, execOp, Act.eval, Act.put, go_sem, c0]
   case refine_5 =>
    have c0 := (HXB.out.below hg.1.keep.bel HXB.out.lt).cell
    with_reducible refine asked_pl ?_ ?_
    all_goals simp [Region.wanted, yielded, execOp, Act.eval, Act.put, go_sem, c0]
   case refine_7 =>
    (with_reducible refine asked_call (w1 := w') (f := 114) (args := #[.pointer (some ⟨b, 0, none⟩), .agg #[.slice pa na ca], .agg #[.slice pb nb cb], .slice pm nm cm]) ?_ ?_ ?_)
    ·simp [Region.wanted, yielded, Act.put, go_sem]
    ·simp [Act.eval, Act.put, go_sem]
    ·refine (drawnof_fit (HG.out.below hg.1.keep.bel) (HFA.out.below hg.1.keep.bel) (HFB.out.below hg.1.keep.bel) (by decide) HAl.out HBl.out HPs.out (HM.out.below hg.1.keep.bel) HZM.out HNM.out).mono ?_
     rintro en w9 ⟨p9, c9, rfl, hu, hb⟩
     rw [HMM.out, HLL.out] at hu
     rw [HMM.out, HLL.out]
     exact ⟨_, rfl, KN.of hb hg.1.base, ⟨p9, c9, rfl, hu⟩, hg.1.later hb, by simpa [upd] using hg.2.later hb⟩
   case refine_8 =>
    have hr : ∃ p c, sp 6 = .slice p LL c /\ PartOk w' ⟨p, LL, c, MM⟩ := (hdp 6 (mq (by kernel_rfl))).2
    (with_reducible refine Exists.elim hr fun p6 hr1 => Exists.elim hr1 fun c6 hr2 => ?_)
    have ea := hr2.1
    (with_reducible refine asked_call (w1 := w') (f := 92) (args := #[.pointer (some ⟨b, 0, none⟩), .agg #[.slice px nx cx], .slice p6 LL c6]) ?_ ?_ ?_)
    ·simp only [Region.wanted]
    ·simp [Act.eval, Act.put, go_sem, ea]
    ·refine (draw_fit (HG.out.below hg.1.keep.bel) (HT.out.below hg.1.keep.bel HT.out.size) (HFX.out.below hg.1.keep.bel) he HXl.out HQs.out hr2.2).mono ?_
     rintro en w9 ⟨u, rfl, hu, hb⟩
     rw [HKE.out] at hu
     exact ⟨u, rfl, KN.of hb hg.1.base, hu, hg.1.later hb, by simpa [upd] using hg.2.later hb⟩
   case refine_9 =>
    have h9 : D 9 = false := hW 9 (mq (by kernel_rfl))
    rw [hD, h9] at hg
    (with_reducible refine asked_value (w1 := w'.alloc (.cells #[.slice none 0 0] 36)) (v := .pointer (some ⟨w'.heap.size, 0, none⟩)) ?_ ?_ ?_)
    ·simp [Region.wanted, yielded, Act.put, go_sem]
    ·simp [execOp, go_sem]
    ·have hb : Below w'.heap.size w' (w'.alloc (.cells #[.slice none 0 0] 36)) := bal
     refine ⟨KN.of hb hg.1.base, trivial, hg.1.later hb, ?_⟩
     have h8 := hg.2.made
     simpa [upd, h9] using h8
   case refine_10 =>
    have hx : ∃ p n c, sp 7 = .agg #[.slice p n c] /\ NatAt w' p n c (K) /\ K < B32 (33) := (hdp 7 (mq (by kernel_rfl))).2
    (with_reducible refine Exists.elim hx fun p hx1 => Exists.elim hx1 fun n hx2 => Exists.elim hx2 fun c hx3 => ?_)
    have h1 := hx3.1
    have h9 : D 8 = true := (hdp 8 (mq (by kernel_rfl))).1
    rw [h9] at hg
    have hp := hg.2.put (hx3.2.1)
    (with_reducible refine Exists.elim hp fun b hy0 => Exists.elim hy0 fun q hy1 => Exists.elim hy1 fun m hy2 => Exists.elim hy2 fun k hy3 => ?_)
    have h3 := hy3.1
    have h6 := hy3.2.2.1.cell
    have h7 := hy3.2.2.1.free
    (with_reducible refine asked_skip (w1 := w'.setCell ⟨b, 0, none⟩ (.slice p n c)) ?_ ?_ ?_)
    ·simp [Region.wanted, yielded, Act.put, go_sem]
    ·simp [execOp, Act.eval, Act.put, go_sem, h1, h3, h6, h7]
    ·refine ⟨KN.store hy3.2.2.1 (Nat.le_trans (Nat.le_refl _) hy3.2.1) _, trivial, hg.1.store_over hy3.2.2.1 (Nat.le_refl _) hy3.2.1 (fun x hx => by cases hx) _, ?_⟩
     have h8 := hy3.2.2.2
     simpa [upd, h9] using h8
   all_goals ((with_reducible refine asked_pl ?_ ?_); all_goals first | (simp only [Region.wanted]; done) | simp [Region.wanted, yielded, execOp, Act.eval, Act.put, go_sem])
  ·intro sp w5 hsp hg
   obtain ⟨hg1, _, hmk⟩ := hg
   obtain ⟨b14, e14, _, pk, nk, ck, hxk, hnk⟩ := hmk rfl
   replace hnk := hnk rfl
   have HXK := hol hxk
   have HFK := hol (Fit.of hnk HKb.out)
   have hb := hg1.keep.bel
   have HC5 := hol ((hb.block _ (Array.getElem?_eq_some_iff.1 HC4.out).1).trans HC4.out)
   have HA5 := hol (HA4.out.below hb)
   have HZ5 : Hold (w5.heap[(w.heap.size + 1 + 1 + 1)]? = some (z4 83)) := ⟨by rw [hb.block _ HWS4.out]; exact HZ4.out⟩
   have HWS5 : Hold ((w.heap.size + 1 + 1 + 1) < w5.heap.size) := ⟨Nat.lt_of_lt_of_le HWS4.out hb.size⟩
   have HXA_ := HXA.out.below hb HXA.out.lt
   have HXB_ := HXB.out.below hb HXB.out.lt
   have HXX_ := HXX.out.below hb HXX.out.lt
   have HFA_ := HFA.out.below hb
   have HFB_ := HFB.out.below hb
   have HFX_ := HFX.out.below hb
   have HG_ := HG.out.below hb
   have HT_ := HT.out.below hb HT.out.size
   have HM_ := HM.out.below hb
   have HB_ := bstep HB.out hb
   clear HXA HXB HXX HFA HFB HFX HG HT HM HB
   have HXA := hol HXA_
   have HXB := hol HXB_
   have HXX := hol HXX_
   have HFA := hol HFA_
   have HFB := hol HFB_
   have HFX := hol HFX_
   have HG := hol HG_
   have HT := hol HT_
   have HM := hol HM_
   have HB := hol HB_
   clear HXA_ HXB_ HXX_ HFA_ HFB_ HFX_ HG_ HT_ HM_ HB_
   clear hsp hg1 hmk hxk hnk hb HC4 HA4 HZ4 HWS4
   have hCL : Hold (∀ w', Below w5.heap.size w5 w' -> w'.heap[b13]? = some (.cells #[.slice xa.1 xa.2.1 xa.2.2, .slice xb.1 xb.2.1 xb.2.2, .slice xy.1 xy.2.1 xy.2.2, .slice xz.1 xz.2.1 xz.2.2] 83 (0, 0))) := ⟨fun w' hb => (hb.block _ (Array.getElem?_eq_some_iff.1 HC5.out).1).trans HC5.out⟩
   have hCA : Hold _ := HA5
   simp only [frameOf, Nat.reduceAdd]
   rw [e14]
   clear e14
   generalize sp 6 = y6, sp 7 = y7, sp 9 = y9 at *
   go_simp
   go_wp2
   refine wp_region_dutiesS (by kernel_rfl) (by kernel_rfl)
    [some (.agg #[.slice xa.1 xa.2.1 xa.2.2, .slice xb.1 xb.2.1 xb.2.2, .slice xy.1 xy.2.1 xy.2.2, .slice xz.1 xz.2.1 xz.2.2]), some (.pointer (some ⟨b, 0, none⟩)), some (.pointer (some ⟨b, 0, none⟩)), some (.agg #[.slice pa na ca]), some (.agg #[.slice pk nk ck]), none, some (.pointer (some ⟨b, 0, none⟩)), some (.agg #[.slice pb nb cb]), some (.agg #[.slice pk nk ck]), none, some (.slice pm nm cm), none, none, none]
    [false, false, false, false, false, true, false, false, false, true, false, true, true, true] rfl
    (fun wA wB => KN (w5.heap.size) wA wB)
    (fun D sp w' => RG (w5.heap.size) w5 [] w' /\ MkB (D 12) (D 13) (sp 12) (w5.heap.size) (CC) w')
    (fun i v w' => match i with
     | 5 => Fit 33 (U) v w'
     | 9 => Fit 33 (V) v w'
     | 11 => Fit 33 (CC) v w'
     | _ => True)
    ?_ ⟨RG.start (Nat.le_refl _) (fun x hx => by cases hx), MkB.start (Nat.le_refl _)⟩ ?_ ?_
   ·intro i v wA wB hf hb
    split at hf
    ·exact hf.kn hb
    ·exact hf.kn hb
    ·exact hf.kn hb
    ·trivial
   ·simp only [DutiesS, Nat.reduceAdd]
    refine ⟨?_, ?_, ?_, ?_, ?_, ?_, ?_, ?_, ?_, ?_, ?_, ?_, ?_, ?_, trivial⟩
    all_goals intro D sp w' hD hW hdp hg
    case refine_1 =>
     have g0 := (cells4 (hCL.out w' hg.1.keep.bel)).1
     with_reducible refine asked_pl ?_ ?_
     all_goals simp [Region.wanted, yielded, execOp, Act.eval, Act.put, go_sem, g0.1, g0.2.1, g0.2.2.1, g0.2.2.2]
    case refine_4 =>
     have c0 := (HXA.out.below hg.1.keep.bel HXA.out.lt).cell
     with_reducible refine asked_pl ?_ ?_
     all_goals simp [Region.wanted, yielded, execOp, Act.eval, Act.put, go_sem, c0]
    case refine_5 | refine_9 =>
     have c0 := (HXK.out.below hg.1.keep.bel HXK.out.lt).cell
     with_reducible refine asked_pl ?_ ?_
     all_goals simp [Region.wanted, yielded, execOp, Act.eval, Act.put, go_sem, c0]
    case refine_6 =>
     (with_reducible refine asked_call (w1 := w') (f := 41) (args := #[.pointer (some ⟨b, 0, none⟩), .agg #[.slice pa na ca], .agg #[.slice pk nk ck]]) ?_ ?_ ?_)
     ·simp [Region.wanted, yielded, Act.put, go_sem]
     ·simp [Act.eval, Act.put, go_sem]
     ·refine (gexp_fit (HG.out.below hg.1.keep.bel) (HFA.out.below hg.1.keep.bel) (HFK.out.below hg.1.keep.bel) (by decide) (by decide)).mono ?_
      rintro en w9 ⟨u, rfl, hu, hb⟩
      rw [HUE.out] at hu
      exact ⟨u, rfl, KN.of hb hg.1.base, hu, hg.1.later hb, by simpa [upd] using hg.2.later hb⟩
    case refine_8 =>
     have c0 := (HXB.out.below hg.1.keep.bel HXB.out.lt).cell
     with_reducible refine asked_pl ?_ ?_
     all_goals simp [Region.wanted, yielded, execOp, Act.eval, Act.put, go_sem, c0]
    case refine_10 =>
     (with_reducible refine asked_call (w1 := w') (f := 41) (args := #[.pointer (some ⟨b, 0, none⟩), .agg #[.slice pb nb cb], .agg #[.slice pk nk ck]]) ?_ ?_ ?_)
     ·simp [Region.wanted, yielded, Act.put, go_sem]
     ·simp [Act.eval, Act.put, go_sem]
     ·refine (gexp_fit (HG.out.below hg.1.keep.bel) (HFB.out.below hg.1.keep.bel) (HFK.out.below hg.1.keep.bel) (by decide) (by decide)).mono ?_
      rintro en w9 ⟨u, rfl, hu, hb⟩
      rw [HVE.out] at hu
      exact ⟨u, rfl, KN.of hb hg.1.base, hu, hg.1.later hb, by simpa [upd] using hg.2.later hb⟩
    case refine_12 =>
     have hxu : ∃ p n c, sp 5 = .agg #[.slice p n c] /\ NatAt w' p n c (U) /\ U < B32 (33) := (hdp 5 (mq (by kernel_rfl))).2
     (with_reducible refine Exists.elim hxu fun pu hxu1 => Exists.elim hxu1 fun nu hxu2 => Exists.elim hxu2 fun cu hxu3 => ?_)
     have hu := hxu3.1
     have hxv : ∃ p n c, sp 9 = .agg #[.slice p n c] /\ NatAt w' p n c (V) /\ V < B32 (33) := (hdp 9 (mq (by kernel_rfl))).2
     (with_reducible refine Exists.elim hxv fun pv hxv1 => Exists.elim hxv1 fun nv hxv2 => Exists.elim hxv2 fun cv hxv3 => ?_)
     have hv := hxv3.1
     (with_reducible refine asked_call (w1 := w') (f := 115) (args := #[.agg #[.slice xa.1 xa.2.1 xa.2.2, .slice xb.1 xb.2.1 xb.2.2, .slice xy.1 xy.2.1 xy.2.2, .slice xz.1 xz.2.1 xz.2.2], .pointer (some ⟨b, 0, none⟩), .agg #[.slice pu nu cu], .agg #[.slice pv nv cv], .slice pm nm cm]) ?_ ?_ ?_)
     ·simp only [Region.wanted]
     ·simp [Act.eval, Act.put, go_sem, hu, hv]
     ·refine (dlchal_fit (HG.out.below hg.1.keep.bel) (HT.out.below hg.1.keep.bel HT.out.size) (hCA.out.below hg.1.keep.bel) (xu := (pu, nu, cu)) (xv := (pv, nv, cv)) hxu3.2.1 hxv3.2.1 HAl.out HBl.out HYl.out HZl.out HUl.out HVl.out HPs.out (HM.out.below hg.1.keep.bel)).mono ?_
      rintro en w9 ⟨u, rfl, hu9, hb9⟩
      rw [HCE.out] at hu9
      have hb := hb9
      exact ⟨u, rfl, KN.of hb hg.1.base, hu9, hg.1.later hb, by simpa [upd] using hg.2.later hb⟩
    case refine_13 =>
     have h9 : D 13 = false := hW 13 (mq (by kernel_rfl))
     rw [hD, h9] at hg
     (with_reducible refine asked_value (w1 := w'.alloc (.cells #[.slice none 0 0] 36)) (v := .pointer (some ⟨w'.heap.size, 0, none⟩)) ?_ ?_ ?_)
     ·simp [Region.wanted, yielded, Act.put, go_sem]
     ·simp [execOp, go_sem]
     ·have hb : Below w'.heap.size w' (w'.alloc (.cells #[.slice none 0 0] 36)) := bal
      refine ⟨KN.of hb hg.1.base, trivial, hg.1.later hb, ?_⟩
      have h8 := hg.2.made
      simpa [upd, h9] using h8
    case refine_14 =>
     have hx : ∃ p n c, sp 11 = .agg #[.slice p n c] /\ NatAt w' p n c (CC) /\ CC < B32 (33) := (hdp 11 (mq (by kernel_rfl))).2
     (with_reducible refine Exists.elim hx fun p hx1 => Exists.elim hx1 fun n hx2 => Exists.elim hx2 fun c hx3 => ?_)
     have h1 := hx3.1
     have h9 : D 12 = true := (hdp 12 (mq (by kernel_rfl))).1
     rw [h9] at hg
     have hp := hg.2.put (hx3.2.1)
     (with_reducible refine Exists.elim hp fun b hy0 => Exists.elim hy0 fun q hy1 => Exists.elim hy1 fun m hy2 => Exists.elim hy2 fun k hy3 => ?_)
     have h3 := hy3.1
     have h6 := hy3.2.2.1.cell
     have h7 := hy3.2.2.1.free
     (with_reducible refine asked_skip (w1 := w'.setCell ⟨b, 0, none⟩ (.slice p n c)) ?_ ?_ ?_)
     ·simp [Region.wanted, yielded, Act.put, go_sem]
     ·simp [execOp, Act.eval, Act.put, go_sem, h1, h3, h6, h7]
     ·refine ⟨KN.store hy3.2.2.1 (Nat.le_trans (Nat.le_refl _) hy3.2.1) _, trivial, hg.1.store_over hy3.2.2.1 (Nat.le_refl _) hy3.2.1 (fun x hx => by cases hx) _, ?_⟩
      have h8 := hy3.2.2.2
      simpa [upd, h9] using h8
    all_goals ((with_reducible refine asked_pl ?_ ?_); all_goals first | (simp only [Region.wanted]; done) | simp [Region.wanted, yielded, execOp, Act.eval, Act.put, go_sem])
   ·intro sp w6 hsp hg
    obtain ⟨hg1, _, hmk⟩ := hg
    obtain ⟨b15, e15, _, pc, nc, cc, hxc, hnc⟩ := hmk rfl
    replace hnc := hnc rfl
    have HXC := hol hxc
    have HFC := hol (Fit.of hnc HCb.out)
    have hb := hg1.keep.bel
    have HC6 := hol (hCL.out w6 hb)
    have HZ6 : Hold (w6.heap[(w.heap.size + 1 + 1 + 1)]? = some (z4 83)) := ⟨by rw [hb.block _ HWS5.out]; exact HZ5.out⟩
    have HWS6 : Hold ((w.heap.size + 1 + 1 + 1) < w6.heap.size) := ⟨Nat.lt_of_lt_of_le HWS5.out hb.size⟩
    have hCA6 := hCA.out.below hb
    have HXA_ := HXA.out.below hb HXA.out.lt
    have HXB_ := HXB.out.below hb HXB.out.lt
    have HXX_ := HXX.out.below hb HXX.out.lt
    have HFA_ := HFA.out.below hb
    have HFB_ := HFB.out.below hb
    have HFX_ := HFX.out.below hb
    have HG_ := HG.out.below hb
    have HT_ := HT.out.below hb HT.out.size
    have HM_ := HM.out.below hb
    have HB_ := bstep HB.out hb
    have HXK_ := HXK.out.below hb HXK.out.lt
    have HFK_ := HFK.out.below hb
    clear HXA HXB HXX HFA HFB HFX HG HT HM HB HXK HFK
    have HXA := hol HXA_
    have HXB := hol HXB_
    have HXX := hol HXX_
    have HFA := hol HFA_
    have HFB := hol HFB_
    have HFX := hol HFX_
    have HG := hol HG_
    have HT := hol HT_
    have HM := hol HM_
    have HB := hol HB_
    have HXK := hol HXK_
    have HFK := hol HFK_
    clear HXA_ HXB_ HXX_ HFA_ HFB_ HFX_ HG_ HT_ HM_ HB_ HXK_ HFK_
    clear hsp hg1 hmk hxc hnc hb hCA HA5 HZ5 HWS5 HC5 hCL
    have hCA := hol hCA6
    clear hCA6
    have HG6 : Hold (∀ w', Keep (w.heap.size + 1 + 1 + 1) w6 w' -> GroupAt w' b P Q G H) := ⟨fun w' k => (GroupOk.of HG0.out (Nat.le_refl _) HB.out).keep ⟨k.bel.mono (by omega), k.nat⟩⟩
    have hKB : Hold (∀ w', KT 83 (w.heap.size + 1 + 1 + 1) w6 w' -> ∀ g v, NatBox w6 g v -> NatBox w' g v) := ⟨fun w' k g v h => k.blk _ _ _ _ h (.inl (by decide))⟩
    have HSB : Hold (∀ {w' : World}, KT 83 (w.heap.size + 1 + 1 + 1) w6 w' -> (w.heap.size + 1 + 1 + 1) <= w'.heap.size) := ⟨fun k => by have h1 := k.k.bel.size; have h2 := HWS6.out; omega⟩
    simp only [frameOf, Nat.reduceAdd]
    rw [e15]
    clear e15
    generalize sp 5 = y5, sp 9 = y9, sp 11 = y11, sp 13 = y13 at *
    go_simp
    go_wp2
    refine wp_region_duties (by kernel_rfl) (by kernel_rfl)
     [some (.agg #[.slice xa.1 xa.2.1 xa.2.2, .slice xb.1 xb.2.1 xb.2.2, .slice xy.1 xy.2.1 xy.2.2, .slice xz.1 xz.2.1 xz.2.2]), some (.pointer (some ⟨b, 0, none⟩)), some (.agg #[.slice pk nk ck]), some (.agg #[.slice pc nc cc]), some (.agg #[.slice px nx cx]), none, some (.pointer (some ⟨b, 0, none⟩)), none, none, none, some (.int .i64 0)]
     [false, false, false, false, false, true, false, true, true, true, false] rfl
     (fun w1 w2 => KT 83 (w.heap.size + 1 + 1 + 1) w1 w2)
     (fun D w' => KT 83 (w.heap.size + 1 + 1 + 1) w6 w' /\ StO (D 8) (w.heap.size + 1 + 1 + 1) (z4 83) (ClF 83 A B Y Z) w' /\ w'.heap[b13]? = some (.cells #[.slice xa.1 xa.2.1 xa.2.2, .slice xb.1 xb.2.1 xb.2.2, .slice xy.1 xy.2.1 xy.2.2, .slice xz.1 xz.2.1 xz.2.2] 83 (0, 0)))
     (fun i v w' => match i with
      | 5 => SigV CC SS v w'
      | 7 => OwnIs 0 SB v w'
      | 8 => True
      | 9 => OwnIs 0 SB v w'
      | _ => True)
     ?_ ⟨KT.drew _ _ _, StO.start HZ6.out, HC6.out⟩ ?_ ?_
    ·intro i v w1 w2 hf hb
     split at hf
     ·exact hf.kt hb
     ·exact hf.kt hb
     ·exact hf
     ·exact hf.kt hb
     ·trivial
    ·simp only [Duties, Nat.reduceAdd]
     refine ⟨?_, ?_, ?_, ?_, ?_, ?_, ?_, ?_, ?_, ?_, ?_, trivial⟩
     all_goals intro D sp w' hD hW hdp hbx'
     case refine_1 =>
      have g0 := (cells4 hbx'.2.2).1
      with_reducible refine asked_pl ?_ ?_
      all_goals simp [Region.wanted, yielded, execOp, Act.eval, Act.put, go_sem, g0.1, g0.2.1, g0.2.2.1, g0.2.2.2]
     case refine_3 =>
      have c0 := (hKB.out w' hbx'.1 _ _ HXK.out).cell
      with_reducible refine asked_pl ?_ ?_
      all_goals simp [Region.wanted, yielded, execOp, Act.eval, Act.put, go_sem, c0]
     case refine_4 =>
      have c0 := (hKB.out w' hbx'.1 _ _ HXC.out).cell
      with_reducible refine asked_pl ?_ ?_
      all_goals simp [Region.wanted, yielded, execOp, Act.eval, Act.put, go_sem, c0]
     case refine_5 =>
      have c0 := (HXX.out.below hbx'.1.k.bel (by omega)).cell
      with_reducible refine asked_pl ?_ ?_
      all_goals simp [Region.wanted, yielded, execOp, Act.eval, Act.put, go_sem, c0]
     case refine_6 =>
      (with_reducible refine asked_call (w1 := w') (f := 94) (args := #[.pointer (some ⟨b, 0, none⟩), .agg #[.slice pk nk ck], .agg #[.slice pc nc cc], .agg #[.slice px nx cx]]) ?_ ?_ ?_)
      ·simp [Region.wanted, yielded, Act.put, go_sem]
      ·simp [Act.eval, Act.put, go_sem]
      ·refine (answered_fit (HG6.out w' hbx'.1.k) (HFK.out.keep hbx'.1.k) (HFC.out.keep hbx'.1.k) (HFX.out.keep hbx'.1.k) (by decide) (by decide) he).mono ?_
       rintro en w9 ⟨u, rfl, hu, hb⟩
       rw [HSE.out] at hu
       exact ⟨u, rfl, KT.of hb (HSB.out hbx'.1), hu, ⟨hbx'.1.trans (KT.of hb (HSB.out hbx'.1)), by simpa [upd] using hbx'.2.1.later hb (fun o h => h.below hb), by rw [hb.block _ (Array.getElem?_eq_some_iff.1 hbx'.2.2).1]; exact hbx'.2.2⟩⟩
     case refine_8 =>
      have hx : ∃ x y : Option Addr × Nat × Nat, sp 5 = .agg #[.slice x.1 x.2.1 x.2.2, .slice y.1 y.2.1 y.2.2] /\ At3 w' x CC /\ At3 w' y SS := (hdp 5 (mq (by kernel_rfl))).2
      (with_reducible refine Exists.elim hx fun x hx1 => Exists.elim hx1 fun y hx2 => ?_)
      have h1 := hx2.1
      (with_reducible refine asked_call (w1 := w') (f := 95) (args := #[.agg #[.slice x.1 x.2.1 x.2.2, .slice y.1 y.2.1 y.2.2], .pointer (some ⟨b, 0, none⟩)]) ?_ ?_ ?_)
      ·simp only [Region.wanted]
      ·simp [Act.eval, Act.put, go_sem, h1]
      ·refine (sigbytes_fit (QAt.of (HG6.out w' hbx'.1.k)) HQs.out hx2.2.1 hx2.2.2 HCl.out HSl.out HQl.out).mono ?_
       rintro en w9 ⟨u, rfl, hu, hb⟩
       rw [HSBE.out] at hu
       exact ⟨u, rfl, KT.of hb (HSB.out hbx'.1), hu.zero, ⟨hbx'.1.trans (KT.of hb (HSB.out hbx'.1)), by simpa [upd] using hbx'.2.1.later hb (fun o h => h.below hb), by rw [hb.block _ (Array.getElem?_eq_some_iff.1 hbx'.2.2).1]; exact hbx'.2.2⟩⟩
     case refine_9 =>
      rw [hD] at hbx'
      have g0 := (cells4 hbx'.2.2).1
      have h6 : w'.heap[(w.heap.size + 1 + 1 + 1)]? = some (.cells #[.slice none 0 0, .slice none 0 0, .slice none 0 0, .slice none 0 0] 83 (0, 0)) := hbx'.2.1.1 rfl
      have hp := put4 (u0 := .slice xa.1 xa.2.1 xa.2.2) (u1 := .slice xb.1 xb.2.1 xb.2.2) (u2 := .slice xy.1 xy.2.1 xy.2.2) (u3 := .slice xz.1 xz.2.1 xz.2.2) h6
      have hkt := hp.kt h6 (slices4 (none, 0, 0) (none, 0, 0) (none, 0, 0) (none, 0, 0)) (Nat.le_refl _)
      have g6 := cells4 h6
      (with_reducible refine asked_skip (w1 := set4 w' (w.heap.size + 1 + 1 + 1) (.slice xa.1 xa.2.1 xa.2.2) (.slice xb.1 xb.2.1 xb.2.2) (.slice xy.1 xy.2.1 xy.2.2) (.slice xz.1 xz.2.1 xz.2.2)) ?_ ?_ ?_)
      ·simp only [Region.wanted]
      ·simp [execOp, Act.eval, Act.put, go_sem, g6.1.1, g6.1.2.1, g6.1.2.2.1, g6.1.2.2.2, g6.2.1, g6.2.2.1, g6.2.2.2.1, g6.2.2.2.2, set4]
      ·refine ⟨hkt, trivial, hbx'.1.trans hkt, ?_, by rw [hp.old _ HNE.out]; exact hbx'.2.2⟩
       have h8 : StO true (w.heap.size + 1 + 1 + 1) (z4 83) (ClF 83 A B Y Z) _ := StO.done hp.new ⟨xa, xb, xy, xz, rfl, (hCA.out.keep hbx'.1.k).kt hkt⟩
       simpa [upd] using h8
     case refine_10 =>
      have k7 : OwnIs 0 SB (sp 7) w' := (hdp 7 (mq (by kernel_rfl))).2
      (with_reducible refine asked_value (w1 := w') (v := sp 7) ?_ ?_ ?_)
      ·simp only [Region.wanted]
      ·simp [execOp, Act.eval, Act.put, go_sem]
      ·exact ⟨KT.same _ _ _, k7, by simpa [upd] using hbx'⟩
     all_goals ((with_reducible refine asked_pl ?_ ?_); all_goals first | (simp only [Region.wanted]; done) | simp [Region.wanted, yielded, execOp, Act.eval, Act.put, go_sem])
    ·intro sp w7 hsp hk
     obtain ⟨hk1, hk2, _⟩ := hk
     obtain ⟨_, hbox, ya, yb, yy, yz, rfl, hat⟩ := hk2.2 rfl
     have HO : Hold (OwnIs 0 SB (sp 9) w7) := ⟨hsp 9 rfl⟩
     have HV : Hold (ClV A B Y Z (.agg #[.slice ya.1 ya.2.1 ya.2.2, .slice yb.1 yb.2.1 yb.2.2, .slice yy.1 yy.2.1 yy.2.2, .slice yz.1 yz.2.1 yz.2.2]) w7) := ⟨⟨ya, yb, yy, yz, rfl, hat⟩⟩
     have HBf : Hold (Below w.heap.size w w7) := ⟨HB.out.trans (hk1.k.bel.mono (by omega))⟩
     obtain ⟨g0, g1, g2, g3⟩ := (cells4 hbox).1
     clear hsp hk1 hk2 hbox hat
     simp only [frameOf, Nat.reduceAdd]
     generalize sp 5 = y5, sp 7 = y7, sp 8 = y8, sp 9 = y9 at *
     go_simp
     go_wp2
     exact bodyPost_ret (v := .tuple #[.agg #[.slice ya.1 ya.2.1 ya.2.2, .slice yb.1 yb.2.1 yb.2.2, .slice yy.1 yy.2.1 yy.2.2, .slice yz.1 yz.2.1 yz.2.2], y9, .int .i64 0]) (by simp [results, Tryz.results55, go_sem, g0, g1, g2, g3]) rfl ⟨_, _, rfl, HV.out, HO.out, HBf.out⟩
end Go.Proofs.YthgoeiegdhphjaaGreatDoor
