/- The laws' member; the chapter's example lives (law12's lives). -/
import Derived.Test.YthgoeiegdhphjaaGreatDoorDlD
set_option maxRecDepth 1000000
set_option maxHeartbeats 16000000
set_option linter.unusedSimpArgs false
set_option linter.unusedVariables false
namespace Go.Proofs.YthgoeiegdhphjaaGreatDoor
open Go Go.RowKit Go.Proofs.YthgoeiegdhphjaaGreatDoor.Flow
theorem Wz (i:Nat)(hi:i<3):Am (gP i)<=16:=by
 rw[Oe i hi]
 match i,hi with
 | 0,_=>decide
 | 1,_=>decide
 | 2,_=>decide
theorem pU:∀i,i<3->gQ i<gP i
 | 0,_=>by decide
 | 1,_=>by decide
 | 2,_=>by decide
 | _+3,h=>by omega
theorem cW (i:Nat)(hi:i<3):Am (gQ i)<=16:=Hw.2 (Nat.lt_trans (pU i hi) (Hw.1 (Wz i hi)))
theorem kZ (i:Nat)(hi:i<3):2<=gQ i:=by have:=(Od i hi).1;omega
theorem qN (i:Nat)(hi:i<3):2<=gP i:=by have:=pU i hi;have:=kZ i hi;omega
theorem Cs.part {lo:Nat}{bs:List Nat}{v:Value}{w:World}(h:Cs lo bs v w)(h8:Aw bs):∃p c,v=.slice p bs.length c/\Ar w ⟨p,bs.length,c,bs⟩/\(p=none->c=0) :=
 h.elim fun p c hv hr _ hz=>⟨p,c,hv,⟨hr,h8⟩,hz⟩
def gM (w:World):World:=w.alloc (.cells #[.int .u8 109] 5 (1,2))
theorem Sm (w:World):Below w.heap.size w (gM w):=Bt
theorem Vb (w:World):Ar (gM w) ⟨some ⟨w.heap.size,0,none⟩,1,1,[109]⟩:=by
 have h1:(gM w).heap[w.heap.size]? = some (.cells #[.int .u8 109] 5 (1,2)):=by
  unfold gM;rw[heap_alloc_new]
 exact⟨Ih (bs:=[109]) h1 rfl (by decide:1<=9223372036854775807),(by decide:∀x∈[109],x<256)⟩
theorem qA:2*Am 101=2:=by decide
theorem cJ {w:World}{b P Q G H x:Nat}(hg:Ax w b P Q G H)(hx:x<18446744073709551616) :
  Calls Tryz.prog 54 #[.pointer (some ⟨b,0,none⟩),.int .u64 (x:Nat),.bool false] w fun en w'=>∃u,en=.returned u/\Fit 33 (G^x%P) u w'/\Below w.heap.size w w':=by
 have hz:=Af.made w (.slice none 0 0);have hb0:Below w.heap.size w (w.alloc (.cells #[.slice none 0 0] 36)):=Bt;obtain⟨wa,hwa⟩:∃wa,w.alloc (.cells #[.slice none 0 0] 36)=wa:=⟨_,rfl⟩
 rw[hwa]at hz hb0
 have HZ:=Ac hz;have HB:=Ac hb0;have HG:=Ac hg;have HX:=Ac hx;obtain⟨N,hN⟩:∃N,G^x%P=N:=⟨_,rfl⟩
 have HN:=Ac hN;rw[hN];clear hz hb0 hg hx hN;go_enter Tryz.func54,Tryz.ntmps54
 go_wp2_with fail
 refine(cY (HG.out.below HB.out)).mono ?_;rintro en w1 ⟨u1,rfl,h1,hb1⟩;have HU:=Ac h1;have HB1:=Ac (Ae HB.out hb1);have HZ1:=Ac (HZ.out.below hb1 HZ.out.lt);clear h1 hb1 hwa
 go_wp2_with fail
 refine(Fz (n:=x) w1 HX.out).mono ?_;rintro en w2 ⟨u2,rfl,h2,hb2⟩;have HV:=Ac h2;have HU2:=Ac (HU.out.below hb2);have HB2:=Ac (Ae HB1.out hb2);have HZ2:=Ac (HZ1.out.below hb2 HZ1.out.lt);clear h2 hb2
 go_wp2_with fail
 refine(Jf (HG.out.below HB2.out) HU2.out HV.out (by decide) (by decide)).mono ?_;rintro en w3 ⟨_,rfl,⟨p,n,c,rfl,h3,l3⟩,hb3⟩;rw[HN.out]at h3 l3
 have hz3:=HZ2.out.below hb3 HZ2.out.lt;have fz:=hz3.free;have kz:=hz3.cell;have ks:=(hz3.set (.slice p n c)).cell;have HF:Aa (Fit 33 N (.agg #[.slice p n c]) (w3.setCell ⟨w.heap.size,0,none⟩ (.slice p n c))):=⟨Fit.of (h3.store hz3 _) l3⟩
 have HBf:Aa (Below w.heap.size w (w3.setCell ⟨w.heap.size,0,none⟩ (.slice p n c))):=⟨(Ae HB2.out hb3).setCell (Nat.le_refl _) _⟩
 clear h3 l3 hb3 hz3;go_wp2;exact bodyPost_ret (v:=.agg #[.slice p n c]) (by simp[results,Tryz.results54,go_sem,ks]) rfl ⟨_,rfl,HF.out,HBf.out⟩
theorem Ze {w:World}{x:Nat}{g0:Value}(hx:x<18446744073709551616) :
  Calls Tryz.prog 54 #[g0,.int .u64 (x:Nat),.bool true] w fun en w'=>∃u,en=.returned u/\Fit 33 x u w'/\Below w.heap.size w w':=by
 have hz:=Af.made w (.slice none 0 0);have hb0:Below w.heap.size w (w.alloc (.cells #[.slice none 0 0] 36)):=Bt;obtain⟨wa,hwa⟩:∃wa,w.alloc (.cells #[.slice none 0 0] 36)=wa:=⟨_,rfl⟩
 rw[hwa]at hz hb0
 have HZ:=Ac hz;have HB:=Ac hb0;have HX:=Ac hx;clear hz hb0 hx;go_enter Tryz.func54,Tryz.ntmps54
 go_wp2_with fail
 refine(Fz (n:=x) wa HX.out).mono ?_;rintro en w3 ⟨_,rfl,⟨p,n,c,rfl,h3,l3⟩,hb3⟩;have hz3:=HZ.out.below hb3 HZ.out.lt;have fz:=hz3.free;have kz:=hz3.cell;have ks:=(hz3.set (.slice p n c)).cell;have HF:Aa (Fit 33 x (.agg #[.slice p n c]) (w3.setCell ⟨w.heap.size,0,none⟩ (.slice p n c))):=⟨(Fit.of (h3.store hz3 _) l3).wide (by decide)⟩
 have HBf:Aa (Below w.heap.size w (w3.setCell ⟨w.heap.size,0,none⟩ (.slice p n c))):=⟨(Ae HB.out hb3).setCell (Nat.le_refl _) _⟩
 clear h3 l3 hb3 hz3 hwa;go_wp2;exact bodyPost_ret (v:=.agg #[.slice p n c]) (by simp[results,Tryz.results54,go_sem,ks]) rfl ⟨_,rfl,HF.out,HBf.out⟩
theorem rL:Cg 607 101 64:=⟨by decide,by decide,Vi 0 (by omega)⟩
theorem rK:Cg 607 101 597:=⟨by decide,by decide,gZ 0 (by omega)⟩
theorem oV:Gt 607 101 64 597 (64^7%607) (597^7%607) [109] (mD 607 101 64 597 7 [109]):=oY (by decide) (by decide) rL rK
theorem Ty (w:World)(hr:Tabs w) :
  Calls Tryz.prog 53 #[] w fun e w'=>e=.returned (.bool true)/\Below w.heap.size w w':=by
 have HG0:=Ac (Mm w 0 hr);have HT:=Ac hr;clear hr;go_enter Tryz.func53,Tryz.ntmps53
 go_wp2_with fail
 refine HG0.out.mono ?_;rintro en w1 ⟨b,rfl,hg,hb1⟩;have hg':Ax w1 b 607 101 64 597:=hg;have HG:=Ac hg';have HB1:=Ac hb1;clear hg hg' hb1 HG0
 go_wp2_with fail
 refine(cY HG.out).mono ?_;rintro en w2 ⟨x2,rfl,h2,hb2⟩;have HX2:=Ac h2;have HG2:=Ac (HG.out.below hb2);have HB2:=Ac (Ae HB1.out hb2);clear h2 hb2 HG
 go_wp2_with fail
 refine(lD HG2.out).mono ?_;rintro en w3 ⟨x3,rfl,h3,hb3⟩;have HX3:=Ac h3;have HX23:=Ac (HX2.out.below hb3);have HG3:=Ac (HG2.out.below hb3);have HB3:=Ac (Ae HB2.out hb3);clear h3 hb3 HG2 HX2
 go_wp2_with fail
 refine(Fz (n:=7) w3 (by omega)).mono ?_;rintro en w4 ⟨x4,rfl,h4,hb4⟩;have hcv:=Joins.run_convert_bytes_const_at (P:=Tryz.prog) w4 60 5 #[.int .u8 109] 1 1 w4.heap.size rfl Tryz.underlying60 Tryz.underlying5;have hbl:=Sm w4;have HP4:=Ac (Vb w4);have hb34:=Ae hb4 hbl;have HX4:=Ac (h4.below hbl);have HX24:=Ac (HX23.out.below hb34);have HX34:=Ac (HX3.out.below hb34);have HG4:=Ac (HG3.out.below hb34);have HB4:=Ac (Ae HB3.out hb34);clear h4 hb4 hbl hb34 HG3 HX23 HX3
 go_wp2_with fail
 refine Om (w1:=gM w4) (by kernel_rfl) ?_;refine(jY HG4.out (HT.out.below HB4.out HT.out.size) HX24.out HX34.out HX4.out (by decide) (by decide) rL rK (Wz 0 (by omega)) (cW 0 (by omega)) HP4.out (fun h=>by cases h) (by decide)).mono ?_;rintro en w5 ⟨_,_,rfl,⟨xa,xb,xy,xz,rfl,hc⟩,ho,hb5⟩;obtain⟨ps,cs,rfl,hps,_⟩:=ho.part (iC _ _ _ _ _ _);obtain⟨SB,hSB⟩:∃S,mD 607 101 64 597 7 [109]=S:=⟨_,rfl⟩
 obtain⟨YY,hYY⟩:∃S,64^7%607=S:=⟨_,rfl⟩
 obtain⟨ZZ,hZZ⟩:∃S,597^7%607=S:=⟨_,rfl⟩
 have hl2:SB.length=2:=by rw[<- hSB,dE];exact qA
 have HOK:Aa (Gt 607 101 64 597 YY ZZ [109] SB):=⟨by rw[<- hSB,<- hYY,<- hZZ];exact oV⟩
 have hYl:YY<Aq 33:=by rw[<- hYY];decide
 have hZl:ZZ<Aq 33:=by rw[<- hZZ];decide
 rw[hYY,hZZ]at hc
 rw[hSB,hl2]at hps
 simp only[hSB,hl2];have hb6:Below w5.heap.size w5 (w5.alloc (.cells #[.slice xa.1 xa.2.1 xa.2.2,.slice xb.1 xb.2.1 xb.2.2,.slice xy.1 xy.2.1 xy.2.2,.slice xz.1 xz.2.1 xz.2.2] 83)):=Bt;have hx6:=Ce.made 83 w5 (.slice xa.1 xa.2.1 xa.2.2) (.slice xb.1 xb.2.1 xb.2.2) (.slice xy.1 xy.2.1 xy.2.2) (.slice xz.1 xz.2.1 xz.2.2);obtain⟨w6,hw6⟩:∃W,w5.alloc (.cells #[.slice xa.1 xa.2.1 xa.2.2,.slice xb.1 xb.2.1 xb.2.2,.slice xy.1 xy.2.1 xy.2.2,.slice xz.1 xz.2.1 xz.2.2] 83)=W:=⟨_,rfl⟩
 rw[hw6]at hb6 hx6
 have hcv:=Joins.run_convert_bytes_const_at (P:=Tryz.prog) w6 60 5 #[.int .u8 109] 1 1 w6.heap.size rfl Tryz.underlying60 Tryz.underlying5;have hbl:=Sm w6;have hb67:=Ae hb6 hbl;have hb57:=Ae hb5 hb67;have HP7:=Ac (Vb w6);have HPS:=Ac (hps.below hb67);have HCA:=Ac (hc.below hb67);have HG7:=Ac (HG4.out.below hb57);have HB7:=Ac (Ae HB4.out hb57);have HYl:=Ac hYl;have HZl:=Ac hZl;obtain⟨g0,g1,g2,g3⟩:=(cells4 hx6.at_).1;clear ho hps hb5 hSB hYY hZZ hl2 hc hYl hZl hb6 hx6 hbl hb67 hb57
 go_wp2_with fail
 refine Om (w1:=gM w6) (by kernel_rfl) ?_;refine(Ok HG7.out (HT.out.below HB7.out HT.out.size) HCA.out (by decide) (by decide) HYl.out HZl.out (Wz 0 (by omega)) (cW 0 (by omega)) HP7.out HPS.out).mono ?_;rintro en w8 ⟨X,rfl,hX,hb8⟩;have hXt:X=true:=hX.2 HOK.out;subst hXt;have HB8:=Ac (Ae HB7.out hb8);clear hX hb8 hcv g0 g1 g2 g3;go_wp2;go_ret;exact⟨rfl,HB8.out⟩
end Go.Proofs.YthgoeiegdhphjaaGreatDoor
