/- The laws' member; the chapter's example lives (law12's lives). -/
import Derived.Test.YtnbmfaihlefgfaaGreatDoorDlD
set_option maxRecDepth 1000000
set_option maxHeartbeats 16000000
set_option linter.all false
namespace Go.Proofs.YtnbmfaihlefgfaaGreatDoor
open Go Go.RowKit Go.Proofs.YtnbmfaihlefgfaaGreatDoor.Flow
theorem Wz (i:Nat)(hi:i<3):Al (gP i)<=16:=by
 rw[Om i hi]
 match i,hi with
 | 0,_=>decide
 | 1,_=>decide
 | 2,_=>decide
theorem pJ:∀i,i<3->gQ i<gP i
 | 0,_=>by decide
 | 1,_=>by decide
 | 2,_=>by decide
 | _+3,h=>by omega
theorem cM (i:Nat)(hi:i<3):Al (gQ i)<=16:=Hz.2 (Nat.lt_trans (pJ i hi) (Hz.1 (Wz i hi)))
theorem kQ (i:Nat)(hi:i<3):2<=gQ i:=by have:=(Ol i hi).1;omega
theorem qD (i:Nat)(hi:i<3):2<=gP i:=by have:=pJ i hi;have:=kQ i hi;omega
theorem Ci.part {lo:Nat}{bs:List Nat}{v:Value}{w:World}(h:Ci lo bs v w)(h8:Ay bs):∃p c,v=.slice p bs.length c/\Au w ⟨p,bs.length,c,bs⟩/\(p=none->c=0) :=
 h.elim fun p c hv hr _ hz=>⟨p,c,hv,⟨hr,h8⟩,hz⟩
def gA (w:World):World:=w.alloc (.cells #[.int .u8 109] 5 (1,2))
theorem Sp (w:World):Below w.heap.size w (gA w):=By
theorem Uz (w:World):Au (gA w) ⟨some ⟨w.heap.size,0,none⟩,1,1,[109]⟩:=by
 have h1:(gA w).heap[w.heap.size]? = some (.cells #[.int .u8 109] 5 (1,2)):=by
  unfold gA;rw[heap_alloc_new]
 exact⟨Ik (bs:=[109]) h1 rfl (by decide:1<=9223372036854775807),(by decide:∀x∈[109],x<256)⟩
theorem pN:2*Al 101=2:=by decide
theorem qZ:Cx 607 101 64:=⟨by decide,by decide,Pn 0 (by omega)⟩
theorem qY:Cx 607 101 597:=⟨by decide,by decide,gN 0 (by omega)⟩
theorem oI:Op 607 101 64 597 (64^7%607) (597^7%607) [109] (lD 607 101 64 597 7 [109]):=oM (by decide) (by decide) qZ qY
theorem Tx (w:World)(hr:Tabs w) :
  Calls Tryz.prog 52 #[] w fun e w'=>e=.returned (.bool true)/\Below w.heap.size w w':=by
 have HG0:=Aa (Mw w 0 hr);have HT:=Aa hr;clear hr;go_enter Tryz.func52,Tryz.ntmps52
 go_wp2_with fail
 refine HG0.out.mono ?_;rintro en w1 ⟨b,rfl,hg,hb1⟩;have hg':Bb w1 b 607 101 64 597:=hg;have HG:=Aa hg';have HB1:=Aa hb1;clear hg hg' hb1 HG0
 go_wp2_with fail
 refine(Xa HG.out).mono ?_;rintro en w2 ⟨x2,rfl,h2,hb2⟩;have HX2:=Aa h2;have HG2:=Aa (HG.out.below hb2);have HB2:=Aa (Ae HB1.out hb2);clear h2 hb2 HG
 go_wp2_with fail
 refine(kR HG2.out).mono ?_;rintro en w3 ⟨x3,rfl,h3,hb3⟩;have HX3:=Aa h3;have HX23:=Aa (HX2.out.below hb3);have HG3:=Aa (HG2.out.below hb3);have HB3:=Aa (Ae HB2.out hb3);clear h3 hb3 HG2 HX2
 go_wp2_with fail
 refine(Dn (n:=7) w3 (by omega)).mono ?_;rintro en w4 ⟨x4,rfl,h4,hb4⟩;have hcv:=Joins.run_convert_bytes_const_at (P:=Tryz.prog) w4 60 5 #[.int .u8 109] 1 1 w4.heap.size rfl Tryz.underlying60 Tryz.underlying5;have hbl:=Sp w4;have HP4:=Aa (Uz w4);have hb34:=Ae hb4 hbl;have HX4:=Aa (h4.below hbl);have HX24:=Aa (HX23.out.below hb34);have HX34:=Aa (HX3.out.below hb34);have HG4:=Aa (HG3.out.below hb34);have HB4:=Aa (Ae HB3.out hb34);clear h4 hb4 hbl hb34 HG3 HX23 HX3
 go_wp2_with fail
 refine Ou (w1:=gA w4) (by kernel_rfl) ?_;refine(jO HG4.out (HT.out.below HB4.out HT.out.size) HX24.out HX34.out HX4.out (by decide) (by decide) qZ qY (Wz 0 (by omega)) (cM 0 (by omega)) HP4.out (fun h=>by cases h) (by decide)).mono ?_;rintro en w5 ⟨_,_,rfl,⟨xa,xb,xy,xz,rfl,hc⟩,ho,hb5⟩;obtain⟨ps,cs,rfl,hps,_⟩:=ho.part (gS _ _ _ _ _ _);obtain⟨SB,hSB⟩:∃S,lD 607 101 64 597 7 [109]=S:=⟨_,rfl⟩
 obtain⟨YY,hYY⟩:∃S,64^7%607=S:=⟨_,rfl⟩
 obtain⟨ZZ,hZZ⟩:∃S,597^7%607=S:=⟨_,rfl⟩
 have hl2:SB.length=2:=by rw[<-hSB,cU];exact pN
 have HOK:Ad (Op 607 101 64 597 YY ZZ [109] SB):=⟨by rw[<-hSB,<-hYY,<-hZZ];exact oI⟩
 have hYl:YY<Ap 33:=by rw[<-hYY];decide
 have hZl:ZZ<Ap 33:=by rw[<-hZZ];decide
 rw[hYY,hZZ]at hc
 rw[hSB,hl2]at hps
 simp only[hSB,hl2];have hb6:Below w5.heap.size w5 (w5.alloc (.cells #[.slice xa.1 xa.2.1 xa.2.2,.slice xb.1 xb.2.1 xb.2.2,.slice xy.1 xy.2.1 xy.2.2,.slice xz.1 xz.2.1 xz.2.2] 82)):=By;have hx6:=Cm.made 82 w5 (.slice xa.1 xa.2.1 xa.2.2) (.slice xb.1 xb.2.1 xb.2.2) (.slice xy.1 xy.2.1 xy.2.2) (.slice xz.1 xz.2.1 xz.2.2);obtain⟨w6,hw6⟩:∃W,w5.alloc (.cells #[.slice xa.1 xa.2.1 xa.2.2,.slice xb.1 xb.2.1 xb.2.2,.slice xy.1 xy.2.1 xy.2.2,.slice xz.1 xz.2.1 xz.2.2] 82)=W:=⟨_,rfl⟩
 rw[hw6]at hb6 hx6
 have hcv:=Joins.run_convert_bytes_const_at (P:=Tryz.prog) w6 60 5 #[.int .u8 109] 1 1 w6.heap.size rfl Tryz.underlying60 Tryz.underlying5;have hbl:=Sp w6;have hb67:=Ae hb6 hbl;have hb57:=Ae hb5 hb67;have HP7:=Aa (Uz w6);have HPS:=Aa (hps.below hb67);have HCA:=Aa (hc.below hb67);have HG7:=Aa (HG4.out.below hb57);have HB7:=Aa (Ae HB4.out hb57);have HYl:=Aa hYl;have HZl:=Aa hZl;obtain⟨g0,g1,g2,g3⟩:=(cells4 hx6.at_).1;clear ho hps hb5 hSB hYY hZZ hl2 hc hYl hZl hb6 hx6 hbl hb67 hb57
 go_wp2_with fail
 refine Ou (w1:=gA w6) (by kernel_rfl) ?_;refine(Kf HG7.out (HT.out.below HB7.out HT.out.size) HCA.out (by decide) (by decide) HYl.out HZl.out (Wz 0 (by omega)) (cM 0 (by omega)) HP7.out HPS.out).mono ?_;rintro en w8 ⟨X,rfl,hX,hb8⟩;have hXt:X=true:=hX.2 HOK.out;subst hXt;have HB8:=Aa (Ae HB7.out hb8);clear hX hb8 hcv g0 g1 g2 g3;go_wp2;go_ret;exact⟨rfl,HB8.out⟩
end Go.Proofs.YtnbmfaihlefgfaaGreatDoor
