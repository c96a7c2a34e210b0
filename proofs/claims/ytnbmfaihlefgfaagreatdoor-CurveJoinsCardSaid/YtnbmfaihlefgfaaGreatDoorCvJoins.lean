/- CurveJoins, walked: what goes through any values at any places tells at any place what the document says, in the field and in the exponent, or is refused as it says. -/
import Derived.Lib.SmallJoins
import Derived.Test.YtnbmfaihlefgfaaGreatDoorDcJ
set_option maxRecDepth 1000000
set_option maxHeartbeats 16000000
set_option linter.all false
namespace Go.Proofs.YtnbmfaihlefgfaaGreatDoor
open Go Go.RowKit Go.Proofs.YtnbmfaihlefgfaaGreatDoor.Flow
theorem pY (i:Nat)(hi:i<3):Ay (gP i)<=16:=by
 rw[Ox i hi]
 match i,hi with
 | 0,_=>decide
 | 1,_=>decide
 | 2,_=>decide
theorem qT:∀i,i<3->gQ i<gP i
 | 0,_=>by decide
 | 1,_=>by decide
 | 2,_=>by decide
 | _+3,h=>by omega
theorem pW (i:Nat)(hi:i<3):Ay (gQ i)<=16:=Pa.2 (Nat.lt_trans (qT i hi) (Pa.1 (pY i hi)))
theorem Ka {w:World}{p:Option Addr}{n c e:Nat}{xs:List Nat}(h:Aw w e p n c xs)(he:e<=200)(hn:n<=1000) :
  Calls Tryz.prog 25 #[.slice p n c] w fun en w'=>∃u,en=.returned u/\Uj n xs u w'/\Below w.heap.size w w' :=
 (cC h he hn).mono fun _ _ ⟨q,d,h1,h2,h3⟩=>⟨_,h1,⟨q,d,rfl,h2⟩,h3⟩
theorem Rc {w:World}{q n V F:Nat}{vq v:Value}{xs:List Nat}(hQ:Al q vq w)(h:Uj n xs v w)(hq:2<=q)(hl:Ak q<=100000)(hx:∀x∈xs,Ak x<=100000)(hn:n<=12)(hV:V<=1000000)(hF:Cn q n V xs=F) :
  Calls Tryz.prog 24 #[vq,v,.int .i64 V] w fun en w'=>∃x,en=.returned x/\x=.int .i64 (F:Nat)/\Below w.heap.size w w':=by
 obtain⟨p,c,rfl,h2⟩:=h.ex;subst hF;refine(Xj hQ h2 hq hl hx hn hV).mono ?_;rintro en w9 ⟨rfl,hb⟩;exact⟨_,rfl,rfl,hb⟩
theorem aA {w:World}{q n X N:Nat}{vq vx u t:Value}{xs ys:List Nat}(hQ:Al q vq w)(h:Uj n xs u w)(hY:Uj n ys t w)(hX:Al X vx w)(hq:2<=q)(hl:Ak q<=100000)(hlX:Ak X<=100000)(hx:∀x∈xs,Ak x<=100000)(hy:∀x∈ys,Ak x<=100000)(hn:n<=12)(hu:∀(k j a b:Nat),k≠j->xs[k]? = some a->xs[j]? = some b->Nat.gcd q (Cb a b q)=1)(hN:Nc q X [] xs ys 0=N) :
  Calls Tryz.prog 29 #[vq,u,t,vx] w fun en w'=>∃u,en=.returned u/\Al N u w'/\Below w.heap.size w w':=by
 obtain⟨p,c,rfl,h2⟩:=h.ex;obtain⟨p',c',rfl,h3⟩:=hY.ex;subst hN;exact Uc hQ h2 h3 hX hq hl hlX hx hy hn hu
theorem Xg {w:World}{P q G H n X N:Nat}{v vx u t:Value}{xs ys:List Nat}(hV:Gv P q G H v w)(h:Uj n xs u w)(hY:Uj n ys t w)(hX:Al X vx w)(hP:2<=P)(lP:Ak P<=100000)(hq:2<=q)(hl:Ak q<=100000)(hlX:Ak X<=100000)(hx:∀x∈xs,Ak x<=100000)(hy:∀x∈ys,Ak x<=100000)(hn:n<=12)(hu:∀(k j a b:Nat),k≠j->xs[k]? = some a->xs[j]? = some b->Nat.gcd q (Cb a b q)=1)(hN:Ho P 1 (ys.zip (Gb q X [] xs))=N) :
  Calls Tryz.prog 30 #[v,u,t,vx] w fun en w'=>∃u,en=.returned u/\Al N u w'/\Below w.heap.size w w':=by
 obtain⟨p,c,rfl,h2⟩:=h.ex;obtain⟨p',c',rfl,h3⟩:=hY.ex;subst hN;exact Ta hV h2 h3 hX hP lP hq hl hlX hx hy hn hu
theorem Xn (w:World)(hr:Tabs w)(A:Int)(ux:Option Addr)(n ex:Nat)(xs:List Nat)(hx:Ci w .u64 ux n ex xs)(hx64:∀x∈xs,nH x)(uy:Option Addr)(m ey:Nat)(ys:List Nat)(hy:Ci w .u64 uy m ey ys)(hy64:∀x∈ys,nH x)(X:Nat)(hX:nH X) :
  Calls Tryz.prog 3 #[.int .i64 A,.slice ux n ex,.slice uy m ey,.int .u64 (X:Nat)] w fun e w'=>e=.returned (.bool true)/\Below w.heap.size w w':=by
 have HLI:=Aa Ua;have HGR:=Aa Nf;have HT:=Aa hr;have HRX:=Aa hx;have H6X:=Aa hx64;have HRY:=Aa hy;have H6Y:=Aa hy64;have HX:Ab (X<18446744073709551616):=⟨hX⟩
 have HXA:Ab (∀x∈xs,Ak x<=100000):=⟨fun x h=>by have:=(Bq x 64).2 (hx64 x h);omega⟩
 have HYA:Ab (∀x∈ys,Ak x<=100000):=⟨fun x h=>by have:=(Bq x 64).2 (hy64 x h);omega⟩
 have HXl:Ab (Ak X<=100000):=⟨by have:=(Bq X 64).2 hX;omega⟩
 have hcp1:=hx.cap;have hcm1:=hx.max;have hcp2:=hy.cap;have hcm2:=hy.max;obtain⟨i,hi⟩:∃i,((IntKind.u64.wrap A)%3).toNat=i:=⟨_,rfl⟩
 have HI3:Ab (i<3):=⟨by rw[<-hi];exact kV A⟩
 have HI:=Aa hi;clear hx hx64 hy hy64 hr hX hi;go_enter Tryz.func3,Tryz.ntmps3
 go_wp2_with fail
 refine(HLI.out w HT.out).mono ?_;rintro en w1 ⟨rfl,b1⟩;have B1:=Aa b1;clear b1
 by_cases hbn:6<n
 .have hb':(6:Int)<n:=by omega
  go_wp2_with fail
  refine(HLI.out w1 (HT.out.below B1.out HT.out.size)).mono ?_;rintro en w2 ⟨rfl,b2⟩;have B2:=Aa (Ae B1.out b2);clear b2;go_wp2;go_ret;exact⟨rfl,B2.out⟩
 have hbn':¬(6:Int)<n:=by omega
 by_cases hbm:6<m
 .have hb':(6:Int)<m:=by omega
  go_wp2_with fail
  refine(HLI.out w1 (HT.out.below B1.out HT.out.size)).mono ?_;rintro en w2 ⟨rfl,b2⟩;have B2:=Aa (Ae B1.out b2);clear b2;go_wp2;go_ret;exact⟨rfl,B2.out⟩
 have hbm':¬(6:Int)<m:=by omega
 go_wp2_with fail
 refine(HGR.out w1 A (HT.out.below B1.out HT.out.size)).mono ?_;rintro en w2 ⟨b,rfl,hg2,b2⟩;rw[HI.out]at hg2
 obtain⟨P,hP⟩:∃q,gP i=q:=⟨_,rfl⟩
 obtain⟨q,hq⟩:∃q,gQ i=q:=⟨_,rfl⟩
 obtain⟨gg,hgg⟩:∃q,gG i=q:=⟨_,rfl⟩
 obtain⟨hh,hhh⟩:∃q,gH i=q:=⟨_,rfl⟩
 have HPQ:Ab (Ch q):=⟨by rw[<-hq];exact lF i HI3.out⟩
 have HP2:Ab (2<=P):=⟨by have:=Jh i HI3.out;omega⟩
 have HGM:Ab (gg^q%P=1%P):=⟨by
  have h1:=Vi i HI3.out;rw[hq,hP,hgg]at h1
  rw[h1,Nat.mod_eq_of_lt (by have:=HP2.out;omega)]⟩
 have HHM:Ab (hh^q%P=1%P):=⟨by
  have h1:=gU i HI3.out;rw[hq,hP,hhh]at h1
  rw[h1,Nat.mod_eq_of_lt (by have:=HP2.out;omega)]⟩
 have HG1:Ab (gg%P≠1%P):=⟨by
  have h1:=Jh i HI3.out;rw[hq,hP,hgg,hhh]at h1
  rw[Nat.mod_eq_of_lt h1.2.2.1,Nat.mod_eq_of_lt (by omega)];omega⟩
 have hbd:=Jh i HI3.out;rw[hq,hP,hgg,hhh]at hbd
 have HQ0:Ab (0<q):=⟨by omega⟩
 have HP0:Ab (0<P):=⟨by omega⟩
 have hP65:Ak P<=65:=(Bq P 65).2 hbd.2.2.2.2.2;have HPl:Ab (Ak P<=100000):=⟨by omega⟩
 have HGl:Ab (Ak gg<=100000):=⟨Dm (Bx (Nat.le_of_lt hbd.2.2.1)) HPl.out⟩
 have HHl:Ab (Ak hh<=100000):=⟨Dm (Bx (Nat.le_of_lt hbd.2.2.2.2.1)) HPl.out⟩
 have HQl:Ab (Ak q<=100000):=⟨by
  have hl:=(pW i HI3.out)
  rw[hq]at hl
  have:=gT hl;omega⟩
 clear hbd hP65;rw[hP,hq,hgg,hhh]at hg2
 have HG2:=Aa hg2;have B2:=Aa (Ae B1.out b2);clear hg2 b2 hq hP hgg hhh
 go_wp2_with fail
 refine(Yo HG2.out).mono ?_;rintro en w3 ⟨_,rfl,hv,b3'⟩;obtain⟨p0,n0,c0,p1,n1,c1,p2,n2,c2,p3,n3,c3,rfl,h0,h1,h2,h3⟩:=hv.ex;have HV3:Ab (Gv P q gg hh (.agg #[.slice p0 n0 c0,.slice p1 n1 c1,.slice p2 n2 c2,.slice p3 n3 c3]) w3):=⟨⟨p0,n0,c0,p1,n1,c1,p2,n2,c2,p3,n3,c3,rfl,h0,h1,h2,h3⟩⟩
 have HQ3:=Aa (Al.of h1);have HG3:=Aa (HG2.out.below b3');have B3:=Aa (Ae B2.out b3');clear hv h0 h1 h2 h3 b3'
 go_wp2_with fail
 refine(Nm w3 ux n ex xs (HRX.out.below B3.out) H6X.out (by omega)).mono ?_;rintro en w4 ⟨px,cx,rfl,hp4,b4⟩;have HPX4:=Aa hp4;have HV4:=Aa (HV3.out.below b4);have HQ4:=Aa (HQ3.out.below b4);have HG4:=Aa (HG3.out.below b4);have B4:=Aa (Ae B3.out b4);have hxm:=hp4.max;have hxc:=hp4.cap;clear hp4 b4
 go_wp2_with fail
 refine(Nm w4 uy m ey ys (HRY.out.below B4.out) H6Y.out (by omega)).mono ?_;rintro en w5 ⟨py,cy,rfl,hp5,b5⟩;have hbx:Below w5.heap.size w5 (w5.alloc (.cells #[.slice p0 n0 c0,.slice p1 n1 c1,.slice p2 n2 c2,.slice p3 n3 c3] 30)):=Dl;have hbo:=Dp.made 30 w5 (.slice p0 n0 c0) (.slice p1 n1 c1) (.slice p2 n2 c2) (.slice p3 n3 c3);obtain⟨wa,hwa⟩:∃wa,w5.alloc (.cells #[.slice p0 n0 c0,.slice p1 n1 c1,.slice p2 n2 c2,.slice p3 n3 c3] 30)=wa:=⟨_,rfl⟩
 rw[hwa]at hbx hbo
 obtain⟨b3,hb3⟩:∃x,w5.heap.size=x:=⟨_,rfl⟩
 rw[hb3]at hbo
 have hb5a:=Ae b5 hbx;have HPYa:=Aa (hp5.below hbx);have HPXa:=Aa (HPX4.out.below hb5a);have HVa:=Aa (HV4.out.below hb5a);have HQa:=Aa (HQ4.out.below hb5a);have HGa:=Aa (HG4.out.below hb5a);have HBXa:=Aa hbo;have Ba:=Aa (Ae B4.out hb5a);have hym:=hp5.max;have hyc:=hp5.cap;clear hp5 b5 hbx hbo hb5a HPX4 HV4 HQ4 HG4 B4;obtain⟨F,hF⟩:∃F,Cn q n m xs=F:=⟨_,rfl⟩
 obtain⟨N1,hN1⟩:∃F,Nc q X [] xs ys 0=F:=⟨_,rfl⟩
 obtain⟨N2,hN2⟩:∃F,Ho P 1 (ys.zip (Gb q X [] xs))=F:=⟨_,rfl⟩
 have HF:=Aa hF;have HN1:=Aa hN1;have HN2:=Aa hN2;have HQ2:Ab (2<=q):=⟨HPQ.out.two⟩
 clear hF hN1 hN2;have HC:Ab (∀w':World,∀v:Value,Cp w' b P q gg hh->Aw w' 2 px n cx xs->Aw w' 2 py m cy ys->Fit 2 X v w'->Calls Tryz.prog 22 #[.pointer (some ⟨b,0,none⟩),.slice px n cx,.slice py m cy,v] w' (Xw F N2 w')):=⟨fun w' v h1 h2 h3 h4=>by
  have:=Zg (X:=X) (v:=v) HPQ.out h1 h2 h3 h4 (by decide) (by decide) (by decide) (by omega) (by omega)
  rwa [HF.out,HN2.out]at this⟩
 have HD:Ab (∀w':World,∀(r:Nat) (v:Value),Ring w' r q 33->Aw w' 2 px n cx xs->Aw w' 2 py m cy ys->Fit 2 X v w'->Calls Tryz.prog 19 #[.pointer (some ⟨r,0,none⟩),.slice px n cx,.slice py m cy,v] w' (Xw F N1 w')):=⟨fun w' r v h1 h2 h3 h4=>by
  have:=kR (X:=X) (v:=v) HPQ.out h1 h2 h3 h4 (by decide) (by decide) (by decide) (by omega) (by omega)
  rwa [HF.out,HN1.out]at this⟩
 go_wp2_with fail
 refine(Gg HGa.out).mono ?_;rintro en wb ⟨r,rfl,hr,b9⟩;have HRb:=Aa hr;have HPYb:=Aa (HPYa.out.below b9);have HPXb:=Aa (HPXa.out.below b9);have HVb:=Aa (HVa.out.below b9);have HQb:=Aa (HQa.out.below b9);have HGb:=Aa (HGa.out.below b9);have HBXb:=Aa (HBXa.out.below b9 HBXa.out.lt);have Bb:=Aa (Ae Ba.out b9);clear HPYa HPXa HVa HQa HGa HBXa Ba;clear hr b9
 go_wp2_with fail
 refine(Dh (n:=X) wb HX.out).mono ?_;rintro en wc ⟨xv,rfl,hf,b9⟩;have HXFc:=Aa hf;have HPYc:=Aa (HPYb.out.below b9);have HPXc:=Aa (HPXb.out.below b9);have HVc:=Aa (HVb.out.below b9);have HQc:=Aa (HQb.out.below b9);have HGc:=Aa (HGb.out.below b9);have HRc:=Aa (HRb.out.below b9);have HBXc:=Aa (HBXb.out.below b9 HBXb.out.lt);have Bc:=Aa (Ae Bb.out b9);clear HPYb HPXb HVb HQb HGb HRb HBXb Bb;clear hf b9
 by_cases hF0:F=0
 .subst hF0;obtain⟨hnm,_,hnd⟩:=Zv HF.out;have HU:Ab (∀(k j a b:Nat),k≠j->xs[k]? = some a->xs[j]? = some b->Nat.gcd q (Cb a b q)=1):=⟨fun k j a b hkj ha hb=>by
   refine fG HPQ.out fun e=>?_
   rcases Nat.lt_or_gt_of_ne hkj with h|h
   .exact Mj.1 hnd k j a b h ha hb e
   .exact Mj.1 hnd j k b a h hb ha e.symm⟩
  subst hnm
  go_wp2_with fail
  refine(HD.out wc r xv HRc.out HPXc.out HPYc.out HXFc.out).mono ?_;rintro en wd ⟨hj1,hj2,b9⟩;obtain⟨_,rfl,⟨pj,nj,cj,rfl,j1,j2⟩⟩:=hj2 rfl;clear hj1 hj2;have HPYd:=Aa (HPYc.out.below b9);have HPXd:=Aa (HPXc.out.below b9);have HVd:=Aa (HVc.out.below b9);have HQd:=Aa (HQc.out.below b9);have HGd:=Aa (HGc.out.below b9);have HBXd:=Aa (HBXc.out.below b9 HBXc.out.lt);have Bd:=Aa (Ae Bc.out b9);clear HPYc HPXc HVc HQc HGc HBXc Bc;have hb9:Below wd.heap.size wd (wd.alloc (.cells #[.slice pj nj cj] 36)):=Dl;have hx9:=Af.made wd (.slice pj nj cj);obtain⟨we,hwe⟩:∃x,wd.alloc (.cells #[.slice pj nj cj] 36)=x:=⟨_,rfl⟩
  rw[hwe]at hb9 hx9
  obtain⟨b13,hb13⟩:∃x,wd.heap.size=x:=⟨_,rfl⟩
  rw[hb13]at hx9
  have HJ1:=Aa ((Fit.of j1 j2).below hb9);clear j1;have HXJe:=Aa hx9;have HPYe:=Aa (HPYd.out.below hb9);have HPXe:=Aa (HPXd.out.below hb9);have HVe:=Aa (HVd.out.below hb9);have HQe:=Aa (HQd.out.below hb9);have HGe:=Aa (HGd.out.below hb9);have HBXe:=Aa (HBXd.out.below hb9 HBXd.out.lt);have Be:=Aa (Ae Bd.out hb9);clear HPYd HPXd HVd HQd HGd HBXd Bd;clear b9 hb9 hx9 HXFc HRc
  go_wp2_with fail
  refine(Dh (n:=X) we HX.out).mono ?_;rintro en wf ⟨xv2,rfl,hf,b9⟩;have HXFf:=Aa hf;have HJ1f:=Aa (HJ1.out.below b9);have HPYf:=Aa (HPYe.out.below b9);have HPXf:=Aa (HPXe.out.below b9);have HVf:=Aa (HVe.out.below b9);have HQf:=Aa (HQe.out.below b9);have HGf:=Aa (HGe.out.below b9);have HBXf:=Aa (HBXe.out.below b9 HBXe.out.lt);have HXJf:=Aa (HXJe.out.below b9 HXJe.out.lt);have Bf:=Aa (Ae Be.out b9);clear HPYe HPXe HVe HQe HGe HBXe HXJe Be;clear hf b9
  go_wp2_with fail
  refine(HC.out wf xv2 HGf.out HPXf.out HPYf.out HXFf.out).mono ?_;rintro en wg ⟨hj1,hj2,b9⟩;obtain⟨_,rfl,⟨pk,nk,ck,rfl,j1,j2⟩⟩:=hj2 rfl;have HJ1g:=Aa (HJ1f.out.below b9);clear hj1 hj2;have HPYg:=Aa (HPYf.out.below b9);have HPXg:=Aa (HPXf.out.below b9);have HVg:=Aa (HVf.out.below b9);have HQg:=Aa (HQf.out.below b9);have HGg:=Aa (HGf.out.below b9);have HBXg:=Aa (HBXf.out.below b9 HBXf.out.lt);have HXJg:=Aa (HXJf.out.below b9 HXJf.out.lt);have Bg:=Aa (Ae Bf.out b9);clear HPYf HPXf HVf HQf HGf HBXf HXJf Bf;clear b9;have hb9:Below wg.heap.size wg (wg.alloc (.cells #[.slice pk nk ck] 36)):=Dl;have hx9:=Af.made wg (.slice pk nk ck);obtain⟨wh,hwh⟩:∃x,wg.alloc (.cells #[.slice pk nk ck] 36)=x:=⟨_,rfl⟩
  rw[hwh]at hb9 hx9
  obtain⟨b15,hb15⟩:∃x,wg.heap.size=x:=⟨_,rfl⟩
  rw[hb15]at hx9
  have HJ2h:=Aa ((Fit.of j1 j2).below hb9);have HJ1h:=Aa (HJ1g.out.below hb9);clear j1;have HXKh:=Aa hx9;have HPYh:=Aa (HPYg.out.below hb9);have HPXh:=Aa (HPXg.out.below hb9);have HVh:=Aa (HVg.out.below hb9);have HQh:=Aa (HQg.out.below hb9);have HGh:=Aa (HGg.out.below hb9);have HBXh:=Aa (HBXg.out.below hb9 HBXg.out.lt);have HXJh:=Aa (HXJg.out.below hb9 HXJg.out.lt);have Bh:=Aa (Ae Bg.out hb9);clear HPYg HPXg HVg HQg HGg HBXg HXJg Bg;clear hb9 hx9 HXFf
  go_wp2_with fail
  refine(Gg HGh.out).mono ?_;rintro en wi ⟨r2,rfl,hr,b9⟩;have HRi:=Aa hr;have HJ1i:=Aa (HJ1h.out.below b9);have HJ2i:=Aa (HJ2h.out.below b9);have HPYi:=Aa (HPYh.out.below b9);have HPXi:=Aa (HPXh.out.below b9);have HVi:=Aa (HVh.out.below b9);have HQi:=Aa (HQh.out.below b9);have HGi:=Aa (HGh.out.below b9);have HBXi:=Aa (HBXh.out.below b9 HBXh.out.lt);have HXJi:=Aa (HXJh.out.below b9 HXJh.out.lt);have HXKi:=Aa (HXKh.out.below b9 HXKh.out.lt);have Bi:=Aa (Ae Bh.out b9);clear HPYh HPXh HVh HQh HGh HBXh HXJh HXKh Bh;clear hr b9;have HTHR:=Aa (bM HPQ.out HRi.out HPXi.out HPYi.out (by decide) (by decide) (by omega) (by omega) HF.out)
  go_wp2_with fail
  refine HTHR.out.mono ?_;rintro en wj ⟨_,ps,ss,rfl,⟨qg,cg,rfl,hg5,_⟩,_,b9⟩;clear hg5 HTHR;have HJ1j:=Aa (HJ1i.out.below b9);have HJ2j:=Aa (HJ2i.out.below b9);have HPYj:=Aa (HPYi.out.below b9);have HPXj:=Aa (HPXi.out.below b9);have HVj:=Aa (HVi.out.below b9);have HQj:=Aa (HQi.out.below b9);have HGj:=Aa (HGi.out.below b9);have HBXj:=Aa (HBXi.out.below b9 HBXi.out.lt);have HXJj:=Aa (HXJi.out.below b9 HXJi.out.lt);have HXKj:=Aa (HXKi.out.below b9 HXKi.out.lt);have Bj:=Aa (Ae Bi.out b9);clear HPYi HPXi HVi HQi HGi HBXi HXJi HXKi Bi;clear b9;go_wp2;refine Aj (by kernel_rfl) (by kernel_rfl)
   [some (.pointer (some ⟨b3,1,none⟩)),some (.slice p1 n1 c1),some (.slice px n cx),none,some (.slice py n cy),some (.int .i64 (n:Nat)),none,some (.int .i64 ((0:Nat):Int))]
   [false,false,false,true,false,false,true,false] rfl
   (fun w1 w2=>Below w1.heap.size w1 w2)
   (fun _ w'=>Below wj.heap.size wj w')
   (fun i v w'=>match i with
    | 3=>Uj n xs v w'
    | 6=>v=.int .i64 (0:Nat)
    | _=>True)
   ?_ (Br _ _).drew ?_ ?_
  .intro i v w1 w2 hf hb;split at hf
   .exact hf.below hb
   .exact hf
   .trivial
  .simp only[Bu,Nat.reduceAdd];refine⟨?_,?_,?_,?_,?_,?_,?_,?_,trivial⟩
   all_goals intro D sp w' hD hW hdp hbx'
   case refine_2=>
    have hB4:=HBXj.out.below hbx' HBXj.out.lt;have g1:=hB4.cells.2.1
    with_reducible refine Ad ?_ ?_
    all_goals simp[Region.wanted,yielded,execOp,Act.eval,Act.put,go_sem,g1]
   case refine_4=>
    (with_reducible refine Ac (w1:=w') (f := 25) (args:=#[.slice px n cx]) ?_ ?_ ?_)
    .simp[Region.wanted,yielded,Act.put,go_sem]
    .simp[Act.eval,Act.put,go_sem]
    .refine(Ka (HPXj.out.below hbx') (by decide) (by omega)).mono ?_;rintro en w9 ⟨u,rfl,hu,hb⟩;exact⟨u,rfl,hb,hu,Ae hbx' hb⟩
   case refine_6=>
    (with_reducible refine Ah (w1:=w') (v:=.int .i64 (n:Nat)) ?_ ?_ ?_)
    .simp[Region.wanted,yielded,Act.put,go_sem]
    .simp[Act.eval,Act.put,go_sem]
    .exact⟨rfl,rfl⟩
   case refine_7=>
    have k3:Uj n xs (sp 3) w':=(hdp 3 (mq (by kernel_rfl))).2
    (with_reducible refine Ac (w1:=w') (f := 24) (args:=#[.slice p1 n1 c1,sp 3,.int .i64 (n:Nat)]) ?_ ?_ ?_)
    .simp[Region.wanted,yielded,Act.put,go_sem]
    .simp[Act.eval,Act.put,go_sem]
    .refine(Rc (HQj.out.below hbx') k3 HQ2.out HQl.out HXA.out (by omega) (by omega) HF.out).mono ?_;rintro en w9 ⟨_,rfl,rfl,hb⟩;exact⟨_,rfl,hb,rfl,Ae hbx' hb⟩
   case refine_8=>
    have k6:(sp 6)=.int .i64 (0:Nat):=(hdp 6 (mq (by kernel_rfl))).2
    with_reducible refine Ad ?_ ?_
    all_goals simp[Region.wanted,yielded,execOp,Act.eval,Act.put,go_sem,k6]
   all_goals ((with_reducible refine Ad ?_ ?_);all_goals first|(simp only[Region.wanted];done)|simp[Region.wanted,yielded,execOp,Act.eval,Act.put,go_sem])
  .intro sp wk hsp hb;have HJ1k:=Aa (HJ1j.out.below hb);have HJ2k:=Aa (HJ2j.out.below hb);have HPYk:=Aa (HPYj.out.below hb);have HPXk:=Aa (HPXj.out.below hb);have HVk:=Aa (HVj.out.below hb);have HQk:=Aa (HQj.out.below hb);have HGk:=Aa (HGj.out.below hb);have HBXk:=Aa (HBXj.out.below hb HBXj.out.lt);have HXJk:=Aa (HXJj.out.below hb HXJj.out.lt);have HXKk:=Aa (HXKj.out.below hb HXKj.out.lt);have Bk:=Aa (Ae Bj.out hb);clear HPYj HPXj HVj HQj HGj HBXj HXJj HXKj Bj;clear hsp hb;simp only[An,Nat.reduceAdd];generalize sp 3=y3,sp 6=y6 at *
   go_simp
   go_wp2_with fail
   refine(Gq X wk HX.out).mono ?_;rintro en wl ⟨qt,mt,dt,rfl,ht,b9,_⟩;have HTl:=Aa (Al.of ht);have HJ1l:=Aa (HJ1k.out.below b9);have HJ2l:=Aa (HJ2k.out.below b9);have HPYl:=Aa (HPYk.out.below b9);have HPXl:=Aa (HPXk.out.below b9);have HVl:=Aa (HVk.out.below b9);have HQl_:=Aa (HQk.out.below b9);have HGl:=Aa (HGk.out.below b9);have HBXl:=Aa (HBXk.out.below b9 HBXk.out.lt);have HXJl:=Aa (HXJk.out.below b9 HXJk.out.lt);have HXKl:=Aa (HXKk.out.below b9 HXKk.out.lt);have Bl:=Aa (Ae Bk.out b9);clear HPYk HPXk HVk HQk HGk HBXk HXJk HXKk Bk;clear ht b9;go_wp2;refine Aj (by kernel_rfl) (by kernel_rfl)
    [some (.agg #[.slice pj nj cj]),some (.pointer (some ⟨b3,1,none⟩)),some (.slice p1 n1 c1),some (.slice px n cx),none,some (.slice py n cy),none,some (.slice qt mt dt),none,none,some (.bool true),some (.agg #[.slice pk nk ck]),some (.agg #[.slice p0 n0 c0,.slice p1 n1 c1,.slice p2 n2 c2,.slice p3 n3 c3]),some (.slice px n cx),none,some (.slice py n cy),none,some (.slice qt mt dt),none,none,some (.bool true),some (.bool true),some (.slice qg n cg),some (.int .i64 (n:Nat)),some (.slice px n cx),some (.int .i64 (n:Nat)),some (.bool true),some (.bool true),some (.bool true)]
    [false,false,false,false,true,false,true,false,true,true,false,false,false,false,true,false,true,false,true,true,false,false,false,false,false,false,false,false,false] rfl
    (fun w1 w2=>Below w1.heap.size w1 w2)
    (fun _ w'=>Below wl.heap.size wl w')
    (fun i v w'=>match i with
     | 4=>Uj n xs v w'
     | 6=>Uj n ys v w'
     | 8=>Al N1 v w'
     | 9=>v=.bool true
     | 14=>Uj n xs v w'
     | 16=>Uj n ys v w'
     | 18=>Al N2 v w'
     | 19=>v=.bool true
     | _=>True)
    ?_ (Br _ _).drew ?_ ?_
   .intro i v w1 w2 hf hb;split at hf
    .exact hf.below hb
    .exact hf.below hb
    .exact hf.below hb
    .exact hf
    .exact hf.below hb
    .exact hf.below hb
    .exact hf.below hb
    .exact hf
    .trivial
   .simp only[Bu,Nat.reduceAdd];refine⟨?_,?_,?_,?_,?_,?_,?_,?_,?_,?_,?_,?_,?_,?_,?_,?_,?_,?_,?_,?_,?_,?_,?_,?_,?_,?_,?_,?_,?_,trivial⟩
    all_goals intro D sp w' hD hW hdp hbx'
    case refine_1=>
     have c0:=(HXJl.out.below hbx' HXJl.out.lt).cell
     with_reducible refine Ad ?_ ?_
     all_goals simp[Region.wanted,yielded,execOp,Act.eval,Act.put,go_sem,c0]
    case refine_3=>
     have hB4:=HBXl.out.below hbx' HBXl.out.lt;have g1:=hB4.cells.2.1
     with_reducible refine Ad ?_ ?_
     all_goals simp[Region.wanted,yielded,execOp,Act.eval,Act.put,go_sem,g1]
    case refine_5|refine_15=>
     (with_reducible refine Ac (w1:=w') (f := 25) (args:=#[.slice px n cx]) ?_ ?_ ?_)
     .simp[Region.wanted,yielded,Act.put,go_sem]
     .simp[Act.eval,Act.put,go_sem]
     .refine(Ka (HPXl.out.below hbx') (by decide) (by omega)).mono ?_;rintro en w9 ⟨u,rfl,hu,hb⟩;exact⟨u,rfl,hb,hu,Ae hbx' hb⟩
    case refine_7|refine_17=>
     (with_reducible refine Ac (w1:=w') (f := 25) (args:=#[.slice py n cy]) ?_ ?_ ?_)
     .simp[Region.wanted,yielded,Act.put,go_sem]
     .simp[Act.eval,Act.put,go_sem]
     .refine(Ka (HPYl.out.below hbx') (by decide) (by omega)).mono ?_;rintro en w9 ⟨u,rfl,hu,hb⟩;exact⟨u,rfl,hb,hu,Ae hbx' hb⟩
    case refine_9=>
     have k4:Uj n xs (sp 4) w':=(hdp 4 (mq (by kernel_rfl))).2;have k6:Uj n ys (sp 6) w':=(hdp 6 (mq (by kernel_rfl))).2
     (with_reducible refine Ac (w1:=w') (f := 29) (args:=#[.slice p1 n1 c1,sp 4,sp 6,.slice qt mt dt]) ?_ ?_ ?_)
     .simp[Region.wanted,yielded,Act.put,go_sem]
     .simp[Act.eval,Act.put,go_sem]
     .refine(aA (HQl_.out.below hbx') k4 k6 (HTl.out.below hbx') HQ2.out HQl.out HXl.out HXA.out HYA.out (by omega) HU.out HN1.out).mono ?_;rintro en w9 ⟨u,rfl,hu,hb⟩;exact⟨u,rfl,hb,hu,Ae hbx' hb⟩
    case refine_10=>
     have k8:Al N1 (sp 8) w':=(hdp 8 (mq (by kernel_rfl))).2
     (with_reducible refine Ac (w1:=w') (f := 28) (args:=#[.agg #[.slice pj nj cj],sp 8]) ?_ ?_ ?_)
     .simp[Region.wanted,yielded,Act.put,go_sem]
     .simp[Act.eval,Act.put,go_sem]
     .refine(Uw (HJ1l.out.below hbx') k8 (by decide)).mono ?_;rintro en w9 ⟨_,rfl,rfl,hb⟩;exact⟨_,rfl,hb,rfl,Ae hbx' hb⟩
    case refine_11=>
     have k9:(sp 9)=.bool true:=(hdp 9 (mq (by kernel_rfl))).2
     with_reducible refine Ad ?_ ?_
     all_goals simp[Region.wanted,yielded,execOp,Act.eval,Act.put,go_sem,k9]
    case refine_12=>
     have c0:=(HXKl.out.below hbx' HXKl.out.lt).cell
     with_reducible refine Ad ?_ ?_
     all_goals simp[Region.wanted,yielded,execOp,Act.eval,Act.put,go_sem,c0]
    case refine_13=>
     have hB4:=HBXl.out.below hbx' HBXl.out.lt;have g0:=hB4.cells.1;have g1:=hB4.cells.2.1;have g2:=hB4.cells.2.2.1;have g3:=hB4.cells.2.2.2
     with_reducible refine Ad ?_ ?_
     all_goals simp[Region.wanted,yielded,execOp,Act.eval,Act.put,go_sem,g0,g1,g2,g3]
    case refine_19=>
     have k14:Uj n xs (sp 14) w':=(hdp 14 (mq (by kernel_rfl))).2;have k16:Uj n ys (sp 16) w':=(hdp 16 (mq (by kernel_rfl))).2
     (with_reducible refine Ac (w1:=w') (f := 30) (args:=#[.agg #[.slice p0 n0 c0,.slice p1 n1 c1,.slice p2 n2 c2,.slice p3 n3 c3],sp 14,sp 16,.slice qt mt dt]) ?_ ?_ ?_)
     .simp[Region.wanted,yielded,Act.put,go_sem]
     .simp[Act.eval,Act.put,go_sem]
     .refine(Xg (HVl.out.below hbx') k14 k16 (HTl.out.below hbx') HP2.out HPl.out HQ2.out HQl.out HXl.out HXA.out HYA.out (by omega) HU.out HN2.out).mono ?_;rintro en w9 ⟨u,rfl,hu,hb⟩;exact⟨u,rfl,hb,hu,Ae hbx' hb⟩
    case refine_20=>
     have k18:Al N2 (sp 18) w':=(hdp 18 (mq (by kernel_rfl))).2
     (with_reducible refine Ac (w1:=w') (f := 28) (args:=#[.agg #[.slice pk nk ck],sp 18]) ?_ ?_ ?_)
     .simp[Region.wanted,yielded,Act.put,go_sem]
     .simp[Act.eval,Act.put,go_sem]
     .refine(Uw (HJ2l.out.below hbx') k18 (by decide)).mono ?_;rintro en w9 ⟨_,rfl,rfl,hb⟩;exact⟨_,rfl,hb,rfl,Ae hbx' hb⟩
    case refine_21=>
     have k19:(sp 19)=.bool true:=(hdp 19 (mq (by kernel_rfl))).2
     with_reducible refine Ad ?_ ?_
     all_goals simp[Region.wanted,yielded,execOp,Act.eval,Act.put,go_sem,k19]
    case refine_24|refine_26=>
     (with_reducible refine Ah (w1:=w') (v:=.int .i64 (n:Nat)) ?_ ?_ ?_)
     .simp[Region.wanted,yielded,Act.put,go_sem]
     .simp[Act.eval,Act.put,go_sem]
     .exact⟨rfl,rfl⟩
    all_goals ((with_reducible refine Ad ?_ ?_);all_goals first|(simp only[Region.wanted];done)|simp[Region.wanted,yielded,execOp,Act.eval,Act.put,go_sem])
   .intro sp wm hsp hb;have Bm:=Aa (Ae Bl.out hb);clear hsp hb;simp only[An,Nat.reduceAdd];generalize sp 4=y4,sp 6=y6,sp 8=y8,sp 9=y9,sp 14=y14,sp 16=y16,sp 18=y18,sp 19=y19 at *
    go_simp
    go_wp2;go_ret;exact⟨rfl,Bm.out⟩
 .go_wp2_with fail
  refine(HD.out wc r xv HRc.out HPXc.out HPYc.out HXFc.out).mono ?_;rintro en wd ⟨hj1,hj2,b9⟩;obtain rfl:=hj1 hF0;clear hj1 hj2;have HPYd:=Aa (HPYc.out.below b9);have HPXd:=Aa (HPXc.out.below b9);have HVd:=Aa (HVc.out.below b9);have HQd:=Aa (HQc.out.below b9);have HGd:=Aa (HGc.out.below b9);have HBXd:=Aa (HBXc.out.below b9 HBXc.out.lt);have Bd:=Aa (Ae Bc.out b9);clear HPYc HPXc HVc HQc HGc HBXc Bc;have hb90:Below wd.heap.size wd (wd.alloc (.cells #[.slice none 0 0] 36)):=Dl;have hx90:=Af.made wd (.slice none 0 0);obtain⟨we0,hwe0⟩:∃x,wd.alloc (.cells #[.slice none 0 0] 36)=x:=⟨_,rfl⟩
  rw[hwe0]at hb90 hx90
  obtain⟨b13,hb13⟩:∃x,wd.heap.size=x:=⟨_,rfl⟩
  rw[hb13]at hx90
  have c9:=hx90.cell;have f9:=hx90.free;have hb9:Below wd.heap.size wd (we0.setCell ⟨b13,0,none⟩ (.slice none 0 0)):=hb90.setCell (show wd.heap.size<=b13 by omega) _;have hx9:=hx90.set (.slice none 0 0);obtain⟨we,hwe⟩:∃x,we0.setCell ⟨b13,0,none⟩ (.slice none 0 0)=x:=⟨_,rfl⟩
  rw[hwe]at hb9 hx9
  clear hb90 hx90;have HXJe:=Aa hx9;have HPYe:=Aa (HPYd.out.below hb9);have HPXe:=Aa (HPXd.out.below hb9);have HVe:=Aa (HVd.out.below hb9);have HQe:=Aa (HQd.out.below hb9);have HGe:=Aa (HGd.out.below hb9);have HBXe:=Aa (HBXd.out.below hb9 HBXd.out.lt);have Be:=Aa (Ae Bd.out hb9);clear HPYd HPXd HVd HQd HGd HBXd Bd;clear b9 hb9 hx9 HXFc HRc
  go_wp2_with fail
  refine(Dh (n:=X) we HX.out).mono ?_;rintro en wf ⟨xv2,rfl,hf,b9⟩;have HXFf:=Aa hf;clear c9 f9;have HPYf:=Aa (HPYe.out.below b9);have HPXf:=Aa (HPXe.out.below b9);have HVf:=Aa (HVe.out.below b9);have HQf:=Aa (HQe.out.below b9);have HGf:=Aa (HGe.out.below b9);have HBXf:=Aa (HBXe.out.below b9 HBXe.out.lt);have HXJf:=Aa (HXJe.out.below b9 HXJe.out.lt);have Bf:=Aa (Ae Be.out b9);clear HPYe HPXe HVe HQe HGe HBXe HXJe Be;clear hf b9
  go_wp2_with fail
  refine(HC.out wf xv2 HGf.out HPXf.out HPYf.out HXFf.out).mono ?_;rintro en wg ⟨hj1,hj2,b9⟩;obtain rfl:=hj1 hF0;clear hj1 hj2;have HPYg:=Aa (HPYf.out.below b9);have HPXg:=Aa (HPXf.out.below b9);have HVg:=Aa (HVf.out.below b9);have HQg:=Aa (HQf.out.below b9);have HGg:=Aa (HGf.out.below b9);have HBXg:=Aa (HBXf.out.below b9 HBXf.out.lt);have HXJg:=Aa (HXJf.out.below b9 HXJf.out.lt);have Bg:=Aa (Ae Bf.out b9);clear HPYf HPXf HVf HQf HGf HBXf HXJf Bf;clear b9;have hb90:Below wg.heap.size wg (wg.alloc (.cells #[.slice none 0 0] 36)):=Dl;have hx90:=Af.made wg (.slice none 0 0);obtain⟨wh0,hwh0⟩:∃x,wg.alloc (.cells #[.slice none 0 0] 36)=x:=⟨_,rfl⟩
  rw[hwh0]at hb90 hx90
  obtain⟨b15,hb15⟩:∃x,wg.heap.size=x:=⟨_,rfl⟩
  rw[hb15]at hx90
  have c9:=hx90.cell;have f9:=hx90.free;have hb9:Below wg.heap.size wg (wh0.setCell ⟨b15,0,none⟩ (.slice none 0 0)):=hb90.setCell (show wg.heap.size<=b15 by omega) _;have hx9:=hx90.set (.slice none 0 0);obtain⟨wh,hwh⟩:∃x,wh0.setCell ⟨b15,0,none⟩ (.slice none 0 0)=x:=⟨_,rfl⟩
  rw[hwh]at hb9 hx9
  clear hb90 hx90;have HXKh:=Aa hx9;have HPYh:=Aa (HPYg.out.below hb9);have HPXh:=Aa (HPXg.out.below hb9);have HVh:=Aa (HVg.out.below hb9);have HQh:=Aa (HQg.out.below hb9);have HGh:=Aa (HGg.out.below hb9);have HBXh:=Aa (HBXg.out.below hb9 HBXg.out.lt);have HXJh:=Aa (HXJg.out.below hb9 HXJg.out.lt);have Bh:=Aa (Ae Bg.out hb9);clear HPYg HPXg HVg HQg HGg HBXg HXJg Bg;clear hb9 hx9 HXFf
  go_wp2_with fail
  refine(Gg HGh.out).mono ?_;rintro en wi ⟨r2,rfl,hr,b9⟩;have HRi:=Aa hr;clear c9 f9;have HPYi:=Aa (HPYh.out.below b9);have HPXi:=Aa (HPXh.out.below b9);have HVi:=Aa (HVh.out.below b9);have HQi:=Aa (HQh.out.below b9);have HGi:=Aa (HGh.out.below b9);have HBXi:=Aa (HBXh.out.below b9 HBXh.out.lt);have HXJi:=Aa (HXJh.out.below b9 HXJh.out.lt);have HXKi:=Aa (HXKh.out.below b9 HXKh.out.lt);have Bi:=Aa (Ae Bh.out b9);clear HPYh HPXh HVh HQh HGh HBXh HXJh HXKh Bh;clear hr b9;have HTHR:=Aa (Yg (V:=m) (py:=py) (cy:=cy) HRi.out HPXi.out (by decide) (by omega) (by omega) (by rw[HF.out];exact hF0));rw[HF.out]at HTHR
  go_wp2_with fail
  refine HTHR.out.mono ?_;rintro en wj ⟨rfl,b9⟩;clear HTHR;have HPYj:=Aa (HPYi.out.below b9);have HPXj:=Aa (HPXi.out.below b9);have HVj:=Aa (HVi.out.below b9);have HQj:=Aa (HQi.out.below b9);have HGj:=Aa (HGi.out.below b9);have HBXj:=Aa (HBXi.out.below b9 HBXi.out.lt);have HXJj:=Aa (HXJi.out.below b9 HXJi.out.lt);have HXKj:=Aa (HXKi.out.below b9 HXKi.out.lt);have Bj:=Aa (Ae Bi.out b9);clear HPYi HPXi HVi HQi HGi HBXi HXJi HXKi Bi;clear b9;go_wp2;refine Aj (by kernel_rfl) (by kernel_rfl)
   [some (.pointer (some ⟨b3,1,none⟩)),some (.slice p1 n1 c1),some (.slice px n cx),none,some (.slice py m cy),some (.int .i64 (m:Nat)),none,some (.int .i64 (F:Nat))]
   [false,false,false,true,false,false,true,false] rfl
   (fun w1 w2=>Below w1.heap.size w1 w2)
   (fun _ w'=>Below wj.heap.size wj w')
   (fun i v w'=>match i with
    | 3=>Uj n xs v w'
    | 6=>v=.int .i64 (F:Nat)
    | _=>True)
   ?_ (Br _ _).drew ?_ ?_
  .intro i v w1 w2 hf hb;split at hf
   .exact hf.below hb
   .exact hf
   .trivial
  .simp only[Bu,Nat.reduceAdd];refine⟨?_,?_,?_,?_,?_,?_,?_,?_,trivial⟩
   all_goals intro D sp w' hD hW hdp hbx'
   case refine_2=>
    have hB4:=HBXj.out.below hbx' HBXj.out.lt;have g1:=hB4.cells.2.1
    with_reducible refine Ad ?_ ?_
    all_goals simp[Region.wanted,yielded,execOp,Act.eval,Act.put,go_sem,g1]
   case refine_4=>
    (with_reducible refine Ac (w1:=w') (f := 25) (args:=#[.slice px n cx]) ?_ ?_ ?_)
    .simp[Region.wanted,yielded,Act.put,go_sem]
    .simp[Act.eval,Act.put,go_sem]
    .refine(Ka (HPXj.out.below hbx') (by decide) (by omega)).mono ?_;rintro en w9 ⟨u,rfl,hu,hb⟩;exact⟨u,rfl,hb,hu,Ae hbx' hb⟩
   case refine_6=>
    (with_reducible refine Ah (w1:=w') (v:=.int .i64 (m:Nat)) ?_ ?_ ?_)
    .simp[Region.wanted,yielded,Act.put,go_sem]
    .simp[Act.eval,Act.put,go_sem]
    .exact⟨rfl,rfl⟩
   case refine_7=>
    have k3:Uj n xs (sp 3) w':=(hdp 3 (mq (by kernel_rfl))).2
    (with_reducible refine Ac (w1:=w') (f := 24) (args:=#[.slice p1 n1 c1,sp 3,.int .i64 (m:Nat)]) ?_ ?_ ?_)
    .simp[Region.wanted,yielded,Act.put,go_sem]
    .simp[Act.eval,Act.put,go_sem]
    .refine(Rc (HQj.out.below hbx') k3 HQ2.out HQl.out HXA.out (by omega) (by omega) HF.out).mono ?_;rintro en w9 ⟨_,rfl,rfl,hb⟩;exact⟨_,rfl,hb,rfl,Ae hbx' hb⟩
   case refine_8=>
    have k6:(sp 6)=.int .i64 (F:Nat):=(hdp 6 (mq (by kernel_rfl))).2
    with_reducible refine Ad ?_ ?_
    all_goals simp[Region.wanted,yielded,execOp,Act.eval,Act.put,go_sem,k6]
   all_goals ((with_reducible refine Ad ?_ ?_);all_goals first|(simp only[Region.wanted];done)|simp[Region.wanted,yielded,execOp,Act.eval,Act.put,go_sem])
  .intro sp wk hsp hb;have HPYk:=Aa (HPYj.out.below hb);have HPXk:=Aa (HPXj.out.below hb);have HVk:=Aa (HVj.out.below hb);have HQk:=Aa (HQj.out.below hb);have HGk:=Aa (HGj.out.below hb);have HBXk:=Aa (HBXj.out.below hb HBXj.out.lt);have HXJk:=Aa (HXJj.out.below hb HXJj.out.lt);have HXKk:=Aa (HXKj.out.below hb HXKj.out.lt);have Bk:=Aa (Ae Bj.out hb);clear HPYj HPXj HVj HQj HGj HBXj HXJj HXKj Bj;clear hsp hb;simp only[An,Nat.reduceAdd];generalize sp 3=y3,sp 6=y6 at *
   go_simp
   have hF1:((F:Int)!=0)=true:=by rw[bne_iff_ne];omega
   have hF2:¬(F:Int)=0:=by omega
   have k13:=HXJk.out.cell
   go_wp2_with fail
   refine(Md (eO wk) (t:=true) (by simp)).mono ?_;rintro en wl ⟨_,rfl,rfl,b9⟩;have HXKl:=Aa (HXKk.out.below b9 HXKk.out.lt);have Bl:=Aa (Ae Bk.out b9);have k15:=HXKl.out.cell;clear b9 k13
   go_wp2_with fail
   refine(Md (eO wl) (t:=true) (by simp)).mono ?_;rintro en wm ⟨_,rfl,rfl,b9⟩;have Bm:=Aa (Ae Bl.out b9);clear b9 k15;go_wp2;go_ret;exact⟨rfl,Bm.out⟩
end Go.Proofs.YtnbmfaihlefgfaaGreatDoor
