/- DealBytes, walked. -/
import Derived.Test.YtokhckjemidbpaaGreatDoorDeV
import Derived.Test.YtokhckjemidbpaaGreatDoorDeG
set_option maxRecDepth 1000000
set_option maxHeartbeats 16000000
set_option linter.all false
namespace Go.Proofs.YtokhckjemidbpaaGreatDoor
open Go Go.RowKit Go.Proofs.YtokhckjemidbpaaGreatDoor.Flow
theorem Br.below9 {w w':World}{x:P3}{N:Nat}(h:Br w x N)(hb:Below w.heap.size w w'):Br w' x N:=Ah.below h hb
theorem Pk {w:World}{b P Q GG HH n c L:Nat}{p:Option Addr}{bs:List Nat}(hg:Bq w b P Q GG HH)(hL:Ao Q=L)(hs:L<=16)(hs1:0<L)(hr:Bu w ⟨p,n,c,bs⟩) :
  Calls Tryz.prog 59 #[.pointer (some ⟨b,0,none⟩),.slice p n c] w fun en w'=>(Tg (be (bs.take L)) (be (bs.drop L)) w en w'/\n=2*L/\be (bs.take L)<Q/\be (bs.drop L)<Q) ∨ (en=.returned (.tuple #[.agg #[.slice none 0 0,.slice none 0 0],.int .i64 3])/\Below w.heap.size w w'):=by
 by_cases hn:n=2*L
 .by_cases hlt:be (bs.take L)<Q/\be (bs.drop L)<Q
  .exact(Yk hg hL hs hs1 hr hn rfl rfl hlt).mono fun en w' h=>.inl ⟨h,hn,hlt.1,hlt.2⟩
  .exact(Xn hg hL hs hs1 hr hn rfl rfl hlt).mono fun en w' h=>.inr h
 .exact(dC hg hL hs hn).mono fun en w' h=>.inr h
theorem Qh (w:World)(hr:Tabs w)(A:Int)(S:Nat)(hS:fQ S)(R:Nat)(hR:fQ R)(pr:Option Addr)(nr cr:Nat)(raw:List Nat)(hraw:Bu w ⟨pr,nr,cr,raw⟩) :
  Calls Tryz.prog 11 #[.int .i64 A,.int .u64 (S:Nat),.int .u64 (R:Nat),.slice pr nr cr] w fun e w'=>e=.returned (.bool true)/\Below w.heap.size w w':=by
 have HLI:=Ac Qf;have HGR:=Ac Kl;have HTb:=Ac hr;have HRAW:=Ac hraw;have HS64:Aa (S<18446744073709551616):=⟨hS⟩
 have HR64:Aa (R<18446744073709551616):=⟨hR⟩
 obtain⟨i,hi⟩:∃i,((IntKind.u64.wrap A)%3).toNat=i:=⟨_,rfl⟩
 have HI3:Aa (i<3):=⟨by rw[<-hi];exact cO A⟩
 have HI:=Ac hi;clear hr hraw hS hR hi;go_enter Tryz.func11,Tryz.ntmps11
 go_wp2_with fail
 refine(HLI.out w HTb.out).mono ?_;rintro en w1 ⟨rfl,b1⟩;have HB:=Ac b1;replace HTb:Aa _:=⟨HTb.out.below b1 HTb.out.size⟩
 replace HRAW:Aa _:=⟨HRAW.out.below b1⟩
 clear b1
 by_cases hb6:100<nr
 .have hb6':(100:Int)<nr:=by omega
  go_wp2_with fail
  refine(HLI.out w1 HTb.out).mono ?_;rintro en w2 ⟨rfl,b2⟩;replace HB:Aa _:=⟨Ab HB.out b2⟩
  clear b2;go_wp2;go_ret;exact⟨rfl,HB.out⟩
 have hb6':¬(100:Int)<nr:=by omega
 clear hb6
 go_wp2_with fail
 refine(HGR.out w1 A HTb.out).mono ?_;rintro en w2 ⟨b,rfl,hg,b2⟩;rw[HI.out]at hg
 obtain⟨P,hP⟩:∃q,gP i=q:=⟨_,rfl⟩
 obtain⟨Q,hq⟩:∃q,gQ i=q:=⟨_,rfl⟩
 obtain⟨GG,hgg⟩:∃q,gG i=q:=⟨_,rfl⟩
 obtain⟨HH,hhh⟩:∃q,gH i=q:=⟨_,rfl⟩
 obtain⟨L,hL⟩:∃q,Ao Q=q:=⟨_,rfl⟩
 have HL:=Ac hL;have HLb:Aa (L<=16/\0<L):=⟨by rw[<-hL,<-hq];exact cU i HI3.out,by
  rw[<-hL];rcases Nat.eq_zero_or_pos (Ao Q) with h|h
  .have h1:=Jm Q;have h2:=Lr i HI3.out;rw[h,hq]at *
   simp[B8]at h1
   omega
  .exact h⟩
 have HQl:Aa (Ay Q<=100000):=⟨aA (by rw[<-hq];exact cU i HI3.out)⟩
 rw[hP,hq,hgg,hhh]at hg
 have HG:=Ac hg;replace HRAW:Aa _:=⟨HRAW.out.below b2⟩
 replace HB:Aa _:=⟨Ab HB.out b2⟩
 clear hg b2 hP hq hgg hhh hL HTb
 go_wp2_with fail
 refine(Ty HG.out).mono ?_;rintro en w3 ⟨_,rfl,hrv,b3⟩;have HRV:=Ac hrv;obtain⟨p0,n0,c0,p1,n1,c1,p2,n2,c2,p3,n3,c3,rfl,-⟩:=hrv.ex;replace HRAW:Aa _:=⟨HRAW.out.below b3⟩
 replace HG:Aa _:=⟨HG.out.below b3⟩
 replace HB:Aa _:=⟨Ab HB.out b3⟩
 clear b3 hrv
 go_wp2_with fail
 refine(Gb HG.out).mono ?_;rintro en w4 ⟨r,rfl,hr4,b4⟩;have HR:=Ac hr4;replace HRAW:Aa _:=⟨HRAW.out.below b4⟩
 replace HG:Aa _:=⟨HG.out.below b4⟩
 replace HRV:Aa _:=⟨HRV.out.below b4⟩
 replace HB:Aa _:=⟨Ab HB.out b4⟩
 clear b4 hr4
 go_wp2_with fail
 refine(Dj HR.out).mono ?_;rintro en w5 ⟨_,rfl,⟨pq,nq,cq,rfl,q1,q2⟩,b5⟩;have HMQ:=Ac (Fit.of q1 q2);replace HRAW:Aa _:=⟨HRAW.out.below b5⟩
 replace HG:Aa _:=⟨HG.out.below b5⟩
 replace HRV:Aa _:=⟨HRV.out.below b5⟩
 replace HB:Aa _:=⟨Ab HB.out b5⟩
 clear b5 q1 q2 HR;have h4:=Cr.made 30 w5 (.slice p0 n0 c0) (.slice p1 n1 c1) (.slice p2 n2 c2) (.slice p3 n3 c3);have hz:(w5.alloc (.cells #[.slice p0 n0 c0,.slice p1 n1 c1,.slice p2 n2 c2,.slice p3 n3 c3] 30)).heap.size=w5.heap.size+1:=by simp
 have hb0:Below w5.heap.size w5 (w5.alloc (.cells #[.slice p0 n0 c0,.slice p1 n1 c1,.slice p2 n2 c2,.slice p3 n3 c3] 30)):=By;have hxm:=Ae.made (w5.alloc (.cells #[.slice p0 n0 c0,.slice p1 n1 c1,.slice p2 n2 c2,.slice p3 n3 c3] 30)) (.slice pq nq cq);have hb1:Below (w5.alloc (.cells #[.slice p0 n0 c0,.slice p1 n1 c1,.slice p2 n2 c2,.slice p3 n3 c3] 30)).heap.size (w5.alloc (.cells #[.slice p0 n0 c0,.slice p1 n1 c1,.slice p2 n2 c2,.slice p3 n3 c3] 30)) ((w5.alloc (.cells #[.slice p0 n0 c0,.slice p1 n1 c1,.slice p2 n2 c2,.slice p3 n3 c3] 30)).alloc (.cells #[.slice pq nq cq] 37)):=By;have h42:=h4.below hb1 h4.lt;have hba:=Ab hb0 hb1;rw[hz]at hxm
 obtain⟨bg,hbg⟩:∃zz,w5.heap.size=zz:=⟨_,rfl⟩
 obtain⟨w6,hw6⟩:∃zz,((w5.alloc (.cells #[.slice p0 n0 c0,.slice p1 n1 c1,.slice p2 n2 c2,.slice p3 n3 c3] 30)).alloc (.cells #[.slice pq nq cq] 37))=zz:=⟨_,rfl⟩
 rw[hw6]at h42 hxm hba
 rw[hbg]at h42 hxm
 have HG4:=Ac h42;have HXM:=Ac hxm;replace HRAW:Aa _:=⟨HRAW.out.below hba⟩
 replace HG:Aa _:=⟨HG.out.below hba⟩
 replace HRV:Aa _:=⟨HRV.out.below hba⟩
 replace HMQ:Aa _:=⟨HMQ.out.below hba⟩
 replace HB:Aa _:=⟨Ab HB.out hba⟩
 clear h4 hz hb0 hxm hb1 h42 hba
 go_wp2_with fail
 refine(Cm w6 HS64.out).mono ?_;rintro en w7 ⟨_,rfl,⟨px,nx,cx,rfl,x1,x2⟩,b7⟩;obtain⟨x,hxx⟩:∃x:P3,x=(px,nx,cx):=⟨_,rfl⟩
 obtain rfl:x.1=px:=by rw[hxx]
 obtain rfl:x.2.1=nx:=by rw[hxx]
 obtain rfl:x.2.2=cx:=by rw[hxx]
 have HNX:Aa (Br w7 x S):=⟨x1⟩
 have HSl1:Aa (S<Al 33):=⟨Dk x2 (Bz (by decide))⟩
 replace HRAW:Aa _:=⟨HRAW.out.below b7⟩
 replace HG:Aa _:=⟨HG.out.below b7⟩
 replace HRV:Aa _:=⟨HRV.out.below b7⟩
 replace HMQ:Aa _:=⟨HMQ.out.below b7⟩
 replace HXM:Aa _:=⟨HXM.out.below b7 HXM.out.lt⟩
 replace HB:Aa _:=⟨Ab HB.out b7⟩
 replace HG4:Aa _:=⟨HG4.out.below b7 HG4.out.lt⟩
 clear b7 x1 x2 hxx hw6 hbg
 go_wp2_with fail
 refine(Cm w7 HR64.out).mono ?_;rintro en w8 ⟨_,rfl,⟨py,ny,cy,rfl,y1,y2⟩,b8⟩;obtain⟨y,hyy⟩:∃x:P3,x=(py,ny,cy):=⟨_,rfl⟩
 obtain rfl:y.1=py:=by rw[hyy]
 obtain rfl:y.2.1=ny:=by rw[hyy]
 obtain rfl:y.2.2=cy:=by rw[hyy]
 have HNY:Aa (Br w8 y R):=⟨y1⟩
 have HSl:Aa (S<Al 33/\R<Al 33):=⟨HSl1.out,Dk y2 (Bz (by decide))⟩
 replace HNX:Aa (Br w8 x S):=⟨HNX.out.below b8⟩
 replace HRAW:Aa _:=⟨HRAW.out.below b8⟩
 replace HG:Aa _:=⟨HG.out.below b8⟩
 replace HRV:Aa _:=⟨HRV.out.below b8⟩
 replace HMQ:Aa _:=⟨HMQ.out.below b8⟩
 replace HXM:Aa _:=⟨HXM.out.below b8 HXM.out.lt⟩
 replace HB:Aa _:=⟨Ab HB.out b8⟩
 replace HG4:Aa _:=⟨HG4.out.below b8 HG4.out.lt⟩
 clear b8 y1 y2 hyy HSl1;have b9:Below w8.heap.size w8 (w8.alloc (.cells #[.slice x.1 x.2.1 x.2.2,.slice y.1 y.2.1 y.2.2] 75)):=By;have hbx:Bo 75 (w8.alloc (.cells #[.slice x.1 x.2.1 x.2.2,.slice y.1 y.2.1 y.2.2] 75)) w8.heap.size (.slice x.1 x.2.1 x.2.2) (.slice y.1 y.2.1 y.2.2):=Bo.made _ _ _ _;obtain⟨bxs,hbxs⟩:∃zz,w8.heap.size=zz:=⟨_,rfl⟩
 obtain⟨wA,hwA⟩:∃zz,w8.alloc (.cells #[.slice x.1 x.2.1 x.2.2,.slice y.1 y.2.1 y.2.2] 75)=zz:=⟨_,rfl⟩
 rw[hwA]at b9 hbx
 rw[hbxs]at hbx
 have HXS:=Ac hbx;clear hbx;replace HRAW:Aa _:=⟨HRAW.out.below b9⟩
 replace HG:Aa _:=⟨HG.out.below b9⟩
 replace HRV:Aa _:=⟨HRV.out.below b9⟩
 replace HMQ:Aa _:=⟨HMQ.out.below b9⟩
 replace HXM:Aa _:=⟨HXM.out.below b9 HXM.out.lt⟩
 replace HB:Aa _:=⟨Ab HB.out b9⟩
 replace HG4:Aa _:=⟨HG4.out.below b9 HG4.out.lt⟩
 replace HNX:Aa (Br wA x S):=⟨HNX.out.below b9⟩
 replace HNY:Aa (Br wA y R):=⟨HNY.out.below b9⟩
 clear b9;obtain⟨d0,d1⟩:=HXS.out.cells;obtain⟨K1,hK1⟩:∃K,Bp S Q=K:=⟨_,rfl⟩
 obtain⟨K2,hK2⟩:∃K,Bp R Q=K:=⟨_,rfl⟩
 have HK1:=Ac hK1;have HK2:=Ac hK2;clear hK1 hK2
 by_cases hlt:S<Q/\R<Q
 .have HLT:Aa _:=⟨hlt⟩
  clear hlt
  go_wp2_with fail
  refine(Hw (Qp.of HG.out) (fun h=>by cases h) HL.out HLb.out.1 HNX.out HNY.out HLT.out.1 HLT.out.2 HG.out.lims.2.2.2).mono ?_;rintro en wB ⟨vv,rfl,hov,bA⟩;replace HNX:Aa (Br wB x S):=⟨HNX.out.below bA⟩
  replace HNY:Aa (Br wB y R):=⟨HNY.out.below bA⟩
  obtain⟨pv,cv,rfl,hrv⟩:∃pv cv,vv=.slice pv (Bf S L++Bf R L).length cv/\Bb wB .u8 pv (Bf S L++Bf R L).length cv (Bf S L++Bf R L):=hov.elim fun p c e h _ _=>⟨p,c,e,h⟩
  obtain⟨nv,hnv⟩:∃z,(Bf S L++Bf R L).length=z:=⟨_,rfl⟩
  rw[hnv]at hrv ⊢
  have HNV:Aa (nv=2*L):=⟨by rw[<-hnv,List.length_append,Cl,Cl];omega⟩
  have HPV:Aa (Bu wB ⟨pv,nv,cv,Bf S L++Bf R L⟩):=⟨⟨hrv,fun z hz=>by
   rcases List.mem_append.1 hz with h|h
   .exact(Ga S L).reverse z h
   .exact(Ga R L).reverse z h⟩⟩
  replace HG:Aa _:=⟨HG.out.below bA⟩
  replace HRAW:Aa _:=⟨HRAW.out.below bA⟩
  replace HXS:Aa _:=⟨HXS.out.later bA⟩
  replace HMQ:Aa _:=⟨HMQ.out.below bA⟩
  replace HXM:Aa _:=⟨HXM.out.below bA HXM.out.lt⟩
  replace HRV:Aa _:=⟨HRV.out.below bA⟩
  replace HB:Aa _:=⟨Ab HB.out bA⟩
  replace HG4:Aa _:=⟨HG4.out.below bA HG4.out.lt⟩
  clear bA hov hrv hnv d0 d1 hwA hbxs;have hk1:K1<0:=by rw[<-HK1.out];exact Fd.2 HLT.out.1
  have hk2:K2<0:=by rw[<-HK2.out];exact Fd.2 HLT.out.2
  have hg1:¬(0:Int)<=K1:=by omega
  have hg2:¬(0:Int)<=K2:=by omega
  obtain⟨d0,d1⟩:=HXS.out.cells;have cm:=HXM.out.cell
  go_wp2_with fail
  refine(Az (Fit.of HNX.out HSl.out.1) HMQ.out (by decide) (by decide) HK1.out).mono ?_;rintro en wC ⟨_,rfl,rfl,bB⟩;replace HNX:Aa (Br wC x S):=⟨HNX.out.below bB⟩
  replace HNY:Aa (Br wC y R):=⟨HNY.out.below bB⟩
  replace HG:Aa _:=⟨HG.out.below bB⟩
  replace HRAW:Aa _:=⟨HRAW.out.below bB⟩
  replace HXS:Aa _:=⟨HXS.out.later bB⟩
  replace HMQ:Aa _:=⟨HMQ.out.below bB⟩
  replace HXM:Aa _:=⟨HXM.out.below bB HXM.out.lt⟩
  replace HRV:Aa _:=⟨HRV.out.below bB⟩
  replace HPV:Aa _:=⟨HPV.out.below bB⟩
  replace HB:Aa _:=⟨Ab HB.out bB⟩
  replace HG4:Aa _:=⟨HG4.out.below bB HG4.out.lt⟩
  clear bB d0 d1 cm;obtain⟨d0,d1⟩:=HXS.out.cells;have cm:=HXM.out.cell
  go_wp2_with fail
  refine(Az (Fit.of HNY.out HSl.out.2) HMQ.out (by decide) (by decide) HK2.out).mono ?_;rintro en wD ⟨_,rfl,rfl,bC⟩;replace HNX:Aa (Br wD x S):=⟨HNX.out.below bC⟩
  replace HNY:Aa (Br wD y R):=⟨HNY.out.below bC⟩
  replace HG:Aa _:=⟨HG.out.below bC⟩
  replace HRAW:Aa _:=⟨HRAW.out.below bC⟩
  replace HXS:Aa _:=⟨HXS.out.later bC⟩
  replace HMQ:Aa _:=⟨HMQ.out.below bC⟩
  replace HXM:Aa _:=⟨HXM.out.below bC HXM.out.lt⟩
  replace HRV:Aa _:=⟨HRV.out.below bC⟩
  replace HPV:Aa _:=⟨HPV.out.below bC⟩
  replace HB:Aa _:=⟨Ab HB.out bC⟩
  replace HG4:Aa _:=⟨HG4.out.below bC HG4.out.lt⟩
  clear bC d0 d1 cm;have HSB:Aa (S<B8 L/\R<B8 L):=⟨by
   have h:=Jm Q;rw[HL.out]at h
   have:=HLT.out;omega⟩
  have HTK:Aa (be ((Bf S L++Bf R L).take L)=S/\be ((Bf S L++Bf R L).drop L)=R):=⟨by
   rw[List.take_left' (Cl S L),List.drop_left' (Cl S L)];exact⟨Yl HSB.out.1,Yl HSB.out.2⟩⟩
  go_wp2_with fail
  refine(Yk HG.out HL.out HLb.out.1 HLb.out.2 HPV.out HNV.out HTK.out.1 HTK.out.2 HLT.out).mono ?_;rintro en wE ⟨u,v,rfl,hu,hv,bD⟩;replace HNX:Aa (Br wE x S):=⟨HNX.out.below bD⟩
  replace HNY:Aa (Br wE y R):=⟨HNY.out.below bD⟩
  have HU:Aa (Br wE u S):=⟨hu⟩
  have HV:Aa (Br wE v R):=⟨hv⟩
  replace HG:Aa _:=⟨HG.out.below bD⟩
  replace HRAW:Aa _:=⟨HRAW.out.below bD⟩
  replace HXS:Aa _:=⟨HXS.out.later bD⟩
  replace HMQ:Aa _:=⟨HMQ.out.below bD⟩
  replace HXM:Aa _:=⟨HXM.out.below bD HXM.out.lt⟩
  replace HRV:Aa _:=⟨HRV.out.below bD⟩
  replace HPV:Aa _:=⟨HPV.out.below bD⟩
  replace HB:Aa _:=⟨Ab HB.out bD⟩
  replace HG4:Aa _:=⟨HG4.out.below bD HG4.out.lt⟩
  clear bD hu hv hk1 hk2 hg1 hg2;have bE:Below wE.heap.size wE (wE.alloc (.cells #[.slice u.1 u.2.1 u.2.2,.slice v.1 v.2.1 v.2.2] 75)):=By;have hbx:Bo 75 (wE.alloc (.cells #[.slice u.1 u.2.1 u.2.2,.slice v.1 v.2.1 v.2.2] 75)) wE.heap.size (.slice u.1 u.2.1 u.2.2) (.slice v.1 v.2.1 v.2.2):=Bo.made _ _ _ _;obtain⟨by_,hby_⟩:∃zz,wE.heap.size=zz:=⟨_,rfl⟩
  obtain⟨wF,hwF⟩:∃zz,wE.alloc (.cells #[.slice u.1 u.2.1 u.2.2,.slice v.1 v.2.1 v.2.2] 75)=zz:=⟨_,rfl⟩
  rw[hwF]at bE hbx
  rw[hby_]at hbx
  have HYS:=Ac hbx;clear hbx;replace HG:Aa _:=⟨HG.out.below bE⟩
  replace HRAW:Aa _:=⟨HRAW.out.below bE⟩
  replace HXS:Aa _:=⟨HXS.out.later bE⟩
  replace HMQ:Aa _:=⟨HMQ.out.below bE⟩
  replace HXM:Aa _:=⟨HXM.out.below bE HXM.out.lt⟩
  replace HRV:Aa _:=⟨HRV.out.below bE⟩
  replace HPV:Aa _:=⟨HPV.out.below bE⟩
  replace HB:Aa _:=⟨Ab HB.out bE⟩
  replace HG4:Aa _:=⟨HG4.out.below bE HG4.out.lt⟩
  replace HNX:Aa (Br wF x S):=⟨HNX.out.below bE⟩
  replace HNY:Aa (Br wF y R):=⟨HNY.out.below bE⟩
  replace HU:Aa (Br wF u S):=⟨HU.out.below bE⟩
  replace HV:Aa (Br wF v R):=⟨HV.out.below bE⟩
  clear bE;obtain⟨BBs,hBBs⟩:∃l,Bf S L++Bf R L=l:=⟨_,rfl⟩
  have HBS:=Ac hBBs;obtain⟨SS,hSS⟩:∃s,strOf BBs=s:=⟨_,rfl⟩
  have HSS:=Ac hSS;rw[hBBs]at HPV
  have HCV:Aa (∀w',Below wF.heap.size wF w'->(convert 23 9 (.slice pv nv cv)).run Tryz.prog w'=.ok (.string SS) w'):=⟨fun w' hb=>by rw[<-hSS];exact Dl (HPV.out.below hb).row⟩
  clear hSS hBBs;go_wp2;refine Aj (by kernel_rfl) (by kernel_rfl)
   [some (.int .i64 0),some (.bool false),some (.bool false),some (.int .i64 0),some (.bool false),some (.bool false),some (.bool false),some (.slice pv nv cv),some (.string SS),some (.agg #[.slice p0 n0 c0,.slice p1 n1 c1,.slice p2 n2 c2,.slice p3 n3 c3]),some (.agg #[.slice x.1 x.2.1 x.2.2,.slice y.1 y.2.1 y.2.2]),none,none,some (.string SS),some (.bool false),some (.bool false),some (.bool false),some (.pointer (some ⟨by_,0,none⟩)),some (.agg #[.slice u.1 u.2.1 u.2.2]),some (.pointer (some ⟨bxs,0,none⟩)),some (.agg #[.slice x.1 x.2.1 x.2.2]),none,some (.bool false),some (.bool false),some (.bool false),some (.pointer (some ⟨by_,1,none⟩)),some (.agg #[.slice v.1 v.2.1 v.2.2]),some (.pointer (some ⟨bxs,1,none⟩)),some (.agg #[.slice y.1 y.2.1 y.2.2]),none,some (.bool false),some (.bool false)]
   [false,false,false,false,false,false,false,false,false,false,false,true,true,false,false,false,false,false,false,false,false,true,false,false,false,false,false,false,false,true,false,false] rfl
   (fun w1 w2=>Below w1.heap.size w1 w2)
   (fun _ w'=>Below wF.heap.size wF w')
   (fun i v w'=>match i with
    | 11=>eE S R v w'
    | 12=>Db 0 BBs v w'
    | 21=>v=.int .i64 0
    | 29=>v=.int .i64 0
    | _=>True)
   ?_ (Bd _ _).drew ?_ ?_
  .intro i v w1 w2 hf hb;split at hf
   .exact hf.below hb
   .exact hf.below hb
   .exact hf
   .exact hf
   .trivial
  .simp only[Bh,Nat.reduceAdd];refine⟨?_,?_,?_,?_,?_,?_,?_,?_,?_,?_,?_,?_,?_,?_,?_,?_,?_,?_,?_,?_,?_,?_,?_,?_,?_,?_,?_,?_,?_,?_,?_,?_,trivial⟩
   all_goals intro D sp w' hD hW hdp hbx'
   case refine_9=>
    have cc:=HCV.out w' hbx'
    with_reducible refine Ag ?_ ?_
    all_goals simp[Region.wanted,yielded,execOp,Act.eval,Act.put,go_sem,cc]
   case refine_10=>
    have cz0:=(HG4.out.below hbx' HG4.out.lt).cells.1;have cz1:=(HG4.out.below hbx' HG4.out.lt).cells.2.1;have cz2:=(HG4.out.below hbx' HG4.out.lt).cells.2.2.1;have cz3:=(HG4.out.below hbx' HG4.out.lt).cells.2.2.2
    with_reducible refine Ag ?_ ?_
    all_goals simp[Region.wanted,yielded,execOp,Act.eval,Act.put,go_sem,cz0,cz1,cz2,cz3]
   case refine_11=>
    have cz0:=(HXS.out.below hbx' HXS.out.lt).cells.1;have cz1:=(HXS.out.below hbx' HXS.out.lt).cells.2
    with_reducible refine Ag ?_ ?_
    all_goals simp[Region.wanted,yielded,execOp,Act.eval,Act.put,go_sem,cz0,cz1]
   case refine_12=>
    (with_reducible refine Ad (w1:=w') (f := 49) (args:=#[.agg #[.slice x.1 x.2.1 x.2.2,.slice y.1 y.2.1 y.2.2]]) ?_ ?_ ?_)
    .simp[Region.wanted,yielded,Act.put,go_sem]
    .simp[Act.eval,Act.put,go_sem]
    .refine(Vg (Br.below9 HNX.out hbx') HSl.out.1 (Br.below9 HNY.out hbx') HSl.out.2 (by decide) (by decide)).mono ?_;rintro en w9 ⟨u,rfl,hu,hb⟩;exact⟨u,rfl,hb,hu,Ab hbx' hb⟩
   case refine_13=>
    have hx:∃x y:P3,sp 11=.agg #[.slice x.1 x.2.1 x.2.2,.slice y.1 y.2.1 y.2.2]/\Bj w' x.1 x.2.1 x.2.2 S/\Bj w' y.1 y.2.1 y.2.2 R:=(hdp 11 (mq (by kernel_rfl))).2
    (with_reducible refine Bc hx fun x9 hx1=>Bc hx1 fun y9 hx2=>?_)
    have h1:=hx2.1
    (with_reducible refine Ad (w1:=w') (f := 60) (args:=#[.agg #[.slice p0 n0 c0,.slice p1 n1 c1,.slice p2 n2 c2,.slice p3 n3 c3],.agg #[.slice x9.1 x9.2.1 x9.2.2,.slice y9.1 y9.2.1 y9.2.2]]) ?_ ?_ ?_)
    .simp[Region.wanted,yielded,Act.put,go_sem]
    .simp[Act.eval,Act.put,go_sem,h1]
    .refine(Pl (x:=x9) (y:=y9) (HRV.out.below hbx') hx2.2.1 hx2.2.2 HL.out HLb.out.1 HLb.out.2 HQl.out HSB.out.1 HSB.out.2).mono ?_;rintro en w9 ⟨u9,rfl,hu9,hb⟩;rw[HBS.out]at hu9
     exact⟨_,rfl,hb,hu9,Ab hbx' hb⟩
   case refine_14=>
    have hf:Db 0 BBs (sp 12) w':=(hdp 12 (mq (by kernel_rfl))).2
    (with_reducible refine hf.elim (fun p9 c9 hv hr _ _=>?_))
    have k:=Dl hr;rw[HSS.out]at k
    with_reducible refine Ag ?_ ?_
    all_goals simp[Region.wanted,yielded,execOp,Act.eval,Act.put,go_sem,hv,k]
   case refine_19=>
    have cz0:=(HYS.out.below hbx' HYS.out.lt).cells.1
    with_reducible refine Ag ?_ ?_
    all_goals simp[Region.wanted,yielded,execOp,Act.eval,Act.put,go_sem,cz0]
   case refine_21=>
    have cz0:=(HXS.out.below hbx' HXS.out.lt).cells.1
    with_reducible refine Ag ?_ ?_
    all_goals simp[Region.wanted,yielded,execOp,Act.eval,Act.put,go_sem,cz0]
   case refine_22=>
    (with_reducible refine Ad (w1:=w') (f := 24) (args:=#[.agg #[.slice u.1 u.2.1 u.2.2],.agg #[.slice x.1 x.2.1 x.2.2]]) ?_ ?_ ?_)
    .simp[Region.wanted,yielded,Act.put,go_sem]
    .simp[Act.eval,Act.put,go_sem]
    .refine(Az (Fit.of (Br.below9 HU.out hbx') HSl.out.1) (Fit.of (Br.below9 HNX.out hbx') HSl.out.1) (by decide) (by decide) (Cg.2 rfl)).mono ?_;rintro en w9 ⟨_,rfl,rfl,hb⟩;exact⟨_,rfl,hb,rfl,Ab hbx' hb⟩
   case refine_23=>
    have k21:(sp 21)=.int .i64 0:=(hdp 21 (mq (by kernel_rfl))).2
    with_reducible refine Ag ?_ ?_
    all_goals simp[Region.wanted,yielded,execOp,Act.eval,Act.put,go_sem,k21]
   case refine_27=>
    have cz0:=(HYS.out.below hbx' HYS.out.lt).cells.2
    with_reducible refine Ag ?_ ?_
    all_goals simp[Region.wanted,yielded,execOp,Act.eval,Act.put,go_sem,cz0]
   case refine_29=>
    have cz0:=(HXS.out.below hbx' HXS.out.lt).cells.2
    with_reducible refine Ag ?_ ?_
    all_goals simp[Region.wanted,yielded,execOp,Act.eval,Act.put,go_sem,cz0]
   case refine_30=>
    (with_reducible refine Ad (w1:=w') (f := 24) (args:=#[.agg #[.slice v.1 v.2.1 v.2.2],.agg #[.slice y.1 y.2.1 y.2.2]]) ?_ ?_ ?_)
    .simp[Region.wanted,yielded,Act.put,go_sem]
    .simp[Act.eval,Act.put,go_sem]
    .refine(Az (Fit.of (Br.below9 HV.out hbx') HSl.out.2) (Fit.of (Br.below9 HNY.out hbx') HSl.out.2) (by decide) (by decide) (Cg.2 rfl)).mono ?_;rintro en w9 ⟨_,rfl,rfl,hb⟩;exact⟨_,rfl,hb,rfl,Ab hbx' hb⟩
   case refine_31=>
    have k29:(sp 29)=.int .i64 0:=(hdp 29 (mq (by kernel_rfl))).2
    with_reducible refine Ag ?_ ?_
    all_goals simp[Region.wanted,yielded,execOp,Act.eval,Act.put,go_sem,k29]
   all_goals ((with_reducible refine Ag ?_ ?_);all_goals first|(simp only[Region.wanted];done)|simp[Region.wanted,yielded,execOp,Act.eval,Act.put,go_sem])
  .intro sp wG hsp hbx';replace HG:Aa _:=⟨HG.out.below hbx'⟩
   replace HRAW:Aa _:=⟨HRAW.out.below hbx'⟩
   replace HXS:Aa _:=⟨HXS.out.later hbx'⟩
   replace HB:Aa _:=⟨Ab HB.out hbx'⟩
   clear hsp hbx' HU HV HYS HCV HMQ HXM HRV HG4 HPV HNX HNY hwF hby_;simp only[Ak,Nat.reduceAdd];generalize sp 11=y11,sp 12=y12,sp 21=y21,sp 29=y29 at *
   go_simp
   go_wp2_with fail
   refine(Pk HG.out HL.out HLb.out.1 HLb.out.2 HRAW.out).mono ?_;rintro en t1 hor;rcases hor with ⟨⟨u,v,rfl,hu,hv,bt⟩,hn2,hl1,hl2⟩|⟨rfl,bt⟩
   .have HU:Aa _:=⟨hu⟩
    have HV:=Ac hv;have HN2:Aa (nr=2*L):=⟨hn2⟩
    have HLR:Aa (be (raw.take L)<Q/\be (raw.drop L)<Q):=⟨hl1,hl2⟩
    replace HG:Aa _:=⟨HG.out.below bt⟩
    replace HRAW:Aa _:=⟨HRAW.out.below bt⟩
    replace HXS:Aa _:=⟨HXS.out.later bt⟩
    replace HB:Aa _:=⟨Ab HB.out bt⟩
    clear hu hv hn2 hl1 hl2 bt;have bt2:Below t1.heap.size t1 (t1.alloc (.cells #[.slice u.1 u.2.1 u.2.2,.slice v.1 v.2.1 v.2.2] 75)):=By;have hbx:Bo 75 (t1.alloc (.cells #[.slice u.1 u.2.1 u.2.2,.slice v.1 v.2.1 v.2.2] 75)) t1.heap.size (.slice u.1 u.2.1 u.2.2) (.slice v.1 v.2.1 v.2.2):=Bo.made _ _ _ _;obtain⟨by_,hby_⟩:∃zz,t1.heap.size=zz:=⟨_,rfl⟩
    obtain⟨t2,ht2⟩:∃zz,t1.alloc (.cells #[.slice u.1 u.2.1 u.2.2,.slice v.1 v.2.1 v.2.2] 75)=zz:=⟨_,rfl⟩
    rw[ht2]at bt2 hbx
    rw[hby_]at hbx
    have HYS:=Ac hbx;clear hbx;replace HG:Aa _:=⟨HG.out.below bt2⟩
    replace HRAW:Aa _:=⟨HRAW.out.below bt2⟩
    replace HXS:Aa _:=⟨HXS.out.later bt2⟩
    replace HB:Aa _:=⟨Ab HB.out bt2⟩
    replace HU:Aa (Br t2 u (be (raw.take L))):=⟨HU.out.below bt2⟩
    replace HV:Aa (Br t2 v (be (raw.drop L))):=⟨HV.out.below bt2⟩
    clear bt2
    go_wp2_with fail
    refine(Hi (w:=t2) (n:=nr) (c:=cr) (p:=pr)).mono ?_;rintro en t3 ⟨rfl,bt3⟩;replace HU:Aa (Br t3 u (be (raw.take L))):=⟨HU.out.below bt3⟩
    replace HV:Aa (Br t3 v (be (raw.drop L))):=⟨HV.out.below bt3⟩
    replace HG:Aa _:=⟨HG.out.below bt3⟩
    replace HRAW:Aa _:=⟨HRAW.out.below bt3⟩
    replace HXS:Aa _:=⟨HXS.out.later bt3⟩
    replace HYS:Aa _:=⟨HYS.out.later bt3⟩
    replace HB:Aa _:=⟨Ab HB.out bt3⟩
    clear bt3 ht2 hby_;have hbi:Below t3.heap.size t3 (t3.alloc (.cells #[.slice none 0 0,.slice none 0 0] 75)):=By;have hbxx:Bo 75 (t3.alloc (.cells #[.slice none 0 0,.slice none 0 0] 75)) t3.heap.size (.slice none 0 0) (.slice none 0 0):=Bo.made _ _ _ _;obtain⟨bn_,hbn_⟩:∃zz,t3.heap.size=zz:=⟨_,rfl⟩
    obtain⟨t4i,ht4i⟩:∃zz,t3.alloc (.cells #[.slice none 0 0,.slice none 0 0] 75)=zz:=⟨_,rfl⟩
    rw[ht4i]at hbi hbxx
    rw[hbn_]at hbxx
    obtain⟨zk0,zk1⟩:=hbxx.cells;have zf0:=hbxx.free 0;have zf1:=hbxx.free 1;have hbx2:=hbxx.set (.slice none 0 0) (.slice none 0 0);have bt4:Below t3.heap.size t3 ((t4i.setCell ⟨bn_,0,none⟩ (.slice none 0 0)).setCell ⟨bn_,1,none⟩ (.slice none 0 0)):=(hbi.setCell (by rw[hbn_];exact Av _) _).setCell (by rw[hbn_];exact Av _) _;obtain⟨t4,ht4⟩:∃zz,(t4i.setCell ⟨bn_,0,none⟩ (.slice none 0 0)).setCell ⟨bn_,1,none⟩ (.slice none 0 0)=zz:=⟨_,rfl⟩
    rw[ht4]at bt4 hbx2
    have HNS:=Ac hbx2;clear hbxx hbx2 hbi;replace HG:Aa _:=⟨HG.out.below bt4⟩
    replace HRAW:Aa _:=⟨HRAW.out.below bt4⟩
    replace HXS:Aa _:=⟨HXS.out.later bt4⟩
    replace HYS:Aa _:=⟨HYS.out.later bt4⟩
    replace HB:Aa _:=⟨Ab HB.out bt4⟩
    replace HU:Aa (Br t4 u (be (raw.take L))):=⟨HU.out.below bt4⟩
    replace HV:Aa (Br t4 v (be (raw.drop L))):=⟨HV.out.below bt4⟩
    clear bt4;obtain⟨d0,d1⟩:=HXS.out.cells
    go_wp2_with fail
    refine(Ed (w:=t4) (x:=x) (y:=y)).mono ?_;rintro en t5 ⟨rfl,bt5⟩;replace HU:Aa (Br t5 u (be (raw.take L))):=⟨HU.out.below bt5⟩
    replace HV:Aa (Br t5 v (be (raw.drop L))):=⟨HV.out.below bt5⟩
    replace HG:Aa _:=⟨HG.out.below bt5⟩
    replace HRAW:Aa _:=⟨HRAW.out.below bt5⟩
    replace HXS:Aa _:=⟨HXS.out.later bt5⟩
    replace HYS:Aa _:=⟨HYS.out.later bt5⟩
    replace HB:Aa _:=⟨Ab HB.out bt5⟩
    clear bt5 d0 d1 ht4 ht4i hbn_ HNS zk0 zk1 zf0 zf1;obtain⟨d0,d1⟩:=HYS.out.cells
    go_wp2_with fail
    refine(Hw (Qp.of HG.out) (fun h=>by cases h) HL.out HLb.out.1 HU.out HV.out HLR.out.1 HLR.out.2 HG.out.lims.2.2.2).mono ?_;rintro en t6 ⟨vv,rfl,hov,bt6⟩;have HOV:=Ac hov;replace HG:Aa _:=⟨HG.out.below bt6⟩
    replace HRAW:Aa _:=⟨HRAW.out.below bt6⟩
    replace HXS:Aa _:=⟨HXS.out.later bt6⟩
    replace HB:Aa _:=⟨Ab HB.out bt6⟩
    clear bt6 hov d0 d1;have hbe:Bf (be (raw.take L)) L++Bf (be (raw.drop L)) L=raw:=by
     have hlr:=HRAW.out.row.len;have h1:=Kd (bs:=raw.take L) (HRAW.out.bytes.take L);have h2:=Kd (bs:=raw.drop L) (fun x hx=>HRAW.out.bytes x (List.mem_of_mem_drop hx));have hn2:=HN2.out;replace hlr:nr=raw.length:=hlr;rw[List.length_take,show min L raw.length=L by omega]at h1
     rw[List.length_drop,show raw.length-L=L by omega]at h2
     rw[h1,h2,List.take_append_drop]
    rw[hbe]at HOV
    obtain⟨SS,hSS⟩:∃s,strOf raw=s:=⟨_,rfl⟩
    obtain⟨pv,cv,rfl,hrv⟩:∃pv cv,vv=.slice pv raw.length cv/\Bb t6 .u8 pv raw.length cv raw:=HOV.out.elim fun p c e h _ _=>⟨p,c,e,h⟩
    have hc1:=Dl hrv;have hc2:=Dl HRAW.out.row
    dsimp only at hc2
    rw[hSS]at hc1 hc2
    clear hbe HOV hrv hSS HU HV;go_wp2;go_ret;exact⟨rfl,HB.out⟩
   .replace HG:Aa _:=⟨HG.out.below bt⟩
    replace HRAW:Aa _:=⟨HRAW.out.below bt⟩
    replace HXS:Aa _:=⟨HXS.out.later bt⟩
    replace HB:Aa _:=⟨Ab HB.out bt⟩
    clear bt;have hbi:Below t1.heap.size t1 (t1.alloc (.cells #[.slice none 0 0,.slice none 0 0] 75)):=By;have hbxx:Bo 75 (t1.alloc (.cells #[.slice none 0 0,.slice none 0 0] 75)) t1.heap.size (.slice none 0 0) (.slice none 0 0):=Bo.made _ _ _ _;obtain⟨by_,hby_⟩:∃zz,t1.heap.size=zz:=⟨_,rfl⟩
    obtain⟨t2i,ht2i⟩:∃zz,t1.alloc (.cells #[.slice none 0 0,.slice none 0 0] 75)=zz:=⟨_,rfl⟩
    rw[ht2i]at hbi hbxx
    rw[hby_]at hbxx
    obtain⟨zk0,zk1⟩:=hbxx.cells;have zf0:=hbxx.free 0;have zf1:=hbxx.free 1;have hbx2:=hbxx.set (.slice none 0 0) (.slice none 0 0);have bt2:Below t1.heap.size t1 ((t2i.setCell ⟨by_,0,none⟩ (.slice none 0 0)).setCell ⟨by_,1,none⟩ (.slice none 0 0)):=(hbi.setCell (by rw[hby_];exact Av _) _).setCell (by rw[hby_];exact Av _) _;obtain⟨t2,ht2⟩:∃zz,(t2i.setCell ⟨by_,0,none⟩ (.slice none 0 0)).setCell ⟨by_,1,none⟩ (.slice none 0 0)=zz:=⟨_,rfl⟩
    rw[ht2]at bt2 hbx2
    have HYS:=Ac hbx2;clear hbxx hbx2 hbi;replace HG:Aa _:=⟨HG.out.below bt2⟩
    replace HRAW:Aa _:=⟨HRAW.out.below bt2⟩
    replace HXS:Aa _:=⟨HXS.out.later bt2⟩
    replace HB:Aa _:=⟨Ab HB.out bt2⟩
    clear bt2
    go_wp2_with fail
    refine(Hi (w:=t2) (n:=nr) (c:=cr) (p:=pr)).mono ?_;rintro en t3 ⟨rfl,bt3⟩;replace HG:Aa _:=⟨HG.out.below bt3⟩
    replace HRAW:Aa _:=⟨HRAW.out.below bt3⟩
    replace HXS:Aa _:=⟨HXS.out.later bt3⟩
    replace HYS:Aa _:=⟨HYS.out.later bt3⟩
    replace HB:Aa _:=⟨Ab HB.out bt3⟩
    clear bt3 ht2 ht2i hby_ zk0 zk1 zf0 zf1;have hbi:Below t3.heap.size t3 (t3.alloc (.cells #[.slice none 0 0,.slice none 0 0] 75)):=By;have hbxx:Bo 75 (t3.alloc (.cells #[.slice none 0 0,.slice none 0 0] 75)) t3.heap.size (.slice none 0 0) (.slice none 0 0):=Bo.made _ _ _ _;obtain⟨bn_,hbn_⟩:∃zz,t3.heap.size=zz:=⟨_,rfl⟩
    obtain⟨t4i,ht4i⟩:∃zz,t3.alloc (.cells #[.slice none 0 0,.slice none 0 0] 75)=zz:=⟨_,rfl⟩
    rw[ht4i]at hbi hbxx
    rw[hbn_]at hbxx
    obtain⟨zk0,zk1⟩:=hbxx.cells;have zf0:=hbxx.free 0;have zf1:=hbxx.free 1;have hbx2:=hbxx.set (.slice none 0 0) (.slice none 0 0);have bt4:Below t3.heap.size t3 ((t4i.setCell ⟨bn_,0,none⟩ (.slice none 0 0)).setCell ⟨bn_,1,none⟩ (.slice none 0 0)):=(hbi.setCell (by rw[hbn_];exact Av _) _).setCell (by rw[hbn_];exact Av _) _;obtain⟨t4,ht4⟩:∃zz,(t4i.setCell ⟨bn_,0,none⟩ (.slice none 0 0)).setCell ⟨bn_,1,none⟩ (.slice none 0 0)=zz:=⟨_,rfl⟩
    rw[ht4]at bt4 hbx2
    have HNS:=Ac hbx2;clear hbxx hbx2 hbi;replace HG:Aa _:=⟨HG.out.below bt4⟩
    replace HRAW:Aa _:=⟨HRAW.out.below bt4⟩
    replace HXS:Aa _:=⟨HXS.out.later bt4⟩
    replace HYS:Aa _:=⟨HYS.out.later bt4⟩
    replace HB:Aa _:=⟨Ab HB.out bt4⟩
    clear bt4;obtain⟨d0,d1⟩:=HXS.out.cells
    go_wp2_with fail
    refine(Ed (w:=t4) (x:=x) (y:=y)).mono ?_;rintro en t5 ⟨rfl,bt5⟩;replace HG:Aa _:=⟨HG.out.below bt5⟩
    replace HRAW:Aa _:=⟨HRAW.out.below bt5⟩
    replace HXS:Aa _:=⟨HXS.out.later bt5⟩
    replace HYS:Aa _:=⟨HYS.out.later bt5⟩
    replace HB:Aa _:=⟨Ab HB.out bt5⟩
    clear bt5 d0 d1 ht4 ht4i hbn_ HNS zk0 zk1 zf0 zf1;obtain⟨d0,d1⟩:=HYS.out.cells
    go_wp2_with fail
    refine(Ea (t:=true) (Ht t5) rfl).mono ?_;rintro en t6 ⟨_,rfl,rfl,bt6⟩;replace HYS:Aa _:=⟨HYS.out.later bt6⟩
    replace HB:Aa _:=⟨Ab HB.out bt6⟩
    clear bt6 d0 d1;obtain⟨d0,d1⟩:=HYS.out.cells
    go_wp2_with fail
    refine(Ea (t:=true) (Ht t6) rfl).mono ?_;rintro en t7 ⟨_,rfl,rfl,bt7⟩;replace HB:Aa _:=⟨Ab HB.out bt7⟩
    clear bt7 d0 d1;go_wp2;go_ret;exact⟨rfl,HB.out⟩
 .have HLT:Aa _:=⟨hlt⟩
  clear hlt
  go_wp2_with fail
  refine(Qj (Qp.of HG.out) HNX.out HSl.out.1 HNY.out HSl.out.2 (by decide) (by decide) HLT.out).mono ?_;rintro en wB ⟨rfl,bA⟩;replace HNX:Aa (Br wB x S):=⟨HNX.out.below bA⟩
  replace HNY:Aa (Br wB y R):=⟨HNY.out.below bA⟩
  replace HG:Aa _:=⟨HG.out.below bA⟩
  replace HRAW:Aa _:=⟨HRAW.out.below bA⟩
  replace HXS:Aa _:=⟨HXS.out.later bA⟩
  replace HMQ:Aa _:=⟨HMQ.out.below bA⟩
  replace HXM:Aa _:=⟨HXM.out.below bA HXM.out.lt⟩
  replace HRV:Aa _:=⟨HRV.out.below bA⟩
  replace HB:Aa _:=⟨Ab HB.out bA⟩
  replace HG4:Aa _:=⟨HG4.out.below bA HG4.out.lt⟩
  clear bA d0 d1 hwA hbxs;obtain⟨d0,d1⟩:=HXS.out.cells;have cm:=HXM.out.cell
  go_wp2_with fail
  refine(Az (Fit.of HNX.out HSl.out.1) HMQ.out (by decide) (by decide) HK1.out).mono ?_;rintro en wC ⟨_,rfl,rfl,bB⟩;replace HNX:Aa (Br wC x S):=⟨HNX.out.below bB⟩
  replace HNY:Aa (Br wC y R):=⟨HNY.out.below bB⟩
  replace HG:Aa _:=⟨HG.out.below bB⟩
  replace HRAW:Aa _:=⟨HRAW.out.below bB⟩
  replace HXS:Aa _:=⟨HXS.out.later bB⟩
  replace HMQ:Aa _:=⟨HMQ.out.below bB⟩
  replace HXM:Aa _:=⟨HXM.out.below bB HXM.out.lt⟩
  replace HRV:Aa _:=⟨HRV.out.below bB⟩
  replace HB:Aa _:=⟨Ab HB.out bB⟩
  replace HG4:Aa _:=⟨HG4.out.below bB HG4.out.lt⟩
  clear bB d0 d1 cm
  by_cases hk1:K1<0
  .have hg1:¬(0:Int)<=K1:=by omega
   have hg2:(0:Int)<=K2:=by
    rcases Int.lt_or_le K2 0 with h|h
    .exact absurd ⟨Fd.1 (by rw[HK1.out];exact hk1),Fd.1 (by rw[HK2.out];exact h)⟩ HLT.out
    .exact h
   obtain⟨d0,d1⟩:=HXS.out.cells;have cm:=HXM.out.cell
   go_wp2_with fail
   refine(Az (Fit.of HNY.out HSl.out.2) HMQ.out (by decide) (by decide) HK2.out).mono ?_;rintro en wD ⟨_,rfl,rfl,bC⟩;replace HG:Aa _:=⟨HG.out.below bC⟩
   replace HRAW:Aa _:=⟨HRAW.out.below bC⟩
   replace HXS:Aa _:=⟨HXS.out.later bC⟩
   replace HB:Aa _:=⟨Ab HB.out bC⟩
   clear bC d0 d1 cm HNX HNY HMQ HXM HRV HG4
   go_wp2_with fail
   refine(Pk HG.out HL.out HLb.out.1 HLb.out.2 HRAW.out).mono ?_;rintro en t1 hor;rcases hor with ⟨⟨u,v,rfl,hu,hv,bt⟩,hn2,hl1,hl2⟩|⟨rfl,bt⟩
   .have HU:Aa _:=⟨hu⟩
    have HV:=Ac hv;have HN2:Aa (nr=2*L):=⟨hn2⟩
    have HLR:Aa (be (raw.take L)<Q/\be (raw.drop L)<Q):=⟨hl1,hl2⟩
    replace HG:Aa _:=⟨HG.out.below bt⟩
    replace HRAW:Aa _:=⟨HRAW.out.below bt⟩
    replace HXS:Aa _:=⟨HXS.out.later bt⟩
    replace HB:Aa _:=⟨Ab HB.out bt⟩
    clear hu hv hn2 hl1 hl2 bt;have bt2:Below t1.heap.size t1 (t1.alloc (.cells #[.slice u.1 u.2.1 u.2.2,.slice v.1 v.2.1 v.2.2] 75)):=By;have hbx:Bo 75 (t1.alloc (.cells #[.slice u.1 u.2.1 u.2.2,.slice v.1 v.2.1 v.2.2] 75)) t1.heap.size (.slice u.1 u.2.1 u.2.2) (.slice v.1 v.2.1 v.2.2):=Bo.made _ _ _ _;obtain⟨by_,hby_⟩:∃zz,t1.heap.size=zz:=⟨_,rfl⟩
    obtain⟨t2,ht2⟩:∃zz,t1.alloc (.cells #[.slice u.1 u.2.1 u.2.2,.slice v.1 v.2.1 v.2.2] 75)=zz:=⟨_,rfl⟩
    rw[ht2]at bt2 hbx
    rw[hby_]at hbx
    have HYS:=Ac hbx;clear hbx;replace HG:Aa _:=⟨HG.out.below bt2⟩
    replace HRAW:Aa _:=⟨HRAW.out.below bt2⟩
    replace HXS:Aa _:=⟨HXS.out.later bt2⟩
    replace HB:Aa _:=⟨Ab HB.out bt2⟩
    replace HU:Aa (Br t2 u (be (raw.take L))):=⟨HU.out.below bt2⟩
    replace HV:Aa (Br t2 v (be (raw.drop L))):=⟨HV.out.below bt2⟩
    clear bt2
    go_wp2_with fail
    refine(Hi (w:=t2) (n:=nr) (c:=cr) (p:=pr)).mono ?_;rintro en t3 ⟨rfl,bt3⟩;replace HU:Aa (Br t3 u (be (raw.take L))):=⟨HU.out.below bt3⟩
    replace HV:Aa (Br t3 v (be (raw.drop L))):=⟨HV.out.below bt3⟩
    replace HG:Aa _:=⟨HG.out.below bt3⟩
    replace HRAW:Aa _:=⟨HRAW.out.below bt3⟩
    replace HXS:Aa _:=⟨HXS.out.later bt3⟩
    replace HYS:Aa _:=⟨HYS.out.later bt3⟩
    replace HB:Aa _:=⟨Ab HB.out bt3⟩
    clear bt3 ht2 hby_;have hbi:Below t3.heap.size t3 (t3.alloc (.cells #[.slice none 0 0,.slice none 0 0] 75)):=By;have hbxx:Bo 75 (t3.alloc (.cells #[.slice none 0 0,.slice none 0 0] 75)) t3.heap.size (.slice none 0 0) (.slice none 0 0):=Bo.made _ _ _ _;obtain⟨bn_,hbn_⟩:∃zz,t3.heap.size=zz:=⟨_,rfl⟩
    obtain⟨t4i,ht4i⟩:∃zz,t3.alloc (.cells #[.slice none 0 0,.slice none 0 0] 75)=zz:=⟨_,rfl⟩
    rw[ht4i]at hbi hbxx
    rw[hbn_]at hbxx
    obtain⟨zk0,zk1⟩:=hbxx.cells;have zf0:=hbxx.free 0;have zf1:=hbxx.free 1;have hbx2:=hbxx.set (.slice none 0 0) (.slice none 0 0);have bt4:Below t3.heap.size t3 ((t4i.setCell ⟨bn_,0,none⟩ (.slice none 0 0)).setCell ⟨bn_,1,none⟩ (.slice none 0 0)):=(hbi.setCell (by rw[hbn_];exact Av _) _).setCell (by rw[hbn_];exact Av _) _;obtain⟨t4,ht4⟩:∃zz,(t4i.setCell ⟨bn_,0,none⟩ (.slice none 0 0)).setCell ⟨bn_,1,none⟩ (.slice none 0 0)=zz:=⟨_,rfl⟩
    rw[ht4]at bt4 hbx2
    have HNS:=Ac hbx2;clear hbxx hbx2 hbi;replace HG:Aa _:=⟨HG.out.below bt4⟩
    replace HRAW:Aa _:=⟨HRAW.out.below bt4⟩
    replace HXS:Aa _:=⟨HXS.out.later bt4⟩
    replace HYS:Aa _:=⟨HYS.out.later bt4⟩
    replace HB:Aa _:=⟨Ab HB.out bt4⟩
    replace HU:Aa (Br t4 u (be (raw.take L))):=⟨HU.out.below bt4⟩
    replace HV:Aa (Br t4 v (be (raw.drop L))):=⟨HV.out.below bt4⟩
    clear bt4;obtain⟨d0,d1⟩:=HXS.out.cells
    go_wp2_with fail
    refine(Ed (w:=t4) (x:=x) (y:=y)).mono ?_;rintro en t5 ⟨rfl,bt5⟩;replace HU:Aa (Br t5 u (be (raw.take L))):=⟨HU.out.below bt5⟩
    replace HV:Aa (Br t5 v (be (raw.drop L))):=⟨HV.out.below bt5⟩
    replace HG:Aa _:=⟨HG.out.below bt5⟩
    replace HRAW:Aa _:=⟨HRAW.out.below bt5⟩
    replace HXS:Aa _:=⟨HXS.out.later bt5⟩
    replace HYS:Aa _:=⟨HYS.out.later bt5⟩
    replace HB:Aa _:=⟨Ab HB.out bt5⟩
    clear bt5 d0 d1 ht4 ht4i hbn_ HNS zk0 zk1 zf0 zf1;obtain⟨d0,d1⟩:=HYS.out.cells
    go_wp2_with fail
    refine(Hw (Qp.of HG.out) (fun h=>by cases h) HL.out HLb.out.1 HU.out HV.out HLR.out.1 HLR.out.2 HG.out.lims.2.2.2).mono ?_;rintro en t6 ⟨vv,rfl,hov,bt6⟩;have HOV:=Ac hov;replace HG:Aa _:=⟨HG.out.below bt6⟩
    replace HRAW:Aa _:=⟨HRAW.out.below bt6⟩
    replace HXS:Aa _:=⟨HXS.out.later bt6⟩
    replace HB:Aa _:=⟨Ab HB.out bt6⟩
    clear bt6 hov d0 d1;have hbe:Bf (be (raw.take L)) L++Bf (be (raw.drop L)) L=raw:=by
     have hlr:=HRAW.out.row.len;have h1:=Kd (bs:=raw.take L) (HRAW.out.bytes.take L);have h2:=Kd (bs:=raw.drop L) (fun x hx=>HRAW.out.bytes x (List.mem_of_mem_drop hx));have hn2:=HN2.out;replace hlr:nr=raw.length:=hlr;rw[List.length_take,show min L raw.length=L by omega]at h1
     rw[List.length_drop,show raw.length-L=L by omega]at h2
     rw[h1,h2,List.take_append_drop]
    rw[hbe]at HOV
    obtain⟨SS,hSS⟩:∃s,strOf raw=s:=⟨_,rfl⟩
    obtain⟨pv,cv,rfl,hrv⟩:∃pv cv,vv=.slice pv raw.length cv/\Bb t6 .u8 pv raw.length cv raw:=HOV.out.elim fun p c e h _ _=>⟨p,c,e,h⟩
    have hc1:=Dl hrv;have hc2:=Dl HRAW.out.row
    dsimp only at hc2
    rw[hSS]at hc1 hc2
    clear hbe HOV hrv hSS HU HV;go_wp2;go_ret;exact⟨rfl,HB.out⟩
   .replace HG:Aa _:=⟨HG.out.below bt⟩
    replace HRAW:Aa _:=⟨HRAW.out.below bt⟩
    replace HXS:Aa _:=⟨HXS.out.later bt⟩
    replace HB:Aa _:=⟨Ab HB.out bt⟩
    clear bt;have hbi:Below t1.heap.size t1 (t1.alloc (.cells #[.slice none 0 0,.slice none 0 0] 75)):=By;have hbxx:Bo 75 (t1.alloc (.cells #[.slice none 0 0,.slice none 0 0] 75)) t1.heap.size (.slice none 0 0) (.slice none 0 0):=Bo.made _ _ _ _;obtain⟨by_,hby_⟩:∃zz,t1.heap.size=zz:=⟨_,rfl⟩
    obtain⟨t2i,ht2i⟩:∃zz,t1.alloc (.cells #[.slice none 0 0,.slice none 0 0] 75)=zz:=⟨_,rfl⟩
    rw[ht2i]at hbi hbxx
    rw[hby_]at hbxx
    obtain⟨zk0,zk1⟩:=hbxx.cells;have zf0:=hbxx.free 0;have zf1:=hbxx.free 1;have hbx2:=hbxx.set (.slice none 0 0) (.slice none 0 0);have bt2:Below t1.heap.size t1 ((t2i.setCell ⟨by_,0,none⟩ (.slice none 0 0)).setCell ⟨by_,1,none⟩ (.slice none 0 0)):=(hbi.setCell (by rw[hby_];exact Av _) _).setCell (by rw[hby_];exact Av _) _;obtain⟨t2,ht2⟩:∃zz,(t2i.setCell ⟨by_,0,none⟩ (.slice none 0 0)).setCell ⟨by_,1,none⟩ (.slice none 0 0)=zz:=⟨_,rfl⟩
    rw[ht2]at bt2 hbx2
    have HYS:=Ac hbx2;clear hbxx hbx2 hbi;replace HG:Aa _:=⟨HG.out.below bt2⟩
    replace HRAW:Aa _:=⟨HRAW.out.below bt2⟩
    replace HXS:Aa _:=⟨HXS.out.later bt2⟩
    replace HB:Aa _:=⟨Ab HB.out bt2⟩
    clear bt2
    go_wp2_with fail
    refine(Hi (w:=t2) (n:=nr) (c:=cr) (p:=pr)).mono ?_;rintro en t3 ⟨rfl,bt3⟩;replace HG:Aa _:=⟨HG.out.below bt3⟩
    replace HRAW:Aa _:=⟨HRAW.out.below bt3⟩
    replace HXS:Aa _:=⟨HXS.out.later bt3⟩
    replace HYS:Aa _:=⟨HYS.out.later bt3⟩
    replace HB:Aa _:=⟨Ab HB.out bt3⟩
    clear bt3 ht2 ht2i hby_ zk0 zk1 zf0 zf1;have hbi:Below t3.heap.size t3 (t3.alloc (.cells #[.slice none 0 0,.slice none 0 0] 75)):=By;have hbxx:Bo 75 (t3.alloc (.cells #[.slice none 0 0,.slice none 0 0] 75)) t3.heap.size (.slice none 0 0) (.slice none 0 0):=Bo.made _ _ _ _;obtain⟨bn_,hbn_⟩:∃zz,t3.heap.size=zz:=⟨_,rfl⟩
    obtain⟨t4i,ht4i⟩:∃zz,t3.alloc (.cells #[.slice none 0 0,.slice none 0 0] 75)=zz:=⟨_,rfl⟩
    rw[ht4i]at hbi hbxx
    rw[hbn_]at hbxx
    obtain⟨zk0,zk1⟩:=hbxx.cells;have zf0:=hbxx.free 0;have zf1:=hbxx.free 1;have hbx2:=hbxx.set (.slice none 0 0) (.slice none 0 0);have bt4:Below t3.heap.size t3 ((t4i.setCell ⟨bn_,0,none⟩ (.slice none 0 0)).setCell ⟨bn_,1,none⟩ (.slice none 0 0)):=(hbi.setCell (by rw[hbn_];exact Av _) _).setCell (by rw[hbn_];exact Av _) _;obtain⟨t4,ht4⟩:∃zz,(t4i.setCell ⟨bn_,0,none⟩ (.slice none 0 0)).setCell ⟨bn_,1,none⟩ (.slice none 0 0)=zz:=⟨_,rfl⟩
    rw[ht4]at bt4 hbx2
    have HNS:=Ac hbx2;clear hbxx hbx2 hbi;replace HG:Aa _:=⟨HG.out.below bt4⟩
    replace HRAW:Aa _:=⟨HRAW.out.below bt4⟩
    replace HXS:Aa _:=⟨HXS.out.later bt4⟩
    replace HYS:Aa _:=⟨HYS.out.later bt4⟩
    replace HB:Aa _:=⟨Ab HB.out bt4⟩
    clear bt4;obtain⟨d0,d1⟩:=HXS.out.cells
    go_wp2_with fail
    refine(Ed (w:=t4) (x:=x) (y:=y)).mono ?_;rintro en t5 ⟨rfl,bt5⟩;replace HG:Aa _:=⟨HG.out.below bt5⟩
    replace HRAW:Aa _:=⟨HRAW.out.below bt5⟩
    replace HXS:Aa _:=⟨HXS.out.later bt5⟩
    replace HYS:Aa _:=⟨HYS.out.later bt5⟩
    replace HB:Aa _:=⟨Ab HB.out bt5⟩
    clear bt5 d0 d1 ht4 ht4i hbn_ HNS zk0 zk1 zf0 zf1;obtain⟨d0,d1⟩:=HYS.out.cells
    go_wp2_with fail
    refine(Ea (t:=true) (Ht t5) rfl).mono ?_;rintro en t6 ⟨_,rfl,rfl,bt6⟩;replace HYS:Aa _:=⟨HYS.out.later bt6⟩
    replace HB:Aa _:=⟨Ab HB.out bt6⟩
    clear bt6 d0 d1;obtain⟨d0,d1⟩:=HYS.out.cells
    go_wp2_with fail
    refine(Ea (t:=true) (Ht t6) rfl).mono ?_;rintro en t7 ⟨_,rfl,rfl,bt7⟩;replace HB:Aa _:=⟨Ab HB.out bt7⟩
    clear bt7 d0 d1;go_wp2;go_ret;exact⟨rfl,HB.out⟩
  .have hg1:(0:Int)<=K1:=by omega
   go_wp2_with fail
   refine(Pk HG.out HL.out HLb.out.1 HLb.out.2 HRAW.out).mono ?_;rintro en t1 hor;rcases hor with ⟨⟨u,v,rfl,hu,hv,bt⟩,hn2,hl1,hl2⟩|⟨rfl,bt⟩
   .have HU:Aa _:=⟨hu⟩
    have HV:=Ac hv;have HN2:Aa (nr=2*L):=⟨hn2⟩
    have HLR:Aa (be (raw.take L)<Q/\be (raw.drop L)<Q):=⟨hl1,hl2⟩
    replace HG:Aa _:=⟨HG.out.below bt⟩
    replace HRAW:Aa _:=⟨HRAW.out.below bt⟩
    replace HXS:Aa _:=⟨HXS.out.later bt⟩
    replace HB:Aa _:=⟨Ab HB.out bt⟩
    clear hu hv hn2 hl1 hl2 bt;have bt2:Below t1.heap.size t1 (t1.alloc (.cells #[.slice u.1 u.2.1 u.2.2,.slice v.1 v.2.1 v.2.2] 75)):=By;have hbx:Bo 75 (t1.alloc (.cells #[.slice u.1 u.2.1 u.2.2,.slice v.1 v.2.1 v.2.2] 75)) t1.heap.size (.slice u.1 u.2.1 u.2.2) (.slice v.1 v.2.1 v.2.2):=Bo.made _ _ _ _;obtain⟨by_,hby_⟩:∃zz,t1.heap.size=zz:=⟨_,rfl⟩
    obtain⟨t2,ht2⟩:∃zz,t1.alloc (.cells #[.slice u.1 u.2.1 u.2.2,.slice v.1 v.2.1 v.2.2] 75)=zz:=⟨_,rfl⟩
    rw[ht2]at bt2 hbx
    rw[hby_]at hbx
    have HYS:=Ac hbx;clear hbx;replace HG:Aa _:=⟨HG.out.below bt2⟩
    replace HRAW:Aa _:=⟨HRAW.out.below bt2⟩
    replace HXS:Aa _:=⟨HXS.out.later bt2⟩
    replace HB:Aa _:=⟨Ab HB.out bt2⟩
    replace HU:Aa (Br t2 u (be (raw.take L))):=⟨HU.out.below bt2⟩
    replace HV:Aa (Br t2 v (be (raw.drop L))):=⟨HV.out.below bt2⟩
    clear bt2
    go_wp2_with fail
    refine(Hi (w:=t2) (n:=nr) (c:=cr) (p:=pr)).mono ?_;rintro en t3 ⟨rfl,bt3⟩;replace HU:Aa (Br t3 u (be (raw.take L))):=⟨HU.out.below bt3⟩
    replace HV:Aa (Br t3 v (be (raw.drop L))):=⟨HV.out.below bt3⟩
    replace HG:Aa _:=⟨HG.out.below bt3⟩
    replace HRAW:Aa _:=⟨HRAW.out.below bt3⟩
    replace HXS:Aa _:=⟨HXS.out.later bt3⟩
    replace HYS:Aa _:=⟨HYS.out.later bt3⟩
    replace HB:Aa _:=⟨Ab HB.out bt3⟩
    clear bt3 ht2 hby_;have hbi:Below t3.heap.size t3 (t3.alloc (.cells #[.slice none 0 0,.slice none 0 0] 75)):=By;have hbxx:Bo 75 (t3.alloc (.cells #[.slice none 0 0,.slice none 0 0] 75)) t3.heap.size (.slice none 0 0) (.slice none 0 0):=Bo.made _ _ _ _;obtain⟨bn_,hbn_⟩:∃zz,t3.heap.size=zz:=⟨_,rfl⟩
    obtain⟨t4i,ht4i⟩:∃zz,t3.alloc (.cells #[.slice none 0 0,.slice none 0 0] 75)=zz:=⟨_,rfl⟩
    rw[ht4i]at hbi hbxx
    rw[hbn_]at hbxx
    obtain⟨zk0,zk1⟩:=hbxx.cells;have zf0:=hbxx.free 0;have zf1:=hbxx.free 1;have hbx2:=hbxx.set (.slice none 0 0) (.slice none 0 0);have bt4:Below t3.heap.size t3 ((t4i.setCell ⟨bn_,0,none⟩ (.slice none 0 0)).setCell ⟨bn_,1,none⟩ (.slice none 0 0)):=(hbi.setCell (by rw[hbn_];exact Av _) _).setCell (by rw[hbn_];exact Av _) _;obtain⟨t4,ht4⟩:∃zz,(t4i.setCell ⟨bn_,0,none⟩ (.slice none 0 0)).setCell ⟨bn_,1,none⟩ (.slice none 0 0)=zz:=⟨_,rfl⟩
    rw[ht4]at bt4 hbx2
    have HNS:=Ac hbx2;clear hbxx hbx2 hbi;replace HG:Aa _:=⟨HG.out.below bt4⟩
    replace HRAW:Aa _:=⟨HRAW.out.below bt4⟩
    replace HXS:Aa _:=⟨HXS.out.later bt4⟩
    replace HYS:Aa _:=⟨HYS.out.later bt4⟩
    replace HB:Aa _:=⟨Ab HB.out bt4⟩
    replace HU:Aa (Br t4 u (be (raw.take L))):=⟨HU.out.below bt4⟩
    replace HV:Aa (Br t4 v (be (raw.drop L))):=⟨HV.out.below bt4⟩
    clear bt4;obtain⟨d0,d1⟩:=HXS.out.cells
    go_wp2_with fail
    refine(Ed (w:=t4) (x:=x) (y:=y)).mono ?_;rintro en t5 ⟨rfl,bt5⟩;replace HU:Aa (Br t5 u (be (raw.take L))):=⟨HU.out.below bt5⟩
    replace HV:Aa (Br t5 v (be (raw.drop L))):=⟨HV.out.below bt5⟩
    replace HG:Aa _:=⟨HG.out.below bt5⟩
    replace HRAW:Aa _:=⟨HRAW.out.below bt5⟩
    replace HXS:Aa _:=⟨HXS.out.later bt5⟩
    replace HYS:Aa _:=⟨HYS.out.later bt5⟩
    replace HB:Aa _:=⟨Ab HB.out bt5⟩
    clear bt5 d0 d1 ht4 ht4i hbn_ HNS zk0 zk1 zf0 zf1;obtain⟨d0,d1⟩:=HYS.out.cells
    go_wp2_with fail
    refine(Hw (Qp.of HG.out) (fun h=>by cases h) HL.out HLb.out.1 HU.out HV.out HLR.out.1 HLR.out.2 HG.out.lims.2.2.2).mono ?_;rintro en t6 ⟨vv,rfl,hov,bt6⟩;have HOV:=Ac hov;replace HG:Aa _:=⟨HG.out.below bt6⟩
    replace HRAW:Aa _:=⟨HRAW.out.below bt6⟩
    replace HXS:Aa _:=⟨HXS.out.later bt6⟩
    replace HB:Aa _:=⟨Ab HB.out bt6⟩
    clear bt6 hov d0 d1;have hbe:Bf (be (raw.take L)) L++Bf (be (raw.drop L)) L=raw:=by
     have hlr:=HRAW.out.row.len;have h1:=Kd (bs:=raw.take L) (HRAW.out.bytes.take L);have h2:=Kd (bs:=raw.drop L) (fun x hx=>HRAW.out.bytes x (List.mem_of_mem_drop hx));have hn2:=HN2.out;replace hlr:nr=raw.length:=hlr;rw[List.length_take,show min L raw.length=L by omega]at h1
     rw[List.length_drop,show raw.length-L=L by omega]at h2
     rw[h1,h2,List.take_append_drop]
    rw[hbe]at HOV
    obtain⟨SS,hSS⟩:∃s,strOf raw=s:=⟨_,rfl⟩
    obtain⟨pv,cv,rfl,hrv⟩:∃pv cv,vv=.slice pv raw.length cv/\Bb t6 .u8 pv raw.length cv raw:=HOV.out.elim fun p c e h _ _=>⟨p,c,e,h⟩
    have hc1:=Dl hrv;have hc2:=Dl HRAW.out.row
    dsimp only at hc2
    rw[hSS]at hc1 hc2
    clear hbe HOV hrv hSS HU HV;go_wp2;go_ret;exact⟨rfl,HB.out⟩
   .replace HG:Aa _:=⟨HG.out.below bt⟩
    replace HRAW:Aa _:=⟨HRAW.out.below bt⟩
    replace HXS:Aa _:=⟨HXS.out.later bt⟩
    replace HB:Aa _:=⟨Ab HB.out bt⟩
    clear bt;have hbi:Below t1.heap.size t1 (t1.alloc (.cells #[.slice none 0 0,.slice none 0 0] 75)):=By;have hbxx:Bo 75 (t1.alloc (.cells #[.slice none 0 0,.slice none 0 0] 75)) t1.heap.size (.slice none 0 0) (.slice none 0 0):=Bo.made _ _ _ _;obtain⟨by_,hby_⟩:∃zz,t1.heap.size=zz:=⟨_,rfl⟩
    obtain⟨t2i,ht2i⟩:∃zz,t1.alloc (.cells #[.slice none 0 0,.slice none 0 0] 75)=zz:=⟨_,rfl⟩
    rw[ht2i]at hbi hbxx
    rw[hby_]at hbxx
    obtain⟨zk0,zk1⟩:=hbxx.cells;have zf0:=hbxx.free 0;have zf1:=hbxx.free 1;have hbx2:=hbxx.set (.slice none 0 0) (.slice none 0 0);have bt2:Below t1.heap.size t1 ((t2i.setCell ⟨by_,0,none⟩ (.slice none 0 0)).setCell ⟨by_,1,none⟩ (.slice none 0 0)):=(hbi.setCell (by rw[hby_];exact Av _) _).setCell (by rw[hby_];exact Av _) _;obtain⟨t2,ht2⟩:∃zz,(t2i.setCell ⟨by_,0,none⟩ (.slice none 0 0)).setCell ⟨by_,1,none⟩ (.slice none 0 0)=zz:=⟨_,rfl⟩
    rw[ht2]at bt2 hbx2
    have HYS:=Ac hbx2;clear hbxx hbx2 hbi;replace HG:Aa _:=⟨HG.out.below bt2⟩
    replace HRAW:Aa _:=⟨HRAW.out.below bt2⟩
    replace HXS:Aa _:=⟨HXS.out.later bt2⟩
    replace HB:Aa _:=⟨Ab HB.out bt2⟩
    clear bt2
    go_wp2_with fail
    refine(Hi (w:=t2) (n:=nr) (c:=cr) (p:=pr)).mono ?_;rintro en t3 ⟨rfl,bt3⟩;replace HG:Aa _:=⟨HG.out.below bt3⟩
    replace HRAW:Aa _:=⟨HRAW.out.below bt3⟩
    replace HXS:Aa _:=⟨HXS.out.later bt3⟩
    replace HYS:Aa _:=⟨HYS.out.later bt3⟩
    replace HB:Aa _:=⟨Ab HB.out bt3⟩
    clear bt3 ht2 ht2i hby_ zk0 zk1 zf0 zf1;have hbi:Below t3.heap.size t3 (t3.alloc (.cells #[.slice none 0 0,.slice none 0 0] 75)):=By;have hbxx:Bo 75 (t3.alloc (.cells #[.slice none 0 0,.slice none 0 0] 75)) t3.heap.size (.slice none 0 0) (.slice none 0 0):=Bo.made _ _ _ _;obtain⟨bn_,hbn_⟩:∃zz,t3.heap.size=zz:=⟨_,rfl⟩
    obtain⟨t4i,ht4i⟩:∃zz,t3.alloc (.cells #[.slice none 0 0,.slice none 0 0] 75)=zz:=⟨_,rfl⟩
    rw[ht4i]at hbi hbxx
    rw[hbn_]at hbxx
    obtain⟨zk0,zk1⟩:=hbxx.cells;have zf0:=hbxx.free 0;have zf1:=hbxx.free 1;have hbx2:=hbxx.set (.slice none 0 0) (.slice none 0 0);have bt4:Below t3.heap.size t3 ((t4i.setCell ⟨bn_,0,none⟩ (.slice none 0 0)).setCell ⟨bn_,1,none⟩ (.slice none 0 0)):=(hbi.setCell (by rw[hbn_];exact Av _) _).setCell (by rw[hbn_];exact Av _) _;obtain⟨t4,ht4⟩:∃zz,(t4i.setCell ⟨bn_,0,none⟩ (.slice none 0 0)).setCell ⟨bn_,1,none⟩ (.slice none 0 0)=zz:=⟨_,rfl⟩
    rw[ht4]at bt4 hbx2
    have HNS:=Ac hbx2;clear hbxx hbx2 hbi;replace HG:Aa _:=⟨HG.out.below bt4⟩
    replace HRAW:Aa _:=⟨HRAW.out.below bt4⟩
    replace HXS:Aa _:=⟨HXS.out.later bt4⟩
    replace HYS:Aa _:=⟨HYS.out.later bt4⟩
    replace HB:Aa _:=⟨Ab HB.out bt4⟩
    clear bt4;obtain⟨d0,d1⟩:=HXS.out.cells
    go_wp2_with fail
    refine(Ed (w:=t4) (x:=x) (y:=y)).mono ?_;rintro en t5 ⟨rfl,bt5⟩;replace HG:Aa _:=⟨HG.out.below bt5⟩
    replace HRAW:Aa _:=⟨HRAW.out.below bt5⟩
    replace HXS:Aa _:=⟨HXS.out.later bt5⟩
    replace HYS:Aa _:=⟨HYS.out.later bt5⟩
    replace HB:Aa _:=⟨Ab HB.out bt5⟩
    clear bt5 d0 d1 ht4 ht4i hbn_ HNS zk0 zk1 zf0 zf1;obtain⟨d0,d1⟩:=HYS.out.cells
    go_wp2_with fail
    refine(Ea (t:=true) (Ht t5) rfl).mono ?_;rintro en t6 ⟨_,rfl,rfl,bt6⟩;replace HYS:Aa _:=⟨HYS.out.later bt6⟩
    replace HB:Aa _:=⟨Ab HB.out bt6⟩
    clear bt6 d0 d1;obtain⟨d0,d1⟩:=HYS.out.cells
    go_wp2_with fail
    refine(Ea (t:=true) (Ht t6) rfl).mono ?_;rintro en t7 ⟨_,rfl,rfl,bt7⟩;replace HB:Aa _:=⟨Ab HB.out bt7⟩
    clear bt7 d0 d1;go_wp2;go_ret;exact⟨rfl,HB.out⟩
end Go.Proofs.YtokhckjemidbpaaGreatDoor
