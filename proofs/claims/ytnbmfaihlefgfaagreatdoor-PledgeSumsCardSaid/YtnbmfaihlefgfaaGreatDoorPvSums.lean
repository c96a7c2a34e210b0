/- PledgeSums, walked. -/
import Derived.Test.YtnbmfaihlefgfaaGreatDoorPlC
set_option maxRecDepth 1000000
set_option maxHeartbeats 16000000
set_option linter.all false
namespace Go.Proofs.YtnbmfaihlefgfaaGreatDoor
open Go Go.RowKit Go.Proofs.YtnbmfaihlefgfaaGreatDoor.Flow
theorem Xo (w:World)(hr:Tabs w)(A:Int)(q1:Option Addr)(n1 e1:Nat)(xa:List Nat)(h1:Bq w .u64 q1 n1 e1 xa)(k1:∀x∈xa,Zx x)(q2:Option Addr)(n2 e2:Nat)(xb:List Nat)(h2:Bq w .u64 q2 n2 e2 xb)(k2:∀x∈xb,Zx x)(q3:Option Addr)(n3 e3:Nat)(xc:List Nat)(h3:Bq w .u64 q3 n3 e3 xc)(k3:∀x∈xc,Zx x)(q4:Option Addr)(n4 e4:Nat)(xd:List Nat)(h4:Bq w .u64 q4 n4 e4 xd)(k4:∀x∈xd,Zx x) :
  Calls Tryz.prog 13 #[.int .i64 A,.slice q1 n1 e1,.slice q2 n2 e2,.slice q3 n3 e3,.slice q4 n4 e4] w fun e w'=>e=.returned (.bool true)/\Below w.heap.size w w':=by
 have HLI:=Aa Ih;have HGR:=Aa Gc;have HT:=Aa hr;have HRW1:=Aa h1;have H641:=Aa k1;have HLN1:=Aa h1.len;have hcp1:=h1.cap;have hmx1:=h1.max;have HRW2:=Aa h2;have H642:=Aa k2;have HLN2:=Aa h2.len;have hcp2:=h2.cap;have hmx2:=h2.max;have HRW3:=Aa h3;have H643:=Aa k3;have HLN3:=Aa h3.len;have hcp3:=h3.cap;have hmx3:=h3.max;have HRW4:=Aa h4;have H644:=Aa k4;have HLN4:=Aa h4.len;have hcp4:=h4.cap;have hmx4:=h4.max;obtain⟨i,hi⟩:∃i,((IntKind.u64.wrap A)%3).toNat=i:=⟨_,rfl⟩
 have HI3:Ac (i<3):=⟨by rw[<-hi];exact Vu A⟩
 have HI:=Aa hi;clear h1 h2 h3 h4 k1 k2 k3 k4 hr hi;go_enter Tryz.func13,Tryz.ntmps13
 go_wp2_with fail
 refine(HLI.out w HT.out).mono ?_;rintro en w1 ⟨rfl,b1⟩;have B1:=Aa b1;clear b1
 by_cases hb1:8<n1
 .have hb':(8:Int)<n1:=by omega
  go_wp2_with fail
  refine(HLI.out w1 (HT.out.below B1.out HT.out.size)).mono ?_;rintro en w2 ⟨rfl,b2⟩;have B2:=Aa (Ae B1.out b2);clear b2;go_wp2;go_ret;exact⟨rfl,B2.out⟩
 have hb1':¬(8:Int)<n1:=by omega
 by_cases hb2:8<n2
 .have hb':(8:Int)<n2:=by omega
  go_wp2_with fail
  refine(HLI.out w1 (HT.out.below B1.out HT.out.size)).mono ?_;rintro en w2 ⟨rfl,b2⟩;have B2:=Aa (Ae B1.out b2);clear b2;go_wp2;go_ret;exact⟨rfl,B2.out⟩
 have hb2':¬(8:Int)<n2:=by omega
 by_cases hb3:8<n3
 .have hb':(8:Int)<n3:=by omega
  go_wp2_with fail
  refine(HLI.out w1 (HT.out.below B1.out HT.out.size)).mono ?_;rintro en w2 ⟨rfl,b2⟩;have B2:=Aa (Ae B1.out b2);clear b2;go_wp2;go_ret;exact⟨rfl,B2.out⟩
 have hb3':¬(8:Int)<n3:=by omega
 by_cases hb4:8<n4
 .have hb':(8:Int)<n4:=by omega
  go_wp2_with fail
  refine(HLI.out w1 (HT.out.below B1.out HT.out.size)).mono ?_;rintro en w2 ⟨rfl,b2⟩;have B2:=Aa (Ae B1.out b2);clear b2;go_wp2;go_ret;exact⟨rfl,B2.out⟩
 have hb4':¬(8:Int)<n4:=by omega
 go_wp2_with fail
 refine(HGR.out w1 A (HT.out.below B1.out HT.out.size)).mono ?_;rintro en w2 ⟨b,rfl,hg2,b2⟩;rw[HI.out]at hg2
 obtain⟨P,hP⟩:∃q,gP i=q:=⟨_,rfl⟩
 obtain⟨q,hq⟩:∃q,gQ i=q:=⟨_,rfl⟩
 obtain⟨gg,hgg⟩:∃q,gG i=q:=⟨_,rfl⟩
 obtain⟨hh,hhh⟩:∃q,gH i=q:=⟨_,rfl⟩
 have HP2:Ac (2<=P):=⟨by have:=El i HI3.out;omega⟩
 have HGM:Ac (gg^q%P=1%P):=⟨by
  have h1:=Lx i HI3.out;rw[hq,hP,hgg]at h1
  rw[h1,Nat.mod_eq_of_lt (by have:=HP2.out;omega)]⟩
 have HHM:Ac (hh^q%P=1%P):=⟨by
  have h1:=Ow i HI3.out;rw[hq,hP,hhh]at h1
  rw[h1,Nat.mod_eq_of_lt (by have:=HP2.out;omega)]⟩
 rw[hP,hq,hgg,hhh]at hg2
 have HG2:=Aa hg2;have B2:=Aa (Ae B1.out b2);clear hg2 b2 hq hP hgg hhh
 go_wp2_with fail
 refine(Hk HG2.out).mono ?_;rintro en w3 ⟨r,rfl,hr3,b3⟩;have HR3:=Aa hr3;have HG3:=Aa (HG2.out.below b3);have B3:=Aa (Ae B2.out b3);clear hr3 b3
 go_wp2_with fail
 refine(Et w3 q1 n1 e1 xa (HRW1.out.below B3.out) H641.out (by omega)).mono ?_;rintro en w4 ⟨p1,c1,rfl,hp,b9⟩;have HR4:=Aa (HR3.out.below b9);have HG4:=Aa (HG3.out.below b9);have HL1_4:=Aa hp;have B4:=Aa (Ae B3.out b9);clear hp b9
 go_wp2_with fail
 refine(Et w4 q2 n2 e2 xb (HRW2.out.below B4.out) H642.out (by omega)).mono ?_;rintro en w5 ⟨p2,c2,rfl,hp,b9⟩;have HR5:=Aa (HR4.out.below b9);have HG5:=Aa (HG4.out.below b9);have HL1_5:=Aa (HL1_4.out.below b9);have HL2_5:=Aa hp;have B5:=Aa (Ae B4.out b9);clear hp b9
 go_wp2_with fail
 refine(Et w5 q3 n3 e3 xc (HRW3.out.below B5.out) H643.out (by omega)).mono ?_;rintro en w6 ⟨p3,c3,rfl,hp,b9⟩;have HR6:=Aa (HR5.out.below b9);have HG6:=Aa (HG5.out.below b9);have HL1_6:=Aa (HL1_5.out.below b9);have HL2_6:=Aa (HL2_5.out.below b9);have HL3_6:=Aa hp;have B6:=Aa (Ae B5.out b9);clear hp b9
 go_wp2_with fail
 refine(Et w6 q4 n4 e4 xd (HRW4.out.below B6.out) H644.out (by omega)).mono ?_;rintro en w7 ⟨p4,c4,rfl,hp,b9⟩;have HR7:=Aa (HR6.out.below b9);have HG7:=Aa (HG6.out.below b9);have HL1_7:=Aa (HL1_6.out.below b9);have HL2_7:=Aa (HL2_6.out.below b9);have HL3_7:=Aa (HL3_6.out.below b9);have HL4_7:=Aa hp;have B7:=Aa (Ae B6.out b9);clear hp b9
 go_wp2_with fail
 refine(Nh HG7.out HL1_7.out HL2_7.out (by decide) (by decide) (by omega) (by omega)).mono ?_;rintro en w8 ⟨rfl,hu,b9⟩;have HR8:=Aa (HR7.out.below b9);have HG8:=Aa (HG7.out.below b9);have HL1_8:=Aa (HL1_7.out.below b9);have HL2_8:=Aa (HL2_7.out.below b9);have HL3_8:=Aa (HL3_7.out.below b9);have HL4_8:=Aa (HL4_7.out.below b9);have B8:=Aa (Ae B7.out b9);obtain⟨gA,hgA⟩:∃g,w7.heap.size=g:=⟨_,rfl⟩
 obtain⟨mA,hmA⟩:∃g,max n1 n2=g:=⟨_,rfl⟩
 rw[hgA,hmA]at hu
 have HA_8:=Aa hu;rw[hgA,hmA];have hA8:mA<=8:=by omega
 clear hu b9 hgA hmA
 go_wp2_with fail
 refine(Nh HG8.out HL3_8.out HL4_8.out (by decide) (by decide) (by omega) (by omega)).mono ?_;rintro en w9 ⟨rfl,hu,b9⟩;have HR9:=Aa (HR8.out.below b9);have HG9:=Aa (HG8.out.below b9);have HL1_9:=Aa (HL1_8.out.below b9);have HL2_9:=Aa (HL2_8.out.below b9);have HL3_9:=Aa (HL3_8.out.below b9);have HL4_9:=Aa (HL4_8.out.below b9);have HA_9:=Aa (HA_8.out.below b9);have B9:=Aa (Ae B8.out b9);obtain⟨gB,hgB⟩:∃g,w8.heap.size=g:=⟨_,rfl⟩
 obtain⟨mB,hmB⟩:∃g,max n3 n4=g:=⟨_,rfl⟩
 rw[hgB,hmB]at hu
 have HB_9:=Aa hu;rw[hgB,hmB];have hB8:mB<=8:=by omega
 clear hu b9 hgB hmB;have hb10:Below w9.heap.size w9 (w9.alloc (.cells #[.slice (some ⟨gA,0,none⟩) mA mA,.slice (some ⟨gB,0,none⟩) mB mB] 32)):=Cy;have hx10:(w9.alloc (.cells #[.slice (some ⟨gA,0,none⟩) mA mA,.slice (some ⟨gB,0,none⟩) mB mB] 32)).heap[w9.heap.size]? = some (.cells #[.slice (some ⟨gA,0,none⟩) mA mA,.slice (some ⟨gB,0,none⟩) mB mB] 32 (0,0)):=heap_alloc_new w9 _;obtain⟨w10,hw10⟩:∃x,w9.alloc (.cells #[.slice (some ⟨gA,0,none⟩) mA mA,.slice (some ⟨gB,0,none⟩) mB mB] 32)=x:=⟨_,rfl⟩
 rw[hw10]at hb10 hx10
 have HR10:=Aa (HR9.out.below hb10);have HG10:=Aa (HG9.out.below hb10);have HL1_10:=Aa (HL1_9.out.below hb10);have HL2_10:=Aa (HL2_9.out.below hb10);have HL3_10:=Aa (HL3_9.out.below hb10);have HL4_10:=Aa (HL4_9.out.below hb10);have HA_10:=Aa (HA_9.out.below hb10);have HB_10:=Aa (HB_9.out.below hb10);have B10:=Aa (Ae B9.out hb10);obtain⟨XA,hXA⟩:∃l,Ch P q gg hh xa xb=l:=⟨_,rfl⟩
 obtain⟨XB,hXB⟩:∃l,Ch P q gg hh xc xd=l:=⟨_,rfl⟩
 obtain⟨NN,hNN⟩:∃l,Ch P q gg hh (Mv q xa xc) (Mv q xb xd)=l:=⟨_,rfl⟩
 have HNN:=Aa hNN;have HSUM:Ac (Ee P [XA,XB] []=NN):=⟨by rw[<-hXA,<-hXB,bE HP2.out HGM.out HHM.out,hNN]⟩
 have HROWS:Ac (mU w10 33 (some ⟨w9.heap.size,0,none⟩) 2 [XA,XB]):=⟨⟨rfl,fun _=>⟨w9.heap.size,0,rfl,(Jb hx10).1,fun i L hL=>by
  match i,hL with
  | 0,hL=>cases hL;exact⟨some ⟨gA,0,none⟩,mA,mA,by simp[World.cell?,hx10],by rw[<-hXA];exact HA_10.out⟩
  | 1,hL=>cases hL;exact⟨some ⟨gB,0,none⟩,mB,mB,by simp[World.cell?,hx10],by rw[<-hXB];exact HB_10.out⟩
  | i+2,hL=>simp at hL⟩⟩⟩
 have HLEN:Ac (∀L∈[XA,XB],L.length<=1000):=⟨fun L hL=>by
  simp only[List.mem_cons,List.not_mem_nil,or_false]at hL;rcases hL with rfl|rfl
  .have:=HA_10.out.len;rw[hXA]at this;omega
  .have:=HB_10.out.len;rw[hXB]at this;omega⟩
 clear hXA hXB hNN hb10 hx10
 go_wp2_with fail
 refine(dX HG10.out HROWS.out (by decide) (by decide) HLEN.out).mono ?_;rintro en w11 ⟨px,mx,cx,rfl,hmx,hu,b9⟩;have HR11:=Aa (HR10.out.below b9);have HG11:=Aa (HG10.out.below b9);have HL1_11:=Aa (HL1_10.out.below b9);have HL2_11:=Aa (HL2_10.out.below b9);have HL3_11:=Aa (HL3_10.out.below b9);have HL4_11:=Aa (HL4_10.out.below b9);have B11:=Aa (Ae B10.out b9);rw[HSUM.out]at hmx hu
 have HX_11:=Aa hu;have HMX:=Aa hmx;clear hu b9 hmx hw10
 go_wp2_with fail
 refine(Zk HR11.out HL1_11.out HL3_11.out (by decide) (by decide) (by omega) (by omega)).mono ?_;rintro en w12 ⟨rfl,hu,b9⟩;have HR12:=Aa (HR11.out.below b9);have HG12:=Aa (HG11.out.below b9);have HL1_12:=Aa (HL1_11.out.below b9);have HL2_12:=Aa (HL2_11.out.below b9);have HL3_12:=Aa (HL3_11.out.below b9);have HL4_12:=Aa (HL4_11.out.below b9);have HX_12:=Aa (HX_11.out.below b9);have B12:=Aa (Ae B11.out b9);obtain⟨gC,hgC⟩:∃g,w11.heap.size=g:=⟨_,rfl⟩
 obtain⟨mC,hmC⟩:∃g,max n1 n3=g:=⟨_,rfl⟩
 rw[hgC,hmC]at hu
 have HC_12:=Aa hu;rw[hgC,hmC];have hC8:mC<=8:=by omega
 clear hu b9 hgC hmC
 go_wp2_with fail
 refine(Zk HR12.out HL2_12.out HL4_12.out (by decide) (by decide) (by omega) (by omega)).mono ?_;rintro en w13 ⟨rfl,hu,b9⟩;have HR13:=Aa (HR12.out.below b9);have HG13:=Aa (HG12.out.below b9);have HL1_13:=Aa (HL1_12.out.below b9);have HL2_13:=Aa (HL2_12.out.below b9);have HL3_13:=Aa (HL3_12.out.below b9);have HL4_13:=Aa (HL4_12.out.below b9);have HX_13:=Aa (HX_12.out.below b9);have HC_13:=Aa (HC_12.out.below b9);have B13:=Aa (Ae B12.out b9);obtain⟨gD,hgD⟩:∃g,w12.heap.size=g:=⟨_,rfl⟩
 obtain⟨mD,hmD⟩:∃g,max n2 n4=g:=⟨_,rfl⟩
 rw[hgD,hmD]at hu
 have HD_13:=Aa hu;rw[hgD,hmD];have hD8:mD<=8:=by omega
 clear hu b9 hgD hmD
 go_wp2_with fail
 refine(Nh HG13.out HC_13.out HD_13.out (by decide) (by decide) (by omega) (by omega)).mono ?_;rintro en w14 ⟨rfl,hu,b9⟩;have HX_14:=Aa (HX_13.out.below b9);have B14:=Aa (Ae B13.out b9);obtain⟨gY,hgY⟩:∃g,w13.heap.size=g:=⟨_,rfl⟩
 obtain⟨mY,hmY⟩:∃g,max mC mD=g:=⟨_,rfl⟩
 rw[hgY,hmY]at hu
 rw[HNN.out]at hu
 have HY_14:=Aa hu;rw[hgY,hmY];have hml:mx=mY:=by rw[HMX.out,<-hu.len]
 subst hml;have hY8:mx<=8:=by omega
 clear hu b9 hgY hmY;clear hb1' hb2' hb3' hb4';have hcx:=HX_14.out.cap;have hcx2:=HX_14.out.max;go_wp2
 go_loopw [19,85] (fun _ iv wr=>∃k:Nat,k<=mx/\iv=.int .i64 k/\Ac (Below w14.heap.size w14 wr)) (fun _ iv _=>mx-(intOf iv).toNat)
 case atStart=>exact⟨0,by omega,rfl,⟨Bg _ _⟩⟩
 case round=>
  obtain⟨k,hk,rfl,HB⟩:=hrel
  by_cases hkn:k<mx
  .have hll:=HX_14.out.len;obtain⟨a,hak⟩:∃a,NN[k]? = some a:=⟨NN[k]'(by rw[<-hll];exact hkn),List.getElem?_eq_getElem _⟩
   obtain⟨bx,ox,rfl,hbx,hcx'⟩:=HX_14.out.at_ (by omega)
   obtain⟨u1,u2,u3,x1,x2,x3⟩:=hcx' k a hak;obtain⟨by_,oy,ey,hby,hcy'⟩:=HY_14.out.at_ (by omega)
   simp only[Option.some.injEq,Addr.mk.injEq,and_true]at ey;obtain⟨rfl,rfl⟩:=ey;obtain⟨t1,t2,t3,y1,y2,y3⟩:=hcy' k a hak;rw[Nat.zero_add]at y1
   have HCX:Ac (∀w',Below wr.heap.size wr w'->w'.cell? ⟨bx,ox+k,none⟩=some (.slice u1 u2 u3)):=⟨fun w' hb=>((Ae HB.out hb).cell (p:=⟨bx,ox+k,none⟩) hbx).trans x1⟩
   have HCY:Ac (∀w',Below wr.heap.size wr w'->w'.cell? ⟨gY,k,none⟩=some (.slice t1 t2 t3)):=⟨fun w' hb=>((Ae HB.out hb).cell (p:=⟨gY,k,none⟩) hby).trans y1⟩
   have HFX:=Aa ((Fit.of x2 x3).below HB.out);have HFY:=Aa ((Fit.of y2 y3).below HB.out);have hkn':(k:Int)<mx:=by omega
   have hnk:¬mx<=k:=by omega
   clear hll hak hbx hcx' x1 x2 hby hcy' y1 y2;go_wp2;refine Aj (by kernel_rfl) (by kernel_rfl)
    [some (.slice (some ⟨bx,ox,none⟩) mx cx),some (.int .i64 (k:Nat)),some (.pointer (some ⟨bx,ox+k,none⟩)),some (.agg #[.slice u1 u2 u3]),some (.slice (some ⟨gY,0,none⟩) mx mx),some (.int .i64 (k:Nat)),some (.pointer (some ⟨gY,k,none⟩)),some (.agg #[.slice t1 t2 t3]),none,some (.bool false)]
    [false,false,false,false,false,false,false,false,true,false] rfl
    (fun w1 w2=>Below w1.heap.size w1 w2)
    (fun _ w'=>Below wr.heap.size wr w')
    (fun i v w'=>match i with
     | 8=>v=.int .i64 0
     | _=>True)
    ?_ (Bg _ _).drew ?_ ?_
   .intro i v w1 w2 hf hb;split at hf
    .exact hf
    .trivial
   .simp only[Bh,Nat.reduceAdd];refine⟨?_,?_,?_,?_,?_,?_,?_,?_,?_,?_,trivial⟩
    all_goals intro D sp w' hD hW hdp hbx'
    case refine_3=>
     (with_reducible refine Ai (w1:=w') (v:=.pointer (some ⟨bx,ox+k,none⟩)) ?_ ?_ ?_)
     .simp[Region.wanted,yielded,Act.put,go_sem]
     .simp[execOp,Act.eval,Act.put,go_sem,hkn]
     .exact⟨rfl,rfl⟩
    case refine_4=>
     have c0:=HCX.out w' hbx'
     with_reducible refine Ad ?_ ?_
     all_goals simp[Region.wanted,yielded,execOp,Act.eval,Act.put,go_sem,c0]
    case refine_7=>
     (with_reducible refine Ai (w1:=w') (v:=.pointer (some ⟨gY,k,none⟩)) ?_ ?_ ?_)
     .simp[Region.wanted,yielded,Act.put,go_sem]
     .simp[execOp,Act.eval,Act.put,go_sem,hkn]
     .exact⟨rfl,rfl⟩
    case refine_8=>
     have c0:=HCY.out w' hbx'
     with_reducible refine Ad ?_ ?_
     all_goals simp[Region.wanted,yielded,execOp,Act.eval,Act.put,go_sem,c0]
    case refine_9=>
     (with_reducible refine Ab (w1:=w') (f := 34) (args:=#[.agg #[.slice u1 u2 u3],.agg #[.slice t1 t2 t3]]) ?_ ?_ ?_)
     .simp[Region.wanted,yielded,Act.put,go_sem]
     .simp[Act.eval,Act.put,go_sem]
     .refine(Bk (HFX.out.below hbx') (HFY.out.below hbx') (by decide) (by decide) (Bv.2 rfl)).mono ?_;rintro en w9 ⟨_,rfl,rfl,hb⟩;exact⟨_,rfl,hb,rfl,Ae hbx' hb⟩
    case refine_10=>
     have k8:(sp 8)=.int .i64 0:=(hdp 8 (mq (by kernel_rfl))).2
     with_reducible refine Ad ?_ ?_
     all_goals simp[Region.wanted,yielded,execOp,Act.eval,Act.put,go_sem,k8]
    all_goals ((with_reducible refine Ad ?_ ?_);all_goals first|(simp only[Region.wanted];done)|simp[Region.wanted,yielded,execOp,Act.eval,Act.put,go_sem])
   .intro sp w9 hsp hbx';have HB9:=Aa (Ae HB.out hbx');clear hsp hbx';simp only[Am,Nat.reduceAdd];generalize sp 8=y8 at *
    go_simp
    go_wp2;go_roundw
    case rel=>exact⟨k+1,by omega,by go_num,HB9⟩
    case measure=>simp[intOf];omega
  .obtain rfl:k=mx:=by omega
   have hkn':¬(k:Int)<k:=by omega
   have BF:=Aa (Ae B14.out HB.out);go_wp2;go_ret;exact⟨rfl,BF.out⟩
end Go.Proofs.YtnbmfaihlefgfaaGreatDoor
