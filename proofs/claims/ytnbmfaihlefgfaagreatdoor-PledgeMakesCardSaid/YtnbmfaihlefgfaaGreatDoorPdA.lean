/- The document's side of pledges: lists of numbers, one pledge, a value in the exponent; members (pledge.Members). -/
import Derived.Test.YtnbmfaihlefgfaaGreatDoorPlA
import Derived.Lib.SmallJoins
import Derived.Deep.LoopGhost
import Derived.Lib.AppendZeros
import Derived.Lib.Walk
import Derived.BigRegion
import Derived.Laws.Rows
import Derived.Laws.OwnMore
set_option maxRecDepth 1000000
set_option maxHeartbeats 16000000
set_option linter.all false
namespace Go.Proofs.YtnbmfaihlefgfaaGreatDoor
open Go Go.RowKit Go.Proofs.YtnbmfaihlefgfaaGreatDoor.Flow
theorem Rp (w:World)(hr:Tabs w) :
  Calls Tryz.prog 59 #[] w fun e w'=>e=.returned (.bool true)/\Below w.heap.size w w':=by
 have HGR:=Ac (La w 0 hr);clear hr;go_enter Tryz.func59,Tryz.ntmps59
 go_wp2_with fail
 refine HGR.out.mono ?_;rintro en w1 ⟨b,rfl,hg,b1⟩;have hi:((IntKind.u64.wrap 0)%3).toNat=0:=by decide
 rw[hi]at hg
 have hb:=Gr 0 (by decide);obtain⟨P,hP⟩:∃q,gP 0=q:=⟨_,rfl⟩
 obtain⟨Q,hq⟩:∃q,gQ 0=q:=⟨_,rfl⟩
 obtain⟨GG,hgg⟩:∃q,gG 0=q:=⟨_,rfl⟩
 obtain⟨HH,hhh⟩:∃q,gH 0=q:=⟨_,rfl⟩
 rw[hP,hq,hgg,hhh]at hg
 rw[hP,hq,hgg,hhh]at hb
 have HN0:=Ac (bQ (P:=P) (Q:=Q) (G:=GG) (H:=HH) (by omega));have HN1:=Ac (eU (P:=P) (Q:=Q) (G:=GG) (H:=HH) (by omega) (by omega));have HG:=Ac hg;have B1:=Ac b1;clear hg b1 hi hb hP hq hgg hhh HGR
 go_wp2_with fail
 refine(Qg HG.out (Un _) (Un _) (by decide) (by decide)).mono ?_;rintro en w2 ⟨x2,rfl,h2,b2⟩;rw[HN0.out]at h2
 have H2:=Ac h2;have G2:=Ac (HG.out.below b2);have B2:=Ac (Ae B1.out b2);clear h2 b2
 go_wp2_with fail
 refine(Di w2).mono ?_;rintro en w3 ⟨x3,rfl,h3,b3⟩;have H3:=Ac h3;have H2':=Ac (H2.out.below b3);have G3:=Ac (G2.out.below b3);have B3:=Ac (Ae B2.out b3);clear h3 b3
 go_wp2_with fail
 refine(Bp H2'.out H3.out (by decide) (by decide) (Cr.2 rfl)).mono ?_;rintro en w4 ⟨_,rfl,rfl,b4⟩;have G4:=Ac (G3.out.below b4);have B4:=Ac (Ae B3.out b4);clear b4
 go_wp2_with fail
 refine(Di w4).mono ?_;rintro en w5 ⟨x5,rfl,h5,b5⟩;have H5:=Ac h5;have G5:=Ac (G4.out.below b5);have B5:=Ac (Ae B4.out b5);clear h5 b5
 go_wp2_with fail
 refine(Qg G5.out H5.out (Un _) (by decide) (by decide)).mono ?_;rintro en w6 ⟨x6,rfl,h6,b6⟩;rw[HN1.out]at h6
 have H6:=Ac h6;have G6:=Ac (G5.out.below b6);have B6:=Ac (Ae B5.out b6);clear h6 b6
 go_wp2_with fail
 refine(Zm G6.out).mono ?_;rintro en w7 ⟨x7,rfl,h7,b7⟩;have H7:=Ac h7;have H6':=Ac (H6.out.below b7);have B7:=Ac (Ae B6.out b7);clear h7 b7
 go_wp2_with fail
 refine(Bp H6'.out H7.out (by decide) (by decide) (Cr.2 rfl)).mono ?_;rintro en w8 ⟨_,rfl,rfl,b8⟩;have B8:=Ac (Ae B7.out b8);clear b8;go_wp2;go_ret;exact⟨rfl,B8.out⟩
theorem fC {w:World}{p:Option Addr}{n c e N:Nat}(h1:Ah w p n c N)(h2:N<Am e)(he:e<=200) :
  Calls Tryz.prog 46 #[.agg #[.slice p n c]] w fun en w'=>∃q m d,en=.returned (.slice q m d)/\Ay w' q m d N/\Below w.heap.size w w'/\Dv w.heap.size q:=by
 have hbx:=Cu.mk1 w (.slice p n c) 36;have HF:=Ac ((Fit.of h1 h2).below hbx.bel);have HB:=Ac hbx.bel;have hl:Ab (Au N<=1000):=⟨by
  have:Aj N<=32*e:=(Ba N _).2 (by
   have:Am e=2^(32*e):=by unfold Am;rw[Nat.pow_mul]
   rw[<-this];exact h2)
  unfold Au;omega⟩
 clear h1 h2 hbx;go_enter Tryz.func46,Tryz.ntmps46
 go_wp2_with fail
 refine(Sw HF.out (by omega)).mono ?_;rintro en w1 ⟨_,rfl,⟨q,m,d,rfl,hr⟩,b1⟩;have HR:Ab (Bq w1 .u8 q m d (Dg N (Au N))):=⟨⟨hr.len,hr.cap,hr.max,fun _=>hr⟩⟩
 have HM:Ab (m<=1000):=⟨by rw[hr.len,Jy];exact hl.out⟩
 have HB1:=Ac (Ae HB.out b1);clear hr b1
 go_wp2_with fail
 refine(Wd w1 q m d _ HR.out (Lk N _).reverse HM.out).mono ?_;rintro en w2 ⟨x,y,z,rfl,hb,b2,hnw⟩;rw[Xu]at hb
 have HN:=Ac hb;have HB2:=Ac (Ae HB1.out b2);have HW:Ab (Dv w.heap.size x):=⟨fun q hq=>Fo HB1.out.size (hnw q hq)⟩
 clear hb b2 hnw;go_wp2;go_ret;exact⟨_,_,_,rfl,HN.out,HB2.out,HW.out⟩
theorem Ko (w:World)(t:TypeId)(u:Value):(w.alloc (.cells #[u] t)).cell? ⟨w.heap.size,0,none⟩=some u:=by
 have h:(w.alloc (.cells #[u] t)).heap[w.heap.size]? = some (.cells #[u] t (0,0)):=by
  show (w.heap.push _)[w.heap.size]? = _;simp
 generalize w.alloc (.cells #[u] t)=w2 at h;generalize w.heap.size=b at h;simp[World.cell?,h]
def iQ (w:World)(b:Nat)(u0 u1 u2 u3:Value):World:=(((w.setCell ⟨b,0,none⟩ u0).setCell ⟨b,1,none⟩ u1).setCell ⟨b,2,none⟩ u2).setCell ⟨b,3,none⟩ u3
structure lY (w:World) (b:Nat) (o:Obj) (w':World):Prop where
 new:w'.heap[b]? = some o
 old:∀g,g≠b->w'.heap[g]? = w.heap[g]?
 size:w'.heap.size=w.heap.size
 bel:∀B,B<=b->Below B w w'
theorem put4 {w:World}{b:Nat}{v0 v1 v2 v3 u0 u1 u2 u3:Value}{T:TypeId}(h:w.heap[b]? = some (.cells #[v0,v1,v2,v3] T (0,0))):lY w b (.cells #[u0,u1,u2,u3] T (0,0)) (iQ w b u0 u1 u2 u3) :=
 ⟨by simp[iQ,World.setCell,Array.getElem?_modify,h],fun g hg=>by simp[iQ,World.setCell,Array.getElem?_modify,hg.symm],by simp[iQ],fun B hB=>(((((Be _ _).setCell hB _).setCell hB _).setCell hB _).setCell hB _)⟩
def z4 (T:TypeId):Obj:=.cells #[.slice none 0 0,.slice none 0 0,.slice none 0 0,.slice none 0 0] T (0,0)
theorem Tv {w:World}{p:Option Addr}{n c e:Nat}{xs:List Nat}(h:Bd w e p n c xs)(he:e<=200)(hn:n<=1000) :
  Calls Tryz.prog 63 #[.slice p n c] w fun en w'=>∃q d,en=.returned (.slice q n d)/\Em w' q n d xs/\Below w.heap.size w w':=by
 have HX:=Ac h;have HLn:=Ac h.len;have hcap:n<=c:=h.cap;have hmax:c<=9223372036854775807:=h.max;clear h;go_enter Tryz.func63,Tryz.ntmps63;go_wp2
 go_loopw [3,5,8] (fun vv _ iv wr=>∃(k:Nat) (bad:Nat->Prop),k<=n/\iv=.int .i64 k/\Ab (Below w.heap.size w wr)/\Ab (∀g,bad g->g<wr.heap.size)/\Ab (Dy Ay 28 w.heap.size bad wr vv (xs.take k))/\Ab (∀g,vv.ownBlock=some g->bad g)) (fun _ _ iv _=>n-(intOf iv).toNat)
 case atStart=>exact⟨0,fun _=>False,by omega,rfl,⟨Be _ _⟩,⟨fun _ h=>h.elim⟩,⟨Dy.nil⟩,⟨fun g h=>by cases h⟩⟩
 case round=>
  obtain⟨k,bad,hk,rfl,HB,HLT,HO,HV⟩:=hrel
  by_cases hkn:k<n
  .obtain⟨S,hSk⟩:∃s,xs[k]? = some s:=⟨xs[k]'(by rw[<-HLn.out];exact hkn),List.getElem?_eq_getElem _⟩
   obtain⟨bb,off,rfl,hb,hc⟩:=HX.out.at_ (by omega)
   obtain⟨px,nx,cx,hc1,hc2,hc3⟩:=hc k S hSk;have hx:wr.cell? ⟨bb,off+k,none⟩=some (.slice px nx cx):=(HB.out.cell (p:=⟨bb,off+k,none⟩) hb).trans hc1;have HTk:Ab (xs.take (k+1)=xs.take k++[S]):=⟨Cp hSk⟩
   have HTl:Ab ((xs.take k).length<=1000000):=⟨by rw[List.length_take];omega⟩
   have HSU:Ab (S<Am e):=⟨hc3⟩
   have hkn':(k:Int)<n:=by omega
   have hb2:Below wr.heap.size wr (wr.alloc (.cells #[.slice px nx cx] 36)):=Co;have hx2:(wr.alloc (.cells #[.slice px nx cx] 36)).cell? ⟨wr.heap.size,0,none⟩=some (.slice px nx cx):=(Af.made wr (.slice px nx cx)).cell;have HNX:Ab (Ah (wr.alloc (.cells #[.slice px nx cx] 36)) px nx cx S):=⟨(hc2.below HB.out).below hb2⟩
   obtain⟨w2,hw2⟩:∃w2,wr.alloc (.cells #[.slice px nx cx] 36)=w2:=⟨_,rfl⟩
   rw[hw2]at hb2 hx2 HNX
   clear hc hSk hb hc1 hc2 hc3
   go_wp2_with fail
   refine(fC HNX.out HSU.out he).mono ?_;rintro en w3 ⟨q,m,d,rfl,hn3,b3,hnew⟩;have hb23:=Ae hb2 b3;have hnew2:Dv wr.heap.size q:=fun a ha=>Fo hb2.size (hnew a ha)
   have hb4:Below w3.heap.size w3 (w3.alloc (.cells #[.slice q m d] 28)):=Co;have hx4:(w3.alloc (.cells #[.slice q m d] 28)).cell? ⟨w3.heap.size,0,none⟩=some (.slice q m d):=Ko _ _ _;obtain⟨w4,hw4⟩:∃w4,w3.alloc (.cells #[.slice q m d] 28)=w4:=⟨_,rfl⟩
   rw[hw4]at hb4 hx4
   have hb34:=Ae hb23 hb4;have hB4:=Ae HB.out hb34;have hfirm:Ic (fun w=>Ay w q m d S) bad w4:=Lr.fresh (hn3.below hb4) hnew2 HLT.out;obtain⟨i1,hi1,hz1,hs1,hbb1⟩:=info_parts Tryz.info_N;refine(HO.out.below hb34).app2 (x:=(q,m,d)) Tryz.underlying47 hi1 hz1 hs1 hbb1 rfl (by decide) hB4.size hx4 hfirm HV.out (fun g hg=>Dj (HLT.out g hg) hb34.size) HTl.out 47 (c:=1) ?_;intro v9 w9 bad9 happ ho9 hg9 m1 m2 m3 m4;have HO9:=Ac ho9;have HB9:Ab (Below w.heap.size w w9):=⟨hB4.grown hg9 hB4.size fun g hg=>(HO.out.block g hg).1⟩
   have HLT9:=Ac m4;have HV9:=Ac m3;clear hb4 hx4 hb34 hb23 hB4 hfirm hi1 hz1 hs1 hbb1 ho9 hg9 m1 m2 m3 m4 b3 hn3 hnew hnew2 hb2 hx2
   go_wp2_with (at_builtin;refine Lib.wpList_append_run _ rfl _ _ _ _ rfl _ _ rfl rfl _ _ happ ?_;refine Lw.out ?_)
   refine⟨?_⟩;clear happ;go_wp2;go_roundw
   case rel=>exact⟨k+1,bad9,by omega,by go_num,HB9,HLT9,⟨by rw[HTk.out];exact HO9.out⟩,HV9⟩
   case measure=>simp[intOf];omega
  .obtain rfl:k=n:=by omega
   have hkn':¬(k:Int)<k:=by omega
   have htk:xs.take k=xs:=List.take_of_length_le (by rw[<-HLn.out];exact Av _);rw[htk]at HO
   obtain⟨q,d,rfl,hp⟩:=HO.out.nlist;have HP:Ab (Em wr q k d xs):=⟨by have e:=HLn.out;rw[<-e]at hp;exact hp⟩
   have e9:xs.length=k:=HLn.out.symm;rw[e9];clear htk hp e9;go_wp2;go_ret;exact⟨q,d,rfl,HP.out,HB.out⟩
structure Kv (n:Nat) (xs:List Nat) (v:Value) (w:World):Prop where
 ex:∃q d,v=.slice q n d/\Em w q n d xs
theorem Kv.below {n:Nat}{xs:List Nat}{v:Value}{w w':World}(h:Kv n xs v w)(hb:Below w.heap.size w w'):Kv n xs v w' :=
 let ⟨q,d,h1,h2⟩:=h.ex;⟨q,d,h1,h2.below hb⟩
theorem Gm {w:World}{p:Option Addr}{n c e:Nat}{xs:List Nat}(h:Bd w e p n c xs)(he:e<=200)(hn:n<=1000) :
  Calls Tryz.prog 63 #[.slice p n c] w fun en w'=>∃u,en=.returned u/\Kv n xs u w'/\Below w.heap.size w w' :=
 (Tv h he hn).mono fun _ _ ⟨q,d,h1,h2,h3⟩=>⟨_,h1,⟨q,d,rfl,h2⟩,h3⟩
theorem Xb {w:World}{v vs vr:Value}{P Q G H S R N:Nat}(h:Cz P Q G H v w)(hs:Aq S vs w)(hr:Aq R vr w)(lS:Aj S<=100000)(lR:Aj R<=100000)(lP:Aj P<=100000)(lG:Aj G<=100000)(lH:Aj H<=100000)(hP:0<P)(hN:G^S%P*(H^R%P)%P=N) :
  Calls Tryz.prog 71 #[v,vs,vr] w fun e w'=>∃x,e=.returned x/\Aq N x w'/\Below w.heap.size w w':=by
 obtain⟨p0,n0,c0,p1,n1,c1,p2,n2,c2,p3,n3,c3,rfl,h0,h1,h2,h3⟩:=h.ex;have hbx:Below w.heap.size w (w.alloc (.cells #[.slice p0 n0 c0,.slice p1 n1 c1,.slice p2 n2 c2,.slice p3 n3 c3] 30)):=Co;have hbo:=Cm.made 30 w (.slice p0 n0 c0) (.slice p1 n1 c1) (.slice p2 n2 c2) (.slice p3 n3 c3);obtain⟨wa,hwa⟩:∃wa,w.alloc (.cells #[.slice p0 n0 c0,.slice p1 n1 c1,.slice p2 n2 c2,.slice p3 n3 c3] 30)=wa:=⟨_,rfl⟩
 rw[hwa]at hbx hbo
 have HB:=Ac hbx;have HBX:=Ac hbo;have HV:Ab (Cz P Q G H (.agg #[.slice p0 n0 c0,.slice p1 n1 c1,.slice p2 n2 c2,.slice p3 n3 c3]) wa):=⟨⟨p0,n0,c0,p1,n1,c1,p2,n2,c2,p3,n3,c3,rfl,h0.below hbx,h1.below hbx,h2.below hbx,h3.below hbx⟩⟩
 obtain⟨qs,ms,ds,rfl,hs⟩:=hs;obtain⟨qr,mr,dr,rfl,hr⟩:=hr;have HS:=Ac (Aq.of (hs.below hbx));have HR:=Ac (Aq.of (hr.below hbx));have HGB:=Ac (Aq.of (h2.below hbx));have HHB:=Ac (Aq.of (h3.below hbx));obtain⟨NS,hNS⟩:∃Z,G^S%P=Z:=⟨_,rfl⟩
 obtain⟨NR,hNR⟩:∃Z,H^R%P=Z:=⟨_,rfl⟩
 obtain⟨NN,hNN⟩:∃Z,N=Z:=⟨_,rfl⟩
 rw[hNS,hNR,hNN]at hN
 rw[hNN];have HNS:=Ac hNS;have HNR:=Ac hNR;have HNN:=Ac hN;have HSl:=Ac lS;have HRl:=Ac lR;have HPl:=Ac lP;have HGl:=Ac lG;have HHl:=Ac lH;have HP0:=Ac hP;have HNSl:Ab (Aj NS<=100000):=⟨Fo (El (by rw[<-hNS];exact Nat.le_of_lt (Nat.mod_lt _ hP))) lP⟩
 have HNRl:Ab (Aj NR<=100000):=⟨Fo (El (by rw[<-hNR];exact Nat.le_of_lt (Nat.mod_lt _ hP))) lP⟩
 clear h h0 h1 h2 h3 hbx hbo hs hr hNS hNR hN hNN lS lR lP lG lH hP;go_enter Tryz.func71,Tryz.ntmps71;go_wp2;refine Ak (by kernel_rfl) (by kernel_rfl)
  [some (.agg #[.slice p0 n0 c0,.slice p1 n1 c1,.slice p2 n2 c2,.slice p3 n3 c3]),some (.agg #[.slice p0 n0 c0,.slice p1 n1 c1,.slice p2 n2 c2,.slice p3 n3 c3]),some (.pointer (some ⟨w.heap.size,2,none⟩)),some (.slice p2 n2 c2),some (.slice qs ms ds),none,some (.agg #[.slice p0 n0 c0,.slice p1 n1 c1,.slice p2 n2 c2,.slice p3 n3 c3]),some (.pointer (some ⟨w.heap.size,3,none⟩)),some (.slice p3 n3 c3),some (.slice qr mr dr),none,none,none]
  [false,false,false,false,false,true,false,false,false,false,true,true,true] rfl
  (fun w1 w2=>Below w1.heap.size w1 w2)
  (fun _ w'=>Below wa.heap.size wa w')
  (fun i v w'=>match i with
   | 5=>Aq NS v w'
   | 10=>Aq NR v w'
   | 11=>Aq NN v w'
   | 12=>Aq NN v w'
   | _=>True)
  ?_ (Be _ _).drew ?_ ?_
 .intro i v w1 w2 hf hb;split at hf
  .exact hf.below hb
  .exact hf.below hb
  .exact hf.below hb
  .exact hf.below hb
  .trivial
 .simp only[Bh,Nat.reduceAdd];refine⟨?_,?_,?_,?_,?_,?_,?_,?_,?_,?_,?_,?_,?_,trivial⟩
  all_goals intro D sp w' hD hW hdp hbx'
  case refine_1|refine_2|refine_7=>
   have hB4:=HBX.out.below hbx' HBX.out.lt;have g0:=hB4.cells.1;have g1:=hB4.cells.2.1;have g2:=hB4.cells.2.2.1;have g3:=hB4.cells.2.2.2
   with_reducible refine Ag ?_ ?_
   all_goals simp[Region.wanted,yielded,execOp,Act.eval,Act.put,go_sem,g0,g1,g2,g3]
  case refine_4=>
   have hB4:=HBX.out.below hbx' HBX.out.lt;have g2:=hB4.cells.2.2.1
   with_reducible refine Ag ?_ ?_
   all_goals simp[Region.wanted,yielded,execOp,Act.eval,Act.put,go_sem,g2]
  case refine_6=>
   (with_reducible refine Aa (w1:=w') (f := 72) (args:=#[.agg #[.slice p0 n0 c0,.slice p1 n1 c1,.slice p2 n2 c2,.slice p3 n3 c3],.slice p2 n2 c2,.slice qs ms ds]) ?_ ?_ ?_)
   .simp[Region.wanted,yielded,Act.put,go_sem]
   .simp[Act.eval,Act.put,go_sem]
   .refine(Js (HV.out.below hbx') (HGB.out.below hbx') (HS.out.below hbx') HGl.out HSl.out HPl.out HP0.out).mono ?_;rintro en w9 ⟨u,rfl,hu,hb⟩;rw[HNS.out]at hu
    exact⟨u,rfl,hb,hu,Ae hbx' hb⟩
  case refine_9=>
   have hB4:=HBX.out.below hbx' HBX.out.lt;have g3:=hB4.cells.2.2.2
   with_reducible refine Ag ?_ ?_
   all_goals simp[Region.wanted,yielded,execOp,Act.eval,Act.put,go_sem,g3]
  case refine_11=>
   (with_reducible refine Aa (w1:=w') (f := 72) (args:=#[.agg #[.slice p0 n0 c0,.slice p1 n1 c1,.slice p2 n2 c2,.slice p3 n3 c3],.slice p3 n3 c3,.slice qr mr dr]) ?_ ?_ ?_)
   .simp[Region.wanted,yielded,Act.put,go_sem]
   .simp[Act.eval,Act.put,go_sem]
   .refine(Js (HV.out.below hbx') (HHB.out.below hbx') (HR.out.below hbx') HHl.out HRl.out HPl.out HP0.out).mono ?_;rintro en w9 ⟨u,rfl,hu,hb⟩;rw[HNR.out]at hu
    exact⟨u,rfl,hb,hu,Ae hbx' hb⟩
  case refine_12=>
   have k5:Aq NS (sp 5) w':=(hdp 5 (mq (by kernel_rfl))).2;have k10:Aq NR (sp 10) w':=(hdp 10 (mq (by kernel_rfl))).2
   (with_reducible refine Aa (w1:=w') (f := 100) (args:=#[.agg #[.slice p0 n0 c0,.slice p1 n1 c1,.slice p2 n2 c2,.slice p3 n3 c3],sp 5,sp 10]) ?_ ?_ ?_)
   .simp[Region.wanted,yielded,Act.put,go_sem]
   .simp[Act.eval,Act.put,go_sem]
   .refine(Ox (HV.out.below hbx') k5 k10 HNSl.out HNRl.out HPl.out HP0.out).mono ?_;rintro en w9 ⟨u,rfl,hu,hb⟩;rw[HNN.out]at hu
    exact⟨u,rfl,hb,hu,Ae hbx' hb⟩
  case refine_13=>
   have k11:Aq NN (sp 11) w':=(hdp 11 (mq (by kernel_rfl))).2
   (with_reducible refine Ai (w1:=w') (v:=sp 11) ?_ ?_ ?_)
   .simp[Region.wanted,yielded,Act.put,go_sem]
   .simp[execOp,Act.eval,Act.put,go_sem]
   .exact⟨Be _ _,k11,hbx'⟩
  all_goals ((with_reducible refine Ag ?_ ?_);all_goals first|(simp only[Region.wanted];done)|simp[Region.wanted,yielded,execOp,Act.eval,Act.put,go_sem])
 .intro sp w4 hsp hb;obtain⟨qc,mc,dc,ec,hc⟩:Aq NN (sp 12) w4:=hsp 12 rfl;have HC:=Ac (Aq.of hc);have HB4:=Ac (Ae HB.out hb);clear hsp hc hb;simp only[An,Nat.reduceAdd];rw[ec];clear ec;generalize sp 5=y5,sp 10=y10,sp 11=y11 at *
  go_simp
  go_wp2;go_ret;exact⟨_,rfl,HC.out,HB4.out⟩
end Go.Proofs.YtnbmfaihlefgfaaGreatDoor
