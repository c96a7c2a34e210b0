/- PledgeOpens, walked. -/
import Derived.Test.YtnbmfaihlefgfaaGreatDoorPlC
set_option maxRecDepth 1000000
set_option maxHeartbeats 16000000
set_option linter.all false
namespace Go.Proofs.YtnbmfaihlefgfaaGreatDoor
open Go Go.RowKit Go.Proofs.YtnbmfaihlefgfaaGreatDoor.Flow
theorem Rl {w:World}{b P Q GG HH es er ex n S R X NL NE:Nat}{Cs:List Nat}{u vx vs vr:Value}{ANS:Bool}(hg:Bb w b P Q GG HH)(hC:cK n Cs u w)(hx:Fit ex X vx w)(hs:Fit es S vs w)(hr:Fit er R vr w)(hex:ex<=200)(hes:es<=200)(her:er<=200)(hn:n<=1000000)(hNL:Cx P Q GG HH S R=NL)(hNE:Gm P (X%Q) Cs=NE)(hA:decide (NL=NE)=ANS) :
  Calls Tryz.prog 73 #[.pointer (some ⟨b,0,none⟩),u,vx,vs,vr] w fun en w'=>∃x,en=.returned x/\x=.bool ANS/\Below w.heap.size w w':=by
 obtain⟨g,rfl,h⟩:=hC;exact Op hg h hx hs hr (by decide) hex hes her hn hNL hNE hA
theorem Ul {w:World}{b P Q GG HH es ex n S X NL NE:Nat}{Cs:List Nat}{u vx vs:Value}{ANS:Bool}(hg:Bb w b P Q GG HH)(hC:cK n Cs u w)(hx:Fit ex X vx w)(hs:Fit es S vs w)(hex:ex<=200)(hes:es<=200)(hn:n<=1000000)(hNL:Cx P Q GG HH S 0=NL)(hNE:Gm P (X%Q) Cs=NE)(hA:decide (NL=NE)=ANS) :
  Calls Tryz.prog 74 #[.pointer (some ⟨b,0,none⟩),u,vx,vs] w fun en w'=>∃x,en=.returned x/\x=.bool ANS/\Below w.heap.size w w':=by
 obtain⟨g,rfl,h⟩:=hC;exact Yt hg h hx hs (by decide) hex hes hn hNL hNE hA
theorem lD (w:World)(hr:Tabs w)(A:Int)(p:Option Addr)(n c:Nat)(xs:List Nat)(h:Bq w .u64 p n c xs)(h64:∀x∈xs,Zx x)(pl:Option Addr)(nl cl:Nat)(ls:List Nat)(hl:Bq w .u64 pl nl cl ls)(hl64:∀x∈ls,Zx x)(X:Nat)(hX:Zx X)(BY:Nat)(hBY:Zx BY) :
  Calls Tryz.prog 12 #[.int .i64 A,.slice p n c,.slice pl nl cl,.int .u64 (X:Nat),.int .u64 (BY:Nat)] w fun e w'=>e=.returned (.bool true)/\Below w.heap.size w w':=by
 have HLI:=Aa Ih;have HGR:=Aa Gc;have HT:=Aa hr;have HROW:=Aa h;have H64:=Aa h64;have HROL:=Aa hl;have HL64:=Aa hl64;have HX:Ac (X<18446744073709551616):=⟨hX⟩
 have HBYl:Ac (BY<18446744073709551616):=⟨hBY⟩
 have HLN:=Aa h.len;have HLL:=Aa hl.len;have hnc:=h.cap;have hcm:=h.max;have hnc2:=hl.cap;have hcm2:=hl.max;obtain⟨i,hi⟩:∃i,((IntKind.u64.wrap A)%3).toNat=i:=⟨_,rfl⟩
 have HI3:Ac (i<3):=⟨by rw[<-hi];exact Vu A⟩
 have HI:=Aa hi;clear h h64 hl hl64 hr hX hBY hi;go_enter Tryz.func12,Tryz.ntmps12
 go_wp2_with fail
 refine(HLI.out w HT.out).mono ?_;rintro en w1 ⟨rfl,b1⟩;have B1:=Aa b1;clear b1
 by_cases hn8:8<n
 .have hn8':(8:Int)<n:=by omega
  go_wp2_with fail
  refine(HLI.out w1 (HT.out.below B1.out HT.out.size)).mono ?_;rintro en w2 ⟨rfl,b2⟩;have B2:=Aa (Ae B1.out b2);clear b2;go_wp2;go_ret;exact⟨rfl,B2.out⟩
 have hn8':¬(8:Int)<n:=by omega
 by_cases hm8:8<nl
 .have hm8':(8:Int)<nl:=by omega
  go_wp2_with fail
  refine(HLI.out w1 (HT.out.below B1.out HT.out.size)).mono ?_;rintro en w2 ⟨rfl,b2⟩;have B2:=Aa (Ae B1.out b2);clear b2;go_wp2;go_ret;exact⟨rfl,B2.out⟩
 have hm8':¬(8:Int)<nl:=by omega
 go_wp2_with fail
 refine(HGR.out w1 A (HT.out.below B1.out HT.out.size)).mono ?_;rintro en w2 ⟨b,rfl,hg2,b2⟩;rw[HI.out]at hg2
 obtain⟨P,hP⟩:∃q,gP i=q:=⟨_,rfl⟩
 obtain⟨q,hq⟩:∃q,gQ i=q:=⟨_,rfl⟩
 obtain⟨gg,hgg⟩:∃q,gG i=q:=⟨_,rfl⟩
 obtain⟨hh,hhh⟩:∃q,gH i=q:=⟨_,rfl⟩
 have HPQ:Ac (Ce q):=⟨by rw[<-hq];exact Yq i HI3.out⟩
 have HP2:Ac (2<=P):=⟨by have:=El i HI3.out;omega⟩
 have HGM:Ac (gg^q%P=1%P):=⟨by
  have h1:=Lx i HI3.out;rw[hq,hP,hgg]at h1
  rw[h1,Nat.mod_eq_of_lt (by have:=HP2.out;omega)]⟩
 have HHM:Ac (hh^q%P=1%P):=⟨by
  have h1:=Ow i HI3.out;rw[hq,hP,hhh]at h1
  rw[h1,Nat.mod_eq_of_lt (by have:=HP2.out;omega)]⟩
 have HG1:Ac (gg%P≠1%P):=⟨by
  have h1:=El i HI3.out;rw[hq,hP,hgg,hhh]at h1
  rw[Nat.mod_eq_of_lt h1.2.2.1,Nat.mod_eq_of_lt (by omega)];omega⟩
 rw[hP,hq,hgg,hhh]at hg2
 have HG2:=Aa hg2;have B2:=Aa (Ae B1.out b2);clear hg2 b2 hq hP hgg hhh
 go_wp2_with fail
 refine(Hk HG2.out).mono ?_;rintro en w3 ⟨r,rfl,hr3,b3⟩;have HR3:=Aa hr3;have HG3:=Aa (HG2.out.below b3);have B3:=Aa (Ae B2.out b3);clear hr3 b3
 go_wp2_with fail
 refine(Et w3 p n c xs (HROW.out.below B3.out) H64.out (by omega)).mono ?_;rintro en w4 ⟨p4,c4,rfl,hp4,b4⟩;have HP4:=Aa hp4;have HR4:=Aa (HR3.out.below b4);have HG4:=Aa (HG3.out.below b4);have B4:=Aa (Ae B3.out b4);clear hp4 b4
 go_wp2_with fail
 refine(Et w4 pl nl cl ls (HROL.out.below B4.out) HL64.out (by omega)).mono ?_;rintro en w5 ⟨p5,c5,rfl,hp5,b5⟩;have HPL5:=Aa hp5;have HPX5:=Aa (HP4.out.below b5);have HR5:=Aa (HR4.out.below b5);have HG5:=Aa (HG4.out.below b5);have B5:=Aa (Ae B4.out b5);clear hp5 b5
 go_wp2_with fail
 refine(Cd (n:=X) w5 HX.out).mono ?_;rintro en w6 ⟨_,rfl,⟨py,ny,cy,rfl,y1,y2⟩,b6⟩;have hbY:Below w6.heap.size w6 (w6.alloc (.cells #[.slice py ny cy] 36)):=Cy;have hxY:=Af.made w6 (.slice py ny cy);obtain⟨wY,hwY⟩:∃x,w6.alloc (.cells #[.slice py ny cy] 36)=x:=⟨_,rfl⟩
 rw[hwY]at hbY hxY
 obtain⟨bY,hbYe⟩:∃x,w6.heap.size=x:=⟨_,rfl⟩
 rw[hbYe]at hxY
 have HBY0:=Aa hxY;have HFY0:=Aa ((Fit.of y1 y2).below hbY);have hb5Y:=Ae b6 hbY;have HPL:=Aa (HPL5.out.below hb5Y);have HPX:=Aa (HPX5.out.below hb5Y);have HRY:=Aa (HR5.out.below hb5Y);have HGY:=Aa (HG5.out.below hb5Y);have BY_:=Aa (Ae B5.out hb5Y);clear y1 y2 b6 hbY hxY hb5Y;go_wp2;clear hwY hbYe;obtain⟨EA,hEA⟩:∃V,Gl q X xs=V:=⟨_,rfl⟩
 obtain⟨EB,hEB⟩:∃V,Gl q X ls=V:=⟨_,rfl⟩
 obtain⟨OT,hOT⟩:∃V,(EA+BY)%q=V:=⟨_,rfl⟩
 obtain⟨DD,hDD⟩:∃V,decide (OT=EA)=V:=⟨_,rfl⟩
 have HEA:=Aa hEA;have HEB:=Aa hEB;have HOT:=Aa hOT;have hq2:=HPQ.out.1;have hEAl:EA<q:=by rw[<-hEA];exact(dB (x:=X) hq2 xs).lt
 have hOTl:OT<q:=by rw[<-hOT];exact Nat.mod_lt _ (by omega)
 obtain⟨NA,hNA⟩:∃V,Cx P q gg hh EA EB=V:=⟨_,rfl⟩
 obtain⟨NB,hNB⟩:∃V,Cx P q gg hh EA 0=V:=⟨_,rfl⟩
 obtain⟨NC,hNC⟩:∃V,Cx P q gg hh OT EB=V:=⟨_,rfl⟩
 obtain⟨ND,hND⟩:∃V,Cx P q gg hh OT 0=V:=⟨_,rfl⟩
 have HNA:=Aa hNA;have HNB:=Aa hNB;have HNC:=Aa hNC;have HND:=Aa hND;have HEX:Ac (Gm P (X%q) (Ch P q gg hh xs ls)=NA):=⟨by rw[Tx HP2.out hq2 HGM.out HHM.out,hEA,hEB,hNA]⟩
 have HEY:Ac (Gm P (X%q) (Ch P q gg hh xs [])=NB):=⟨by rw[Tx HP2.out hq2 HGM.out HHM.out,hEA,<-hNB];rfl⟩
 have HTC:Ac (decide (NC=NA)=DD):=⟨by
  rw[<-hDD,<-hNC,<-hNA,Bool.eq_iff_iff,decide_eq_true_eq,decide_eq_true_eq];exact Xv HPQ.out HP2.out HGM.out HHM.out HG1.out hOTl hEAl⟩
 have HTD:Ac (decide (ND=NB)=DD):=⟨by
  rw[<-hDD,<-hND,<-hNB,Bool.eq_iff_iff,decide_eq_true_eq,decide_eq_true_eq];exact Xv HPQ.out HP2.out HGM.out HHM.out HG1.out hOTl hEAl⟩
 obtain⟨KC,hKC⟩:∃K,Bm OT EA=K:=⟨_,rfl⟩
 have HKC:=Aa hKC;have HKE:Ac (((KC:Int)==0)=DD):=⟨by
  rw[<-hDD,<-hKC,Bool.eq_iff_iff,beq_iff_eq,decide_eq_true_eq];exact Bv⟩
 clear hEA hEB hOT hDD hq2 hEAl hOTl hNA hNB hNC hND hKC;refine Ak (by kernel_rfl) (by kernel_rfl)
  [some (.pointer (some ⟨r,0,none⟩)),some (.slice p4 n c4),some (.agg #[.slice py ny cy]),none,some (.pointer (some ⟨r,0,none⟩)),some (.slice p5 nl c5),some (.agg #[.slice py ny cy]),none,none,none,none,none]
  [false,false,false,true,false,false,false,true,true,true,true,true] rfl
  (fun _ _=>True) (fun D sp w'=>TB wY EA EB (D 3) (D 7) (D 8) (D 9) (D 10) (D 11) (sp 3) (sp 7) (sp 8) (sp 9) w') (fun _ _ _=>True) (fun _ _ _ _ _ _=>trivial)
  TB.start ?_ ?_
 .simp only[Bf,Nat.reduceAdd];refine⟨?_,?_,?_,?_,?_,?_,?_,?_,?_,?_,?_,?_,trivial⟩
  case refine_4=>
   intro D sp w' hD hW hdp hg;rw[hD]at hg
   (with_reducible refine Ab (w1:=w') (f := 33) (args:=#[.pointer (some ⟨r,0,none⟩),.slice p4 n c4,.agg #[.slice py ny cy]]) ?_ ?_ ?_)
   .simp only[Region.wanted]
   .simp[Act.eval,Act.put,go_sem]
   .refine(Um (HRY.out.below hg.bel) (HPX.out.below hg.bel) (HFY0.out.below hg.bel) (by decide) (by decide) (by omega) HEA.out).mono ?_;rintro en w9 ⟨u,rfl,hu,hb⟩;exact⟨u,rfl,trivial,trivial,by simpa [upd]using(hg.later hb).put3 hu⟩
  case refine_8=>
   intro D sp w' hD hW hdp hg;rw[hD]at hg
   (with_reducible refine Ab (w1:=w') (f := 33) (args:=#[.pointer (some ⟨r,0,none⟩),.slice p5 nl c5,.agg #[.slice py ny cy]]) ?_ ?_ ?_)
   .simp only[Region.wanted]
   .simp[Act.eval,Act.put,go_sem]
   .refine(Um (HRY.out.below hg.bel) (HPL.out.below hg.bel) (HFY0.out.below hg.bel) (by decide) (by decide) (by omega) HEB.out).mono ?_;rintro en w9 ⟨u,rfl,hu,hb⟩;exact⟨u,rfl,trivial,trivial,by simpa [upd]using(hg.later hb).put7 hu⟩
  case refine_9=>
   intro D sp w' hD hW hdp hg;rw[hD]at hg
   have d0:=hg.no10;rw[d0]at hg
   (with_reducible refine Ai (w1:=w'.alloc (.cells #[.slice none 0 0] 36)) (v:=.pointer (some ⟨w'.heap.size,0,none⟩)) ?_ ?_ ?_)
   .simp only[Region.wanted]
   .simp[execOp,go_sem]
   .exact⟨trivial,trivial,by simpa [upd,d0]using hg.put8⟩
  case refine_10=>
   intro D sp w' hD hW hdp hg;rw[hD]at hg
   have d0:=hg.no11;rw[d0]at hg
   (with_reducible refine Ai (w1:=w'.alloc (.cells #[.slice none 0 0] 36)) (v:=.pointer (some ⟨w'.heap.size,0,none⟩)) ?_ ?_ ?_)
   .simp only[Region.wanted]
   .simp[execOp,go_sem]
   .exact⟨trivial,trivial,by simpa [upd,d0]using hg.put9⟩
  case refine_11=>
   intro D sp w' hD hW hdp hg;have d3:D 3=true:=(hdp 3 (mq (by kernel_rfl))).1;have d8:D 8=true:=(hdp 8 (mq (by kernel_rfl))).1;rw[hD,d3,d8]at hg
   (with_reducible refine Az (hg.put10) fun b g0=>Az (g0) fun m g1=>Az (g1) fun d g2=>Az (g2) fun q g3=>Az (g3) fun p g4=>Az (g4) fun n9 g5=>Az (g5) fun c9 g6=>?_)
   have e8:=g6.1;have e3:=g6.2.1;have h6:=g6.2.2.1.cell;have h7:=g6.2.2.1.free
   (with_reducible refine Ar (w1:=w'.setCell ⟨b,0,none⟩ (.slice p n9 c9)) ?_ ?_ ?_)
   .simp only[Region.wanted]
   .simp[execOp,Act.eval,Act.put,go_sem,e8,e3,h6,h7]
   .exact⟨trivial,trivial,by simpa [upd,d3,d8]using g6.2.2.2⟩
  case refine_12=>
   intro D sp w' hD hW hdp hg;have d3:D 7=true:=(hdp 7 (mq (by kernel_rfl))).1;have d8:D 9=true:=(hdp 9 (mq (by kernel_rfl))).1;rw[hD,d3,d8]at hg
   (with_reducible refine Az (hg.put11) fun b g0=>Az (g0) fun m g1=>Az (g1) fun d g2=>Az (g2) fun q g3=>Az (g3) fun p g4=>Az (g4) fun n9 g5=>Az (g5) fun c9 g6=>?_)
   have e8:=g6.1;have e3:=g6.2.1;have h6:=g6.2.2.1.cell;have h7:=g6.2.2.1.free
   (with_reducible refine Ar (w1:=w'.setCell ⟨b,0,none⟩ (.slice p n9 c9)) ?_ ?_ ?_)
   .simp only[Region.wanted]
   .simp[execOp,Act.eval,Act.put,go_sem,e8,e3,h6,h7]
   .exact⟨trivial,trivial,by simpa [upd,d3,d8]using g6.2.2.2⟩
  all_goals
   intro D sp w' hD hW hdp hg;have c0:=(HBY0.out.below hg.bel HBY0.out.lt).cell;simp[asked,Region.wanted,Oper.gives,execOp,Act.eval,Act.put,go_sem,c0]
 .intro sp w9 hsp hg;obtain⟨bA,e17,_,⟨pa,na,ca,hA1,hA2⟩,_⟩:=hg.b8 rfl;obtain⟨bB,e18,_,⟨pb,nb,cb,hB1,hB2⟩,_⟩:=hg.b9 rfl;obtain⟨_,_,_,_,_,lA⟩:=hg.p3 rfl;obtain⟨_,_,_,_,_,lB⟩:=hg.p7 rfl;have HBA9:=Aa hA1;have HBB9:=Aa hB1;have HFA9:=Aa (Fit.of (hA2 rfl) lA);have HFB9:=Aa (Fit.of (hB2 rfl) lB);have HBY9:=Aa (HBY0.out.below hg.bel HBY0.out.lt);have HFY9:=Aa (HFY0.out.below hg.bel);have HR9:=Aa (HRY.out.below hg.bel);have HG9:=Aa (HGY.out.below hg.bel);have HP9:=Aa (HPX.out.below hg.bel);have HQ9:=Aa (HPL.out.below hg.bel);have B9:=Aa (Ae BY_.out hg.bel);clear HBY0 HFY0 HRY HGY HPX HPL BY_ hA1 hA2 hB1 hB2 lA lB hsp hg;simp only[Am,Nat.reduceAdd];generalize sp 3=z3,sp 7=z7,sp 8=z8,sp 9=z9 at *;subst e17 e18
  go_simp
  go_wp2;refine Ak (by kernel_rfl) (by kernel_rfl)
   [some (.pointer (some ⟨r,0,none⟩)),some (.agg #[.slice pa na ca]),some (.int .u64 (BY:Nat)),none,none,none,none]
   [false,false,false,true,true,true,true] rfl
   (fun wA wB=>An (w9.heap.size) wA wB)
   (fun D sp w'=>RG (w9.heap.size) w9 [] w'/\Wt (D 5) (D 6) (sp 5) (w9.heap.size) (OT) w')
   (fun i v w'=>match i with
    | 3=>Fit 2 (BY) v w'
    | 4=>Fit 33 (OT) v w'
    | _=>True)
   ?_ ⟨RG.start (Av _) (fun x hx=>by cases hx),Wt.start (Av _)⟩ ?_ ?_
  .intro i v wA wB hf hb;split at hf
   .exact hf.keep hb
   .exact hf.keep hb
   .trivial
  .simp only[Bf,Nat.reduceAdd];refine⟨?_,?_,?_,?_,?_,?_,?_,trivial⟩
   all_goals intro D sp w' hD hW hdp hg
   case refine_2=>
    have c0:=(HBA9.out.below hg.1.keep.bel HBA9.out.lt).cell
    with_reducible refine Ad ?_ ?_
    all_goals simp[Region.wanted,yielded,execOp,Act.eval,Act.put,go_sem,c0]
   case refine_4=>
    (with_reducible refine Ab (w1:=w') (f := 21) (args:=#[.int .u64 (BY:Nat)]) ?_ ?_ ?_)
    .simp[Region.wanted,yielded,Act.put,go_sem]
    .simp[Act.eval,Act.put,go_sem]
    .refine(Cd (n:=BY) w' HBYl.out).mono ?_;rintro en w9 ⟨u,rfl,hu,hb⟩;exact⟨u,rfl,An.of hb hg.1.base,hu,hg.1.later hb,by simpa [upd]using hg.2.later hb⟩
   case refine_5=>
    have k3:Fit 2 (BY) (sp 3) w':=(hdp 3 (mq (by kernel_rfl))).2
    (with_reducible refine Ab (w1:=w') (f := 47) (args:=#[.pointer (some ⟨r,0,none⟩),.agg #[.slice pa na ca],sp 3]) ?_ ?_ ?_)
    .simp[Region.wanted,yielded,Act.put,go_sem]
    .simp[Act.eval,Act.put,go_sem]
    .refine(Jk (HR9.out.below hg.1.keep.bel) (HFA9.out.below hg.1.keep.bel) k3 (by decide) (by decide)).mono ?_;rintro en w9 ⟨u,rfl,hu,hb⟩;rw[HOT.out]at hu
     exact⟨u,rfl,An.of hb hg.1.base,hu,hg.1.later hb,by simpa [upd]using hg.2.later hb⟩
   case refine_6=>
    have h9:D 6=false:=hW 6 (mq (by kernel_rfl));rw[hD,h9]at hg
    (with_reducible refine Ai (w1:=w'.alloc (.cells #[.slice none 0 0] 36)) (v:=.pointer (some ⟨w'.heap.size,0,none⟩)) ?_ ?_ ?_)
    .simp[Region.wanted,yielded,Act.put,go_sem]
    .simp[execOp,go_sem]
    .have hb:Below w'.heap.size w' (w'.alloc (.cells #[.slice none 0 0] 36)):=Cy;refine⟨An.of hb hg.1.base,trivial,hg.1.later hb,?_⟩;have h8:=hg.2.made;simpa [upd,h9]using h8
   case refine_7=>
    have hx:∃p n c,sp 4=.agg #[.slice p n c]/\Ah w' p n c (OT)/\OT<Ao (33):=(hdp 4 (mq (by kernel_rfl))).2
    (with_reducible refine Az hx fun p hx1=>Az hx1 fun n hx2=>Az hx2 fun c hx3=>?_)
    have h1:=hx3.1;have h9:D 5=true:=(hdp 5 (mq (by kernel_rfl))).1;rw[h9]at hg
    have hp:=hg.2.put (hx3.2.1)
    (with_reducible refine Az hp fun b hy0=>Az hy0 fun q hy1=>Az hy1 fun m hy2=>Az hy2 fun k hy3=>?_)
    have h3:=hy3.1;have h6:=hy3.2.2.1.cell;have h7:=hy3.2.2.1.free
    (with_reducible refine Ar (w1:=w'.setCell ⟨b,0,none⟩ (.slice p n c)) ?_ ?_ ?_)
    .simp[Region.wanted,yielded,Act.put,go_sem]
    .simp[execOp,Act.eval,Act.put,go_sem,h1,h3,h6,h7]
    .refine⟨An.store hy3.2.2.1 (Fb (Av _) hy3.2.1) _,trivial,hg.1.store_over hy3.2.2.1 (Av _) hy3.2.1 (fun x hx=>by cases hx) _,?_⟩;have h8:=hy3.2.2.2;simpa [upd,h9]using h8
   all_goals ((with_reducible refine Ad ?_ ?_);all_goals first|(simp only[Region.wanted];done)|simp[Region.wanted,yielded,execOp,Act.eval,Act.put,go_sem])
  .intro sp w8 hsp hg;obtain⟨hg1,_,hmk⟩:=hg;obtain⟨bO,e11,hbO,po,no,co,hxz,hnz⟩:=hmk rfl;have lO:Fit 33 OT (sp 4) w8:=hsp 4 rfl;have HBO8:=Aa hxz;have HFO8:=Aa (Fit.of (hnz rfl) lO.lim);have HBY8:=Aa (HBY9.out.below hg1.keep.bel HBY9.out.lt);have HBA8:=Aa (HBA9.out.below hg1.keep.bel HBA9.out.lt);have HBB8:=Aa (HBB9.out.below hg1.keep.bel HBB9.out.lt);have HFY8:=Aa (HFY9.out.below hg1.keep.bel);have HFA8:=Aa (HFA9.out.below hg1.keep.bel);have HFB8:=Aa (HFB9.out.below hg1.keep.bel);have HG8:=Aa (HG9.out.below hg1.keep.bel);have HP8:=Aa (HP9.out.below hg1.keep.bel);have HQ8:=Aa (HQ9.out.below hg1.keep.bel);have B8:=Aa (Ae B9.out hg1.keep.bel);clear HBY9 HBA9 HBB9 HFY9 HFA9 HFB9 HG9 HP9 HQ9 HR9 B9 hg1 hmk hbO hxz hnz lO hsp;simp only[Am,Nat.reduceAdd];rw[e11];clear e11;generalize sp 3=y3,sp 4=y4,sp 6=y6 at *
   go_simp
   go_wp2;refine Aj (by kernel_rfl) (by kernel_rfl)
    [some (.pointer (some ⟨b,0,none⟩)),some (.pointer (some ⟨b,0,none⟩)),some (.slice p4 n c4),none,some (.agg #[.slice py ny cy]),some (.agg #[.slice po no co]),none,some (.bool DD)]
    [false,false,false,true,false,false,true,false] rfl
    (fun w1 w2=>Below w1.heap.size w1 w2)
    (fun _ w'=>Below w8.heap.size w8 w')
    (fun i v w'=>match i with
     | 3=>cK n (Ch P q gg hh xs []) v w'
     | 6=>v=.bool DD
     | _=>True)
    ?_ (Bg _ _).drew ?_ ?_
   .intro i v w1 w2 hf hb;split at hf
    .exact hf.below hb
    .exact hf
    .trivial
   .simp only[Bh,Nat.reduceAdd];refine⟨?_,?_,?_,?_,?_,?_,?_,?_,trivial⟩
    all_goals intro D sp w' hD hW hdp hbx'
    case refine_4=>
     (with_reducible refine Ab (w1:=w') (f := 64) (args:=#[.pointer (some ⟨b,0,none⟩),.slice p4 n c4]) ?_ ?_ ?_)
     .simp[Region.wanted,yielded,Act.put,go_sem]
     .simp[Act.eval,Act.put,go_sem]
     .refine(Zu (HG8.out.below hbx') (HP8.out.below hbx') (by decide) (by omega)).mono ?_;rintro en w9 ⟨u,rfl,hu,hb⟩;exact⟨u,rfl,hb,hu,Ae hbx' hb⟩
    case refine_5=>
     have c0:=(HBY8.out.below hbx' HBY8.out.lt).cell
     with_reducible refine Ad ?_ ?_
     all_goals simp[Region.wanted,yielded,execOp,Act.eval,Act.put,go_sem,c0]
    case refine_6=>
     have c0:=(HBO8.out.below hbx' HBO8.out.lt).cell
     with_reducible refine Ad ?_ ?_
     all_goals simp[Region.wanted,yielded,execOp,Act.eval,Act.put,go_sem,c0]
    case refine_7=>
     have k3:cK n (Ch P q gg hh xs []) (sp 3) w':=(hdp 3 (mq (by kernel_rfl))).2
     (with_reducible refine Ab (w1:=w') (f := 74) (args:=#[.pointer (some ⟨b,0,none⟩),sp 3,.agg #[.slice py ny cy],.agg #[.slice po no co]]) ?_ ?_ ?_)
     .simp[Region.wanted,yielded,Act.put,go_sem]
     .simp[Act.eval,Act.put,go_sem]
     .refine(Ul (HG8.out.below hbx') k3 (HFY8.out.below hbx') (HFO8.out.below hbx') (by decide) (by decide) (by omega) HND.out HEY.out HTD.out).mono ?_;rintro en w9 ⟨_,rfl,rfl,hb⟩;exact⟨_,rfl,hb,rfl,Ae hbx' hb⟩
    case refine_8=>
     have k6:(sp 6)=.bool DD:=(hdp 6 (mq (by kernel_rfl))).2
     with_reducible refine Ad ?_ ?_
     all_goals simp[Region.wanted,yielded,execOp,Act.eval,Act.put,go_sem,k6]
    all_goals ((with_reducible refine Ad ?_ ?_);all_goals first|(simp only[Region.wanted];done)|simp[Region.wanted,yielded,execOp,Act.eval,Act.put,go_sem])
   .intro sp w7 hsp hbx';have HBY7:=Aa (HBY8.out.below hbx' HBY8.out.lt);have HBA7:=Aa (HBA8.out.below hbx' HBA8.out.lt);have HBB7:=Aa (HBB8.out.below hbx' HBB8.out.lt);have HBO7:=Aa (HBO8.out.below hbx' HBO8.out.lt);have HFY7:=Aa (HFY8.out.below hbx');have HFA7:=Aa (HFA8.out.below hbx');have HFB7:=Aa (HFB8.out.below hbx');have HFO7:=Aa (HFO8.out.below hbx');have HG7:=Aa (HG8.out.below hbx');have HP7:=Aa (HP8.out.below hbx');have HQ7:=Aa (HQ8.out.below hbx');have B7:=Aa (Ae B8.out hbx');clear HBY8 HBA8 HBB8 HBO8 HFY8 HFA8 HFB8 HFO8 HG8 HP8 HQ8 B8;clear hsp hbx';simp only[Am,Nat.reduceAdd];generalize sp 3=y3,sp 6=y6 at *
    go_simp
    go_wp2;refine Aj (by kernel_rfl) (by kernel_rfl)
     [some (.pointer (some ⟨b,0,none⟩)),some (.pointer (some ⟨b,0,none⟩)),some (.slice p4 n c4),some (.slice p5 nl c5),none,some (.agg #[.slice py ny cy]),some (.agg #[.slice po no co]),some (.agg #[.slice pb nb cb]),none,some (.bool DD)]
     [false,false,false,false,true,false,false,false,true,false] rfl
     (fun w1 w2=>Below w1.heap.size w1 w2)
     (fun _ w'=>Below w7.heap.size w7 w')
     (fun i v w'=>match i with
      | 4=>cK (max n nl) (Ch P q gg hh xs ls) v w'
      | 8=>v=.bool DD
      | _=>True)
     ?_ (Bg _ _).drew ?_ ?_
    .intro i v w1 w2 hf hb;split at hf
     .exact hf.below hb
     .exact hf
     .trivial
    .simp only[Bh,Nat.reduceAdd];refine⟨?_,?_,?_,?_,?_,?_,?_,?_,?_,?_,trivial⟩
     all_goals intro D sp w' hD hW hdp hbx'
     case refine_5=>
      (with_reducible refine Ab (w1:=w') (f := 61) (args:=#[.pointer (some ⟨b,0,none⟩),.slice p4 n c4,.slice p5 nl c5]) ?_ ?_ ?_)
      .simp[Region.wanted,yielded,Act.put,go_sem]
      .simp[Act.eval,Act.put,go_sem]
      .refine(Sk (HG7.out.below hbx') (HP7.out.below hbx') (HQ7.out.below hbx') (by decide) (by decide) (by omega) (by omega)).mono ?_;rintro en w9 ⟨u,rfl,hu,hb⟩;exact⟨u,rfl,hb,hu,Ae hbx' hb⟩
     case refine_6=>
      have c0:=(HBY7.out.below hbx' HBY7.out.lt).cell
      with_reducible refine Ad ?_ ?_
      all_goals simp[Region.wanted,yielded,execOp,Act.eval,Act.put,go_sem,c0]
     case refine_7=>
      have c0:=(HBO7.out.below hbx' HBO7.out.lt).cell
      with_reducible refine Ad ?_ ?_
      all_goals simp[Region.wanted,yielded,execOp,Act.eval,Act.put,go_sem,c0]
     case refine_8=>
      have c0:=(HBB7.out.below hbx' HBB7.out.lt).cell
      with_reducible refine Ad ?_ ?_
      all_goals simp[Region.wanted,yielded,execOp,Act.eval,Act.put,go_sem,c0]
     case refine_9=>
      have k4:cK (max n nl) (Ch P q gg hh xs ls) (sp 4) w':=(hdp 4 (mq (by kernel_rfl))).2
      (with_reducible refine Ab (w1:=w') (f := 73) (args:=#[.pointer (some ⟨b,0,none⟩),sp 4,.agg #[.slice py ny cy],.agg #[.slice po no co],.agg #[.slice pb nb cb]]) ?_ ?_ ?_)
      .simp[Region.wanted,yielded,Act.put,go_sem]
      .simp[Act.eval,Act.put,go_sem]
      .refine(Rl (HG7.out.below hbx') k4 (HFY7.out.below hbx') (HFO7.out.below hbx') (HFB7.out.below hbx') (by decide) (by decide) (by decide) (by omega) HNC.out HEX.out HTC.out).mono ?_;rintro en w9 ⟨_,rfl,rfl,hb⟩;exact⟨_,rfl,hb,rfl,Ae hbx' hb⟩
     case refine_10=>
      have k8:(sp 8)=.bool DD:=(hdp 8 (mq (by kernel_rfl))).2
      with_reducible refine Ad ?_ ?_
      all_goals simp[Region.wanted,yielded,execOp,Act.eval,Act.put,go_sem,k8]
     all_goals ((with_reducible refine Ad ?_ ?_);all_goals first|(simp only[Region.wanted];done)|simp[Region.wanted,yielded,execOp,Act.eval,Act.put,go_sem])
    .intro sp w6 hsp hbx';have HBY6:=Aa (HBY7.out.below hbx' HBY7.out.lt);have HBA6:=Aa (HBA7.out.below hbx' HBA7.out.lt);have HBB6:=Aa (HBB7.out.below hbx' HBB7.out.lt);have HBO6:=Aa (HBO7.out.below hbx' HBO7.out.lt);have HFY6:=Aa (HFY7.out.below hbx');have HFA6:=Aa (HFA7.out.below hbx');have HFB6:=Aa (HFB7.out.below hbx');have HFO6:=Aa (HFO7.out.below hbx');have HG6:=Aa (HG7.out.below hbx');have HP6:=Aa (HP7.out.below hbx');have HQ6:=Aa (HQ7.out.below hbx');have B6:=Aa (Ae B7.out hbx');clear HBY7 HBA7 HBB7 HBO7 HFY7 HFA7 HFB7 HFO7 HG7 HP7 HQ7 B7;clear hsp hbx';have hE:=HKE.out;simp only[Am,Nat.reduceAdd];generalize sp 4=y4,sp 8=y8 at *
     go_simp
     go_wp2;refine Aj (by kernel_rfl) (by kernel_rfl)
      [some (.pointer (some ⟨b,0,none⟩)),some (.pointer (some ⟨b,0,none⟩)),some (.slice p4 n c4),some (.slice p5 nl c5),none,some (.agg #[.slice py ny cy]),some (.agg #[.slice pa na ca]),some (.agg #[.slice pb nb cb]),none,some (.bool true),some (.pointer (some ⟨b,0,none⟩)),some (.pointer (some ⟨b,0,none⟩)),some (.slice p4 n c4),none,some (.agg #[.slice py ny cy]),some (.agg #[.slice pa na ca]),none,some (.bool true),some (.bool true),some (.bool DD),some (.agg #[.slice po no co]),some (.agg #[.slice pa na ca]),none,some (.bool DD),some (.bool true),some (.bool true),some (.bool true),some (.bool DD),some (.agg #[.slice po no co]),some (.agg #[.slice pa na ca]),none,some (.bool DD),some (.bool true),some (.bool true),some (.bool true)]
      [false,false,false,false,true,false,false,false,true,false,false,false,false,true,false,false,true,false,false,false,false,false,true,false,false,false,false,false,false,false,true,false,false,false,false] rfl
      (fun w1 w2=>Below w1.heap.size w1 w2)
      (fun _ w'=>Below w6.heap.size w6 w')
      (fun i v w'=>match i with
       | 4=>cK (max n nl) (Ch P q gg hh xs ls) v w'
       | 8=>v=.bool true
       | 13=>cK n (Ch P q gg hh xs []) v w'
       | 16=>v=.bool true
       | 22=>v=.int .i64 KC
       | 30=>v=.int .i64 KC
       | _=>True)
      ?_ (Bg _ _).drew ?_ ?_
     .intro i v w1 w2 hf hb;split at hf
      .exact hf.below hb
      .exact hf
      .exact hf.below hb
      .exact hf
      .exact hf
      .exact hf
      .trivial
     .simp only[Bh,Nat.reduceAdd];refine⟨?_,?_,?_,?_,?_,?_,?_,?_,?_,?_,?_,?_,?_,?_,?_,?_,?_,?_,?_,?_,?_,?_,?_,?_,?_,?_,?_,?_,?_,?_,?_,?_,?_,?_,?_,trivial⟩
      all_goals intro D sp w' hD hW hdp hbx'
      case refine_5=>
       (with_reducible refine Ab (w1:=w') (f := 61) (args:=#[.pointer (some ⟨b,0,none⟩),.slice p4 n c4,.slice p5 nl c5]) ?_ ?_ ?_)
       .simp[Region.wanted,yielded,Act.put,go_sem]
       .simp[Act.eval,Act.put,go_sem]
       .refine(Sk (HG6.out.below hbx') (HP6.out.below hbx') (HQ6.out.below hbx') (by decide) (by decide) (by omega) (by omega)).mono ?_;rintro en w9 ⟨u,rfl,hu,hb⟩;exact⟨u,rfl,hb,hu,Ae hbx' hb⟩
      case refine_6|refine_15=>
       have c0:=(HBY6.out.below hbx' HBY6.out.lt).cell
       with_reducible refine Ad ?_ ?_
       all_goals simp[Region.wanted,yielded,execOp,Act.eval,Act.put,go_sem,c0]
      case refine_7|refine_16|refine_22|refine_30=>
       have c0:=(HBA6.out.below hbx' HBA6.out.lt).cell
       with_reducible refine Ad ?_ ?_
       all_goals simp[Region.wanted,yielded,execOp,Act.eval,Act.put,go_sem,c0]
      case refine_8=>
       have c0:=(HBB6.out.below hbx' HBB6.out.lt).cell
       with_reducible refine Ad ?_ ?_
       all_goals simp[Region.wanted,yielded,execOp,Act.eval,Act.put,go_sem,c0]
      case refine_9=>
       have k4:cK (max n nl) (Ch P q gg hh xs ls) (sp 4) w':=(hdp 4 (mq (by kernel_rfl))).2
       (with_reducible refine Ab (w1:=w') (f := 73) (args:=#[.pointer (some ⟨b,0,none⟩),sp 4,.agg #[.slice py ny cy],.agg #[.slice pa na ca],.agg #[.slice pb nb cb]]) ?_ ?_ ?_)
       .simp[Region.wanted,yielded,Act.put,go_sem]
       .simp[Act.eval,Act.put,go_sem]
       .refine(Rl (HG6.out.below hbx') k4 (HFY6.out.below hbx') (HFA6.out.below hbx') (HFB6.out.below hbx') (by decide) (by decide) (by decide) (by omega) HNA.out HEX.out (decide_eq_true rfl)).mono ?_;rintro en w9 ⟨_,rfl,rfl,hb⟩;exact⟨_,rfl,hb,rfl,Ae hbx' hb⟩
      case refine_10=>
       have k8:(sp 8)=.bool true:=(hdp 8 (mq (by kernel_rfl))).2
       with_reducible refine Ad ?_ ?_
       all_goals simp[Region.wanted,yielded,execOp,Act.eval,Act.put,go_sem,k8]
      case refine_14=>
       (with_reducible refine Ab (w1:=w') (f := 64) (args:=#[.pointer (some ⟨b,0,none⟩),.slice p4 n c4]) ?_ ?_ ?_)
       .simp[Region.wanted,yielded,Act.put,go_sem]
       .simp[Act.eval,Act.put,go_sem]
       .refine(Zu (HG6.out.below hbx') (HP6.out.below hbx') (by decide) (by omega)).mono ?_;rintro en w9 ⟨u,rfl,hu,hb⟩;exact⟨u,rfl,hb,hu,Ae hbx' hb⟩
      case refine_17=>
       have k13:cK n (Ch P q gg hh xs []) (sp 13) w':=(hdp 13 (mq (by kernel_rfl))).2
       (with_reducible refine Ab (w1:=w') (f := 74) (args:=#[.pointer (some ⟨b,0,none⟩),sp 13,.agg #[.slice py ny cy],.agg #[.slice pa na ca]]) ?_ ?_ ?_)
       .simp[Region.wanted,yielded,Act.put,go_sem]
       .simp[Act.eval,Act.put,go_sem]
       .refine(Ul (HG6.out.below hbx') k13 (HFY6.out.below hbx') (HFA6.out.below hbx') (by decide) (by decide) (by omega) HNB.out HEY.out (decide_eq_true rfl)).mono ?_;rintro en w9 ⟨_,rfl,rfl,hb⟩;exact⟨_,rfl,hb,rfl,Ae hbx' hb⟩
      case refine_18=>
       have k16:(sp 16)=.bool true:=(hdp 16 (mq (by kernel_rfl))).2
       with_reducible refine Ad ?_ ?_
       all_goals simp[Region.wanted,yielded,execOp,Act.eval,Act.put,go_sem,k16]
      case refine_21|refine_29=>
       have c0:=(HBO6.out.below hbx' HBO6.out.lt).cell
       with_reducible refine Ad ?_ ?_
       all_goals simp[Region.wanted,yielded,execOp,Act.eval,Act.put,go_sem,c0]
      case refine_23|refine_31=>
       (with_reducible refine Ab (w1:=w') (f := 34) (args:=#[.agg #[.slice po no co],.agg #[.slice pa na ca]]) ?_ ?_ ?_)
       .simp[Region.wanted,yielded,Act.put,go_sem]
       .simp[Act.eval,Act.put,go_sem]
       .refine(Bk (HFO6.out.below hbx') (HFA6.out.below hbx') (by decide) (by decide) HKC.out).mono ?_;rintro en w9 ⟨_,rfl,rfl,hb⟩;exact⟨_,rfl,hb,rfl,Ae hbx' hb⟩
      case refine_24=>
       have k22:(sp 22)=.int .i64 KC:=(hdp 22 (mq (by kernel_rfl))).2
       with_reducible refine Ad ?_ ?_
       all_goals simp[Region.wanted,yielded,execOp,Act.eval,Act.put,go_sem,k22,hE]
      case refine_32=>
       have k30:(sp 30)=.int .i64 KC:=(hdp 30 (mq (by kernel_rfl))).2
       with_reducible refine Ad ?_ ?_
       all_goals simp[Region.wanted,yielded,execOp,Act.eval,Act.put,go_sem,k30,hE]
      all_goals ((with_reducible refine Ad ?_ ?_);all_goals first|(simp only[Region.wanted];done)|simp[Region.wanted,yielded,execOp,Act.eval,Act.put,go_sem])
     .intro sp w5 hsp hbx';have B5:=Aa (Ae B6.out hbx');clear hsp hbx' hE;simp only[Am,Nat.reduceAdd];generalize sp 4=y4,sp 8=y8,sp 13=y13,sp 16=y16,sp 22=y22,sp 30=y30 at *
      go_simp
      go_wp2;go_ret;exact⟨rfl,B5.out⟩
end Go.Proofs.YtnbmfaihlefgfaaGreatDoor
