/- Pocklington's conditions, of the program. -/
import Derived.Test.YtokhckjemidbpaaGreatDoorCpC
import Derived.Test.YtokhckjemidbpaaGreatDoorExp
set_option maxRecDepth 1000000
set_option maxHeartbeats 16000000
set_option linter.all false
namespace Go.Proofs.YtokhckjemidbpaaGreatDoor
open Go Go.RowKit Go.Proofs.YtokhckjemidbpaaGreatDoor.Flow
theorem fC {w:World}{v u:Value}{e f N M:Nat}(h:Fit e N v w)(k:Fit f M u w)(he:e<=300000)(hf:f<=300000)(hM:0<M) :
  Calls Tryz.prog 251 #[v,u] w fun en w'=>∃x,en=.returned x/\Fit f (Nat.gcd N M) x w'/\Below w.heap.size w w':=by
 obtain⟨pa,na,ca,rfl,h1,h2⟩:=Aw h;obtain⟨pb,nb,cb,rfl,k1,k2⟩:=Aw k;refine(Zz w pa na ca N pb nb cb M (e+f) h1 k1 (Dk h2 (Bz (by omega))) (Dk k2 (Bz (by omega))) (by omega)).mono ?_;rintro en w' ⟨p,n,c,rfl,hn,hb,_⟩;exact⟨_,rfl,Fit.of hn (Nat.lt_of_le_of_lt (Nat.le_of_dvd hM (Nat.gcd_dvd_right N M)) k2),hb⟩
structure dU (w wr:World) (b9 r N Bs A e f:Nat) (pb:Option Addr) (nb cb:Nat) (pl:Option Addr) (nl cl:Nat) (po:Option Addr) (no co:Nat):Prop where
 box0:Ae wr w.heap.size (.slice pb nb cb)
 box1:Ae wr (w.heap.size+1) (.slice pl nl cl)
 box9:Ae wr b9 (.slice po no co)
 base:Ah wr pb nb cb Bs
 less:Ah wr pl nl cl A
 one:Ah wr po no co 1
 limb:Bs<Al e
 lim:A<Al e
 ring:Ring wr r N f
 bel:Below w.heap.size w wr
theorem dU.later {w wr w1:World}{b9 r N Bs A e f:Nat}{pb:Option Addr}{nb cb:Nat}{pl:Option Addr}{nl cl:Nat}{po:Option Addr}{no co:Nat}(h:dU w wr b9 r N Bs A e f pb nb cb pl nl cl po no co)(hb:Below wr.heap.size wr w1):dU w w1 b9 r N Bs A e f pb nb cb pl nl cl po no co :=
 ⟨h.box0.below hb h.box0.lt,h.box1.below hb h.box1.lt,h.box9.below hb h.box9.lt,h.base.below hb,h.less.below hb,h.one.below hb,h.limb,h.lim,h.ring.below hb,Ab h.bel hb⟩
theorem bK {X N:Nat}(hN:2<=N):Nv (X%N) 1 N=(X%N+N-1)%N:=by
 rw[eN hN,Nat.mod_mod,Nat.mod_eq_of_lt (show 1<N by omega)]
open Classical in
theorem Ub {w:World}{v u:Value}{r e f N Bs A:Nat}{pp:Option Addr}{np cp:Nat}{ps:List Nat}(hR:Ring w r N f)(h:Fit e Bs v w)(k:Fit e A u w)(hp:Ba w e pp np cp ps)(he:e<=100)(hps:∀p∈ps,2<=p) :
  Calls Tryz.prog 240 #[.slice pp np cp,v,u,.pointer (some ⟨r,0,none⟩)] w fun en w'=>en=.returned (.bool (decide (Bs^A%N=1/\∀p∈ps,Nat.gcd ((Bs^(A/p)%N+N-1)%N) N=1)))/\Below w.heap.size w w':=by
 obtain⟨pb,nb,cb,rfl,h1,h2⟩:=Aw h;obtain⟨pl,nl,cl,rfl,k1,k2⟩:=Aw k;have hN2:=hR.two;have hff:=hR.few;have hNmax:np<=9223372036854775807:=Eo hp.cap hp.max;have HP:=Ac hp;have HLP:=Ac hp.len;have HPS:=Ac hps;obtain⟨ANS,hANS⟩:∃X,decide (Bs^A%N=1/\∀p∈ps,Nat.gcd ((Bs^(A/p)%N+N-1)%N) N=1)=X:=⟨_,rfl⟩
 have HANS:=Ac hANS;rw[hANS];have hbx:=Fk.mk2 w (.slice pb nb cb) (.slice pl nl cl) 37 37;have HBX:=Ac hbx.bel;have HNB0:=Ac ((Ae.made w (.slice pb nb cb)).below ((Bd _ _).alloc (Av _) (.cells #[.slice pl nl cl] 37)) (by simp));have HNB1:=Ac (show Ae _ (w.heap.size+1) _ by simpa using Ae.made (w.alloc (.cells #[.slice pb nb cb] 37)) (.slice pl nl cl));have HR:=Ac hR;have HB1:=Ac h1;have HB2:=Ac h2;have HL1:=Ac k1;have HL2:=Ac k2;clear h k hp hps hANS hbx h1 h2 k1 k2 hR;go_enter Tryz.func240,Tryz.ntmps240
 go_wp2_with fail
 refine(Cp 1 _ (by decide)).mono ?_;rintro en w1 ⟨po,no,co,rfl,hn1,hb1,_⟩;have hba:Below w1.heap.size w1 (w1.alloc (.cells #[.slice po no co] 37)):=By;have HB9:=Ac (Ae.made w1 (.slice po no co));obtain⟨wa,hwa⟩:∃wa,w1.alloc (.cells #[.slice po no co] 37)=wa:=⟨_,rfl⟩
 rw[hwa]at hba HB9
 have hb1a:=Ab hb1 hba;have hbwa:=Ab HBX.out hb1a;have HST:Aa (dU w wa w1.heap.size r N Bs A e f pb nb cb pl nl cl po no co):=⟨⟨HNB0.out.below hb1a HNB0.out.lt,HNB1.out.below hb1a HNB1.out.lt,HB9.out,HB1.out.below hbwa,HL1.out.below hbwa,hn1.below hba,HB2.out,HL2.out,HR.out.below hbwa,hbwa⟩⟩
 clear hba hb1 hn1 hb1a hbwa;obtain⟨X,hX⟩:∃X,Bs^A%N=X:=⟨_,rfl⟩
 have HX:=Ac hX;clear hX;obtain⟨K,hK⟩:∃K,Bp X 1=K:=⟨_,rfl⟩
 obtain⟨DD,hDD⟩:∃DD,(K != 0)=DD:=⟨_,rfl⟩
 have HK:=Ac hK;have HDDh:=Ac hDD;clear hK hDD;go_wp2;have hDD:=HDDh.out;refine Aj (by kernel_rfl) (by kernel_rfl)
  [some (.pointer (some ⟨r,0,none⟩)),some (.agg #[.slice pb nb cb]),some (.agg #[.slice pl nl cl]),none,some (.agg #[.slice po no co]),none,some (.bool DD)]
  [false,false,false,true,false,true,false] rfl
  (fun w1 w2=>Below w1.heap.size w1 w2)
  (fun _ w'=>Below wa.heap.size wa w')
  (fun i v w'=>match i with
   | 3=>Fit f X v w'
   | 5=>v=.int .i64 K
   | _=>True)
  ?_ (Bd _ _).drew ?_ ?_
 .intro i v w1 w2 hf hb;split at hf
  .exact hf.below hb
  .exact hf
  .trivial
 .simp only[Bh,Nat.reduceAdd];refine⟨?_,?_,?_,?_,?_,?_,?_,trivial⟩
  all_goals intro D sp w' hD hW hdp hbx'
  case refine_2=>
   have c0:=(HST.out.later hbx').box0.cell
   with_reducible refine Ag ?_ ?_
   all_goals simp[Region.wanted,yielded,execOp,Act.eval,Act.put,go_sem,c0]
  case refine_3=>
   have c0:=(HST.out.later hbx').box1.cell
   with_reducible refine Ag ?_ ?_
   all_goals simp[Region.wanted,yielded,execOp,Act.eval,Act.put,go_sem,c0]
  case refine_4=>
   (with_reducible refine Ad (w1:=w') (f := 82) (args:=#[.pointer (some ⟨r,0,none⟩),.agg #[.slice pb nb cb],.agg #[.slice pl nl cl]]) ?_ ?_ ?_)
   .simp only[Region.wanted]
   .simp[Act.eval,Act.put,go_sem]
   .refine(Iw (HST.out.later hbx').ring (Fit.of (HST.out.later hbx').base HST.out.limb) (Fit.of (HST.out.later hbx').less HST.out.lim) (by omega) (by omega)).mono ?_;rintro en w5 ⟨u,rfl,hu,hb⟩;rw[HX.out]at hu
    exact⟨u,rfl,hb,hu,Ab hbx' hb⟩
  case refine_5=>
   have c0:=(HST.out.later hbx').box9.cell
   with_reducible refine Ag ?_ ?_
   all_goals simp[Region.wanted,yielded,execOp,Act.eval,Act.put,go_sem,c0]
  case refine_6=>
   have k3:Fit f X (sp 3) w':=(hdp 3 (mq (by kernel_rfl))).2
   (with_reducible refine Ad (w1:=w') (f := 24) (args:=#[sp 3,.agg #[.slice po no co]]) ?_ ?_ ?_)
   .simp only[Region.wanted]
   .simp[Act.eval,Act.put,go_sem]
   .refine(Az k3 (Fit.of (HST.out.later hbx').one (by decide:(1:Nat)<Al 1)) (by omega) (by omega) HK.out).mono ?_;rintro en w5 ⟨u,rfl,hu,hb⟩;exact⟨u,rfl,hb,hu,Ab hbx' hb⟩
  case refine_7=>
   have k5:(sp 5)=.int .i64 K:=(hdp 5 (mq (by kernel_rfl))).2
   with_reducible refine Ag ?_ ?_
   all_goals simp[Region.wanted,yielded,execOp,Act.eval,Act.put,go_sem,k5,hDD]
  all_goals ((with_reducible refine Ag ?_ ?_);all_goals first|(simp only[Region.wanted];done)|simp[Region.wanted,yielded,execOp,Act.eval,Act.put,go_sem])
 .intro sp w2 hsp hbx';have HST2:=Ac (HST.out.later hbx');clear hsp hbx' hDD;simp only[Ak,Nat.reduceAdd];generalize sp 3=y3,sp 5=y5 at *
  go_simp
  cases DD with
  | true=>
   have HF:Aa (ANS=false):=⟨by
    rw[<-HANS.out];refine decide_eq_false fun hh=>?_
    have h1:=HDDh.out;rw[<-HK.out,<-HX.out,hh.1]at h1
    exact absurd h1 (by decide)⟩
   go_wp2;go_ret;exact⟨by rw[HF.out];rfl,HST2.out.bel⟩
  | false=>
   have hX1:Aa (Bs^A%N=1):=⟨by
    rw[HX.out];have h1:=HDDh.out;rw[<-HK.out]at h1
    exact Cg.1 (by simpa using h1)⟩
   go_wp2
   go_loopw [11,12,13,14,15,26] (fun _ _ _ _ _ iv wr=>∃(k:Nat),k<=np/\iv=.int .i64 k/\Aa (dU w wr w1.heap.size r N Bs A e f pb nb cb pl nl cl po no co)/\Aa (∀p∈ps.take k,Nat.gcd ((Bs^(A/p)%N+N-1)%N) N=1)) (fun _ _ _ _ _ iv _=>np-(intOf iv).toNat)
   case atStart=>exact⟨0,by omega,rfl,HST2,⟨fun p hp=>by simp at hp⟩⟩
   case round=>
    obtain⟨k,hk,rfl,HS,HD⟩:=hrel
    by_cases hkn:k<np
    .obtain⟨P,hPk⟩:∃P,ps[k]? = some P:=⟨ps[k]'(by rw[<-HLP.out];exact hkn),List.getElem?_eq_getElem _⟩
     obtain⟨b,off,rfl,hb,hc⟩:=(HP.out.below HS.out.bel).at_ (by omega)
     obtain⟨q,m,d,hx,hnx,hlim⟩:=hc k P hPk;have hkn':(k:Int)<np:=by omega
     have HPk:=Ac hPk;have HP2:Aa (2<=P):=⟨HPS.out P (List.mem_of_getElem? hPk)⟩
     have hba:Below wr.heap.size wr (wr.alloc (.cells #[.slice q m d] 37)):=By;have HBP:=Ac (Ae.made wr (.slice q m d));obtain⟨wb,hwb⟩:∃wb,wr.alloc (.cells #[.slice q m d] 37)=wb:=⟨_,rfl⟩
     rw[hwb]at hba HBP
     have HSb:=Ac (HS.out.later hba);have HF:=Ac ((Fit.of hnx hlim).below hba);have c0:=HSb.out.box1.cell;have c8:=HBP.out.cell;clear hc hnx hlim hPk hba
     go_wp2_with fail
     refine(Sr (Fit.of HSb.out.less HSb.out.lim) HF.out (by omega) (by omega)).mono ?_;rintro en w3 ⟨_,rfl,⟨qv,rv,rfl,hq,hr⟩,hb3⟩;rw[if_neg (by have:=HP2.out;omega)];obtain⟨q3,m3,d3,rfl,q3a,q3b⟩:=hq;obtain⟨r3,l3,f3,rfl,r3a,r3b⟩:=hr;have HS3:=Ac (HSb.out.later hb3);have hbd:Below w3.heap.size w3 ((w3.alloc (.cells #[.slice q3 m3 d3] 37)).alloc (.cells #[.slice r3 l3 f3] 37)):=((Bd _ _).alloc (Av _) _).alloc (by simp) _;have HBQ:=Ac ((Ae.made w3 (.slice q3 m3 d3)).below ((Bd _ _).alloc (Av _) (.cells #[.slice r3 l3 f3] 37)) (by simp));obtain⟨wd,hwd⟩:∃wd,(w3.alloc (.cells #[.slice q3 m3 d3] 37)).alloc (.cells #[.slice r3 l3 f3] 37)=wd:=⟨_,rfl⟩
     rw[hwd]at hbd HBQ
     have HS4:=Ac (HS3.out.later hbd);have HQ4:=Ac (q3a.below hbd);have HQl:=Ac q3b;clear hb3 q3a q3b r3a r3b hbd c0 c8;obtain⟨X2,hX2⟩:∃X2,Bs^(A/P)%N=X2:=⟨_,rfl⟩
     obtain⟨Y,hY⟩:∃Y,Nv X2 1 N=Y:=⟨_,rfl⟩
     have HX2:=Ac hX2;have HY:=Ac hY;clear hX2 hY;go_wp2;refine Am (by kernel_rfl) (by kernel_rfl)
      [some (.pointer (some ⟨r,0,none⟩)),some (.pointer (some ⟨r,0,none⟩)),some (.agg #[.slice pb nb cb]),some (.agg #[.slice q3 m3 d3]),none,some (.agg #[.slice po no co]),none,none,none]
      [false,false,false,false,true,false,true,true,true] rfl
      (fun w1 w2=>Ap wd.heap.size w1 w2)
      (fun D sp w'=>Below wd.heap.size wd w'/\(D 7=true->Im (sp 7) wd.heap.size Y (D 8) w'))
      (fun i v w'=>match i with
       | 4=>Fit f X2 v w'
       | 6=>Fit f Y v w'
       | _=>True)
      ?_ ⟨(Bd _ _).drew,(fun a=>by cases a)⟩ ?_ ?_
     .intro i v w1 w2 hf hb;split at hf
      .exact Fit.keep hf hb
      .exact Fit.keep hf hb
      .trivial
     .simp only[Bg,Nat.reduceAdd];refine⟨?_,?_,?_,?_,?_,?_,?_,?_,?_,trivial⟩
      case refine_5=>
       intro D sp w' hD hW hdp hg
       (with_reducible refine Ad (w1:=w') (f := 82) (args:=#[.pointer (some ⟨r,0,none⟩),.agg #[.slice pb nb cb],.agg #[.slice q3 m3 d3]]) ?_ ?_ ?_)
       .simp only[Region.wanted]
       .simp[Act.eval,Act.put,go_sem]
       .refine(Iw (HS4.out.later hg.1).ring (Fit.of (HS4.out.later hg.1).base HS4.out.limb) (Fit.of (HQ4.out.below hg.1) HQl.out) (by omega) (by omega)).mono ?_;rintro en w5 ⟨u,rfl,hu,hb⟩;rw[HX2.out]at hu
        exact⟨u,rfl,Ap.of hb hg.1.size,hu,Ab hg.1 hb,by simpa [upd]using fun a=>(hg.2 a).later hb⟩
      case refine_7=>
       intro D sp w' hD hW hdp hg;have k4:Fit f X2 (sp 4) w':=(hdp 4 (mq (by kernel_rfl))).2
       (with_reducible refine Ad (w1:=w') (f := 55) (args:=#[.pointer (some ⟨r,0,none⟩),sp 4,.agg #[.slice po no co]]) ?_ ?_ ?_)
       .simp only[Region.wanted]
       .simp[Act.eval,Act.put,go_sem]
       .refine(Wk (HS4.out.later hg.1).ring k4 (Fit.of (HS4.out.later hg.1).one (by decide:(1:Nat)<Al 1)) (by omega) (by omega)).mono ?_;rintro en w5 ⟨u,rfl,hu,hb⟩;rw[HY.out]at hu
        exact⟨u,rfl,Ap.of hb hg.1.size,hu,Ab hg.1 hb,by simpa [upd]using fun a=>(hg.2 a).later hb⟩
      case refine_8=>
       intro D sp w' hD hW hdp hg;have h8:D 8=false:=hW 8 (mq (by kernel_rfl))
       (with_reducible refine Ai (w1:=w'.alloc (.cells #[.slice none 0 0] 37)) (v:=.pointer (some ⟨w'.heap.size,0,none⟩)) ?_ ?_ ?_)
       .simp only[Region.wanted]
       .simp[execOp,go_sem]
       .have hb:Below w'.heap.size w' (w'.alloc (.cells #[.slice none 0 0] 37)):=By;refine⟨Ap.of hb hg.1.size,trivial,Ab hg.1 hb,fun _=>?_⟩;have:=Im.made w' hg.1.size Y;simpa [upd,h8]using this
      case refine_9=>
       intro D sp w' hD hW hdp hg;have hx:∃p n c,sp 6=.agg #[.slice p n c]/\Ah w' p n c Y/\Y<Al f:=(hdp 6 (mq (by kernel_rfl))).2;have hy:∃b,sp 7=.pointer (some ⟨b,0,none⟩)/\wd.heap.size<=b/\∃p n c,Ae w' b (.slice p n c)/\(D 8=true->Ah w' p n c Y):=hg.2 (hdp 7 (mq (by kernel_rfl))).1
       (with_reducible refine Bc hx fun p hx1=>Bc hx1 fun n hx2=>Bc hx2 fun c hx3=>Bc hy fun bb hy1=>?_)
       have hlo:=hy1.2.1
       (with_reducible refine Bc hy1.2.2 fun p2 hy2=>Bc hy2 fun n2 hy3=>Bc hy3 fun c2 hy4=>?_)
       have g1:=hx3.1;have g2:=hy1.1;have hbx0:=hy4.1;have g3:=hbx0.cell;have g4:=hbx0.free
       (with_reducible refine Aq (w1:=w'.setCell ⟨bb,0,none⟩ (.slice p n c)) ?_ ?_ ?_)
       .simp only[Region.wanted]
       .simp[execOp,Act.eval,Act.put,go_sem,g1,g2,g3,g4]
       .exact⟨Ap.store hbx0 hlo _,trivial,hg.1.setCell hlo _,fun _=>⟨bb,by simpa [upd]using g2,hlo,p,n,c,hbx0.set _,fun _=>hx3.2.1.store hbx0 _⟩⟩
      all_goals
       intro D sp w' hD hW hdp hg;have c0:=(HS4.out.later hg.1).box0.cell;have c1:=(HS4.out.later hg.1).box9.cell;have c2:=(HBQ.out.below hg.1 HBQ.out.lt).cell;simp[asked,Region.wanted,Oper.gives,execOp,Act.eval,Act.put,go_sem,c0,c1,c2]
     .intro sp w5 hsp hg;obtain⟨b5,e7,lo5,p5,n5,c5,x5,v5⟩:=hg.2 rfl;replace v5:=v5 rfl;have HS5:=Ac (HS4.out.later hg.1);have HX5:=Ac x5;have HYl:Aa (Y<Al f):=⟨by rw[<-HY.out];exact Nat.lt_trans (Yd hN2) HS5.out.ring.lim⟩
      have HV5:=Ac (Fit.of v5 HYl.out);clear hsp hg x5 v5;simp only[Ak,Nat.reduceAdd];rw[e7];clear e7;generalize sp 4=y4,sp 6=y6,sp 8=y8 at *
      go_simp
      obtain⟨G,hG⟩:∃G,Nat.gcd Y N=G:=⟨_,rfl⟩
      have HG:=Ac hG;obtain⟨K2,hK2⟩:∃K2,Bp G 1=K2:=⟨_,rfl⟩
      obtain⟨D2,hD2⟩:∃D2,(K2 != 0)=D2:=⟨_,rfl⟩
      have HK2:=Ac hK2;have HD2:=Ac hD2;clear hG hK2 hD2;go_wp2;have hD2:=HD2.out;refine Aj (by kernel_rfl) (by kernel_rfl)
       [some (.agg #[.slice p5 n5 c5]),some (.pointer (some ⟨r,0,none⟩)),none,none,some (.agg #[.slice po no co]),none,some (.bool D2)]
       [false,false,true,true,false,true,false] rfl
       (fun w1 w2=>Below w1.heap.size w1 w2)
       (fun _ w'=>Below w5.heap.size w5 w')
       (fun i v w'=>match i with
        | 2=>Fit f N v w'
        | 3=>Fit f G v w'
        | 5=>v=.int .i64 K2
        | _=>True)
       ?_ (Bd _ _).drew ?_ ?_
      .intro i v w1 w2 hf hb;split at hf
       .exact hf.below hb
       .exact hf.below hb
       .exact hf
       .trivial
      .simp only[Bh,Nat.reduceAdd];refine⟨?_,?_,?_,?_,?_,?_,?_,trivial⟩
       all_goals intro D sp w' hD hW hdp hbx'
       case refine_1=>
        have c0:=(HX5.out.below hbx' HX5.out.lt).cell
        with_reducible refine Ag ?_ ?_
        all_goals simp[Region.wanted,yielded,execOp,Act.eval,Act.put,go_sem,c0]
       case refine_3=>
        (with_reducible refine Ad (w1:=w') (f := 57) (args:=#[.pointer (some ⟨r,0,none⟩)]) ?_ ?_ ?_)
        .simp only[Region.wanted]
        .simp[Act.eval,Act.put,go_sem]
        .refine(Dj (HS5.out.later hbx').ring).mono ?_;rintro en w6 ⟨u,rfl,hu,hb⟩;exact⟨u,rfl,hb,hu,Ab hbx' hb⟩
       case refine_4=>
        have k2:Fit f N (sp 2) w':=(hdp 2 (mq (by kernel_rfl))).2
        (with_reducible refine Ad (w1:=w') (f := 251) (args:=#[.agg #[.slice p5 n5 c5],sp 2]) ?_ ?_ ?_)
        .simp only[Region.wanted]
        .simp[Act.eval,Act.put,go_sem]
        .refine(fC (HV5.out.below hbx') k2 (by omega) (by omega) (by omega)).mono ?_;rintro en w6 ⟨u,rfl,hu,hb⟩;rw[HG.out]at hu
         exact⟨u,rfl,hb,hu,Ab hbx' hb⟩
       case refine_5=>
        have c0:=(HS5.out.later hbx').box9.cell
        with_reducible refine Ag ?_ ?_
        all_goals simp[Region.wanted,yielded,execOp,Act.eval,Act.put,go_sem,c0]
       case refine_6=>
        have k3:Fit f G (sp 3) w':=(hdp 3 (mq (by kernel_rfl))).2
        (with_reducible refine Ad (w1:=w') (f := 24) (args:=#[sp 3,.agg #[.slice po no co]]) ?_ ?_ ?_)
        .simp only[Region.wanted]
        .simp[Act.eval,Act.put,go_sem]
        .refine(Az k3 (Fit.of (HS5.out.later hbx').one (by decide:(1:Nat)<Al 1)) (by omega) (by omega) HK2.out).mono ?_;rintro en w6 ⟨u,rfl,hu,hb⟩;exact⟨u,rfl,hb,hu,Ab hbx' hb⟩
       case refine_7=>
        have k5:(sp 5)=.int .i64 K2:=(hdp 5 (mq (by kernel_rfl))).2
        with_reducible refine Ag ?_ ?_
        all_goals simp[Region.wanted,yielded,execOp,Act.eval,Act.put,go_sem,k5,hD2]
       all_goals ((with_reducible refine Ag ?_ ?_);all_goals first|(simp only[Region.wanted];done)|simp[Region.wanted,yielded,execOp,Act.eval,Act.put,go_sem])
      .intro sp w6 hsp hbx';have HS6:=Ac (HS5.out.later hbx');clear hsp hbx' hD2;simp only[Ak,Nat.reduceAdd];generalize sp 2=z2,sp 3=z3,sp 5=z5 at *
       go_simp
       have HGY:Aa (G=Nat.gcd ((Bs^(A/P)%N+N-1)%N) N):=⟨by
        rw[<-HG.out,<-HY.out,<-HX2.out,bK hN2]⟩
       cases D2 with
       | true=>
        have HF:Aa (ANS=false):=⟨by
         rw[<-HANS.out];refine decide_eq_false fun hh=>?_
         have h1:=HD2.out;rw[<-HK2.out,HGY.out,hh.2 P (List.mem_of_getElem? HPk.out)]at h1
         exact absurd h1 (by decide)⟩
        go_wp2;go_ret;exact⟨by rw[HF.out];rfl,HS6.out.bel⟩
       | false=>
        have HD':Aa (∀p∈ps.take (k+1),Nat.gcd ((Bs^(A/p)%N+N-1)%N) N=1):=⟨by
         have hi:k<ps.length:=(List.getElem?_eq_some_iff.1 HPk.out).1;have e:ps[k]=P:=by have:=HPk.out;rw[List.getElem?_eq_getElem hi]at this;exact Option.some.inj this
         rw[List.take_succ_eq_append_getElem hi,e];intro p hp;rcases List.mem_append.1 hp with hp|hp
         .exact HD.out p hp
         .simp at hp;rw[hp,<-HGY.out];have h1:=HD2.out;rw[<-HK2.out]at h1
          exact Cg.1 (by simpa using h1)⟩
        go_wp2;go_roundw
        case rel=>exact⟨k+1,by omega,by go_num,HS6,HD'⟩
        case measure=>simp[intOf];omega
    .obtain rfl:k=np:=by omega
     have hkn':¬(k:Int)<k:=by omega
     have hta:ps.take k=ps:=List.take_of_length_le (by rw[<-HLP.out];exact Av _);rw[hta]at HD
     have HF:Aa (ANS=true):=⟨by rw[<-HANS.out];exact decide_eq_true ⟨hX1.out,HD.out⟩⟩
     clear hta;go_wp2;go_ret;exact⟨by rw[HF.out];rfl,HS.out.bel⟩
end Go.Proofs.YtokhckjemidbpaaGreatDoor
