/- Whether a step holds, of the program. -/
import Derived.Test.YtnbmfaihlefgfaaGreatDoorExp
import Derived.Test.YtnbmfaihlefgfaaGreatDoorCpF
import Derived.Deep.Slices
import Derived.ChangeSame
import Derived.ChangeSlices
import Derived.ChangeArms
set_option maxRecDepth 1000000
set_option maxHeartbeats 16000000
set_option linter.all false
namespace Go.Proofs.YtnbmfaihlefgfaaGreatDoor
open Go Go.RowKit Go.Proofs.YtnbmfaihlefgfaaGreatDoor.Flow
theorem oJ {w:World}{v u:Value}{e f N M:Nat}(h:Fit e N v w)(k:Fit f M u w)(he:e<=300000)(hf:f<=300000)(hM:0<M) :
  Calls Tryz.prog 253 #[v,u] w fun en w'=>∃x,en=.returned x/\Fit f (Nat.gcd N M) x w'/\Below w.heap.size w w':=by
 obtain⟨pa,na,ca,rfl,h1,h2⟩:=Au h;obtain⟨pb,nb,cb,rfl,k1,k2⟩:=Au k;refine(gS w pa na ca N pb nb cb M (e+f) h1 k1 (Eh h2 (Cu (by omega))) (Eh k2 (Cu (by omega))) (by omega)).mono ?_;rintro en w' ⟨p,n,c,rfl,hn,hb,_⟩;exact⟨_,rfl,Fit.of hn (Nat.lt_of_le_of_lt (Nat.le_of_dvd hM (Nat.gcd_dvd_right N M)) k2),hb⟩
structure mT (w wr:World) (b9 r N Bs A e f:Nat) (pb:Option Addr) (nb cb:Nat) (pl:Option Addr) (nl cl:Nat) (po:Option Addr) (no co:Nat):Prop where
 box0:Af wr w.heap.size (.slice pb nb cb)
 box1:Af wr (w.heap.size+1) (.slice pl nl cl)
 box9:Af wr b9 (.slice po no co)
 base:Ai wr pb nb cb Bs
 less:Ai wr pl nl cl A
 one:Ai wr po no co 1
 limb:Bs<Ao e
 lim:A<Ao e
 ring:Ring wr r N f
 bel:Below w.heap.size w wr
theorem mT.later {w wr w1:World}{b9 r N Bs A e f:Nat}{pb:Option Addr}{nb cb:Nat}{pl:Option Addr}{nl cl:Nat}{po:Option Addr}{no co:Nat}(h:mT w wr b9 r N Bs A e f pb nb cb pl nl cl po no co)(hb:Below wr.heap.size wr w1):mT w w1 b9 r N Bs A e f pb nb cb pl nl cl po no co :=
 ⟨h.box0.below hb h.box0.lt,h.box1.below hb h.box1.lt,h.box9.below hb h.box9.lt,h.base.below hb,h.less.below hb,h.one.below hb,h.limb,h.lim,h.ring.below hb,Ae h.bel hb⟩
theorem jI {X N:Nat}(hN:2<=N):Cb (X%N) 1 N=(X%N+N-1)%N:=by
 rw[Vz hN,Nat.mod_mod,Nat.mod_eq_of_lt (show 1<N by omega)]
open Classical in
theorem Yt {w:World}{v u:Value}{r e f N Bs A:Nat}{pp:Option Addr}{np cp:Nat}{ps:List Nat}(hR:Ring w r N f)(h:Fit e Bs v w)(k:Fit e A u w)(hp:Aw w e pp np cp ps)(he:e<=100)(hps:∀p∈ps,2<=p) :
  Calls Tryz.prog 242 #[.slice pp np cp,v,u,.pointer (some ⟨r,0,none⟩)] w fun en w'=>en=.returned (.bool (decide (Bs^A%N=1/\∀p∈ps,Nat.gcd ((Bs^(A/p)%N+N-1)%N) N=1)))/\Below w.heap.size w w':=by
 obtain⟨pb,nb,cb,rfl,h1,h2⟩:=Au h;obtain⟨pl,nl,cl,rfl,k1,k2⟩:=Au k;have hN2:=hR.two;have hff:=hR.few;have hNmax:np<=9223372036854775807:=Dm hp.cap hp.max;have HP:=Aa hp;have HLP:=Aa hp.len;have HPS:=Aa hps;obtain⟨ANS,hANS⟩:∃X,decide (Bs^A%N=1/\∀p∈ps,Nat.gcd ((Bs^(A/p)%N+N-1)%N) N=1)=X:=⟨_,rfl⟩
 have HANS:=Aa hANS;rw[hANS];have hbx:=Gx.mk2 w (.slice pb nb cb) (.slice pl nl cl) 36 36;have HBX:=Aa hbx.bel;have HNB0:=Aa ((Af.made w (.slice pb nb cb)).below ((Br _ _).alloc (Av _) (.cells #[.slice pl nl cl] 36)) (by simp));have HNB1:=Aa (show Af _ (w.heap.size+1) _ by simpa using Af.made (w.alloc (.cells #[.slice pb nb cb] 36)) (.slice pl nl cl));have HR:=Aa hR;have HB1:=Aa h1;have HB2:=Aa h2;have HL1:=Aa k1;have HL2:=Aa k2;clear h k hp hps hANS hbx h1 h2 k1 k2 hR;go_enter Tryz.func242,Tryz.ntmps242
 go_wp2_with fail
 refine(Da 1 _ (by decide)).mono ?_;rintro en w1 ⟨po,no,co,rfl,hn1,hb1,_⟩;have hba:Below w1.heap.size w1 (w1.alloc (.cells #[.slice po no co] 36)):=Dl;have HB9:=Aa (Af.made w1 (.slice po no co));obtain⟨wa,hwa⟩:∃wa,w1.alloc (.cells #[.slice po no co] 36)=wa:=⟨_,rfl⟩
 rw[hwa]at hba HB9
 have hb1a:=Ae hb1 hba;have hbwa:=Ae HBX.out hb1a;have HST:Ab (mT w wa w1.heap.size r N Bs A e f pb nb cb pl nl cl po no co):=⟨⟨HNB0.out.below hb1a HNB0.out.lt,HNB1.out.below hb1a HNB1.out.lt,HB9.out,HB1.out.below hbwa,HL1.out.below hbwa,hn1.below hba,HB2.out,HL2.out,HR.out.below hbwa,hbwa⟩⟩
 clear hba hb1 hn1 hb1a hbwa;obtain⟨X,hX⟩:∃X,Bs^A%N=X:=⟨_,rfl⟩
 have HX:=Aa hX;clear hX;obtain⟨K,hK⟩:∃K,By X 1=K:=⟨_,rfl⟩
 obtain⟨DD,hDD⟩:∃DD,(K != 0)=DD:=⟨_,rfl⟩
 have HK:=Aa hK;have HDDh:=Aa hDD;clear hK hDD;go_wp2;have hDD:=HDDh.out;refine Aj (by kernel_rfl) (by kernel_rfl)
  [some (.pointer (some ⟨r,0,none⟩)),some (.agg #[.slice pb nb cb]),some (.agg #[.slice pl nl cl]),none,some (.agg #[.slice po no co]),none,some (.bool DD)]
  [false,false,false,true,false,true,false] rfl
  (fun w1 w2=>Below w1.heap.size w1 w2)
  (fun _ w'=>Below wa.heap.size wa w')
  (fun i v w'=>match i with
   | 3=>Fit f X v w'
   | 5=>v=.int .i64 K
   | _=>True)
  ?_ (Br _ _).drew ?_ ?_
 .intro i v w1 w2 hf hb;split at hf
  .exact hf.below hb
  .exact hf
  .trivial
 .simp only[Bu,Nat.reduceAdd];refine⟨?_,?_,?_,?_,?_,?_,?_,trivial⟩
  all_goals intro D sp w' hD hW hdp hbx'
  case refine_2=>
   have c0:=(HST.out.later hbx').box0.cell
   with_reducible refine Ad ?_ ?_
   all_goals simp[Region.wanted,yielded,execOp,Act.eval,Act.put,go_sem,c0]
  case refine_3=>
   have c0:=(HST.out.later hbx').box1.cell
   with_reducible refine Ad ?_ ?_
   all_goals simp[Region.wanted,yielded,execOp,Act.eval,Act.put,go_sem,c0]
  case refine_4=>
   (with_reducible refine Ac (w1:=w') (f := 114) (args:=#[.pointer (some ⟨r,0,none⟩),.agg #[.slice pb nb cb],.agg #[.slice pl nl cl]]) ?_ ?_ ?_)
   .simp only[Region.wanted]
   .simp[Act.eval,Act.put,go_sem]
   .refine(Jc (HST.out.later hbx').ring (Fit.of (HST.out.later hbx').base HST.out.limb) (Fit.of (HST.out.later hbx').less HST.out.lim) (by omega) (by omega)).mono ?_;rintro en w5 ⟨u,rfl,hu,hb⟩;rw[HX.out]at hu
    exact⟨u,rfl,hb,hu,Ae hbx' hb⟩
  case refine_5=>
   have c0:=(HST.out.later hbx').box9.cell
   with_reducible refine Ad ?_ ?_
   all_goals simp[Region.wanted,yielded,execOp,Act.eval,Act.put,go_sem,c0]
  case refine_6=>
   have k3:Fit f X (sp 3) w':=(hdp 3 (mq (by kernel_rfl))).2
   (with_reducible refine Ac (w1:=w') (f := 34) (args:=#[sp 3,.agg #[.slice po no co]]) ?_ ?_ ?_)
   .simp only[Region.wanted]
   .simp[Act.eval,Act.put,go_sem]
   .refine(Cj k3 (Fit.of (HST.out.later hbx').one (by decide:(1:Nat)<Ao 1)) (by omega) (by omega) HK.out).mono ?_;rintro en w5 ⟨u,rfl,hu,hb⟩;exact⟨u,rfl,hb,hu,Ae hbx' hb⟩
  case refine_7=>
   have k5:(sp 5)=.int .i64 K:=(hdp 5 (mq (by kernel_rfl))).2
   with_reducible refine Ad ?_ ?_
   all_goals simp[Region.wanted,yielded,execOp,Act.eval,Act.put,go_sem,k5,hDD]
  all_goals ((with_reducible refine Ad ?_ ?_);all_goals first|(simp only[Region.wanted];done)|simp[Region.wanted,yielded,execOp,Act.eval,Act.put,go_sem])
 .intro sp w2 hsp hbx';have HST2:=Aa (HST.out.later hbx');clear hsp hbx' hDD;simp only[An,Nat.reduceAdd];generalize sp 3=y3,sp 5=y5 at *
  go_simp
  cases DD with
  | true=>
   have HF:Ab (ANS=false):=⟨by
    rw[<-HANS.out];refine decide_eq_false fun hh=>?_
    have h1:=HDDh.out;rw[<-HK.out,<-HX.out,hh.1]at h1
    exact absurd h1 (by decide)⟩
   go_wp2;go_ret;exact⟨by rw[HF.out];rfl,HST2.out.bel⟩
  | false=>
   have hX1:Ab (Bs^A%N=1):=⟨by
    rw[HX.out];have h1:=HDDh.out;rw[<-HK.out]at h1
    exact Cr.1 (by simpa using h1)⟩
   go_wp2
   go_loopw [11,12,13,14,15,26] (fun _ _ _ _ _ iv wr=>∃(k:Nat),k<=np/\iv=.int .i64 k/\Ab (mT w wr w1.heap.size r N Bs A e f pb nb cb pl nl cl po no co)/\Ab (∀p∈ps.take k,Nat.gcd ((Bs^(A/p)%N+N-1)%N) N=1)) (fun _ _ _ _ _ iv _=>np-(intOf iv).toNat)
   case atStart=>exact⟨0,by omega,rfl,HST2,⟨fun p hp=>by simp at hp⟩⟩
   case round=>
    obtain⟨k,hk,rfl,HS,HD⟩:=hrel
    by_cases hkn:k<np
    .obtain⟨P,hPk⟩:∃P,ps[k]? = some P:=⟨ps[k]'(by rw[<-HLP.out];exact hkn),List.getElem?_eq_getElem _⟩
     obtain⟨b,off,rfl,hb,hc⟩:=(HP.out.below HS.out.bel).at_ (by omega)
     obtain⟨q,m,d,hx,hnx,hlim⟩:=hc k P hPk;have hkn':(k:Int)<np:=by omega
     have HPk:=Aa hPk;have HP2:Ab (2<=P):=⟨HPS.out P (List.mem_of_getElem? hPk)⟩
     have hba:Below wr.heap.size wr (wr.alloc (.cells #[.slice q m d] 36)):=Dl;have HBP:=Aa (Af.made wr (.slice q m d));obtain⟨wb,hwb⟩:∃wb,wr.alloc (.cells #[.slice q m d] 36)=wb:=⟨_,rfl⟩
     rw[hwb]at hba HBP
     have HSb:=Aa (HS.out.later hba);have HF:=Aa ((Fit.of hnx hlim).below hba);have c0:=HSb.out.box1.cell;have c8:=HBP.out.cell;clear hc hnx hlim hPk hba
     go_wp2_with fail
     refine(Xh (Fit.of HSb.out.less HSb.out.lim) HF.out (by omega) (by omega)).mono ?_;rintro en w3 ⟨_,rfl,⟨qv,rv,rfl,hq,hr⟩,hb3⟩;rw[if_neg (by have:=HP2.out;omega)];obtain⟨q3,m3,d3,rfl,q3a,q3b⟩:=hq;obtain⟨r3,l3,f3,rfl,r3a,r3b⟩:=hr;have HS3:=Aa (HSb.out.later hb3);have hbd:Below w3.heap.size w3 ((w3.alloc (.cells #[.slice q3 m3 d3] 36)).alloc (.cells #[.slice r3 l3 f3] 36)):=((Br _ _).alloc (Av _) _).alloc (by simp) _;have HBQ:=Aa ((Af.made w3 (.slice q3 m3 d3)).below ((Br _ _).alloc (Av _) (.cells #[.slice r3 l3 f3] 36)) (by simp));obtain⟨wd,hwd⟩:∃wd,(w3.alloc (.cells #[.slice q3 m3 d3] 36)).alloc (.cells #[.slice r3 l3 f3] 36)=wd:=⟨_,rfl⟩
     rw[hwd]at hbd HBQ
     have HS4:=Aa (HS3.out.later hbd);have HQ4:=Aa (q3a.below hbd);have HQl:=Aa q3b;clear hb3 q3a q3b r3a r3b hbd c0 c8;obtain⟨X2,hX2⟩:∃X2,Bs^(A/P)%N=X2:=⟨_,rfl⟩
     obtain⟨Y,hY⟩:∃Y,Cb X2 1 N=Y:=⟨_,rfl⟩
     have HX2:=Aa hX2;have HY:=Aa hY;clear hX2 hY;go_wp2;refine Am (by kernel_rfl) (by kernel_rfl)
      [some (.pointer (some ⟨r,0,none⟩)),some (.pointer (some ⟨r,0,none⟩)),some (.agg #[.slice pb nb cb]),some (.agg #[.slice q3 m3 d3]),none,some (.agg #[.slice po no co]),none,none,none]
      [false,false,false,false,true,false,true,true,true] rfl
      (fun w1 w2=>Ap wd.heap.size w1 w2)
      (fun D sp w'=>Below wd.heap.size wd w'/\(D 7=true->Kw (sp 7) wd.heap.size Y (D 8) w'))
      (fun i v w'=>match i with
       | 4=>Fit f X2 v w'
       | 6=>Fit f Y v w'
       | _=>True)
      ?_ ⟨(Br _ _).drew,(fun a=>by cases a)⟩ ?_ ?_
     .intro i v w1 w2 hf hb;split at hf
      .exact Fit.keep hf hb
      .exact Fit.keep hf hb
      .trivial
     .simp only[Bw,Nat.reduceAdd];refine⟨?_,?_,?_,?_,?_,?_,?_,?_,?_,trivial⟩
      case refine_5=>
       intro D sp w' hD hW hdp hg
       (with_reducible refine Ac (w1:=w') (f := 114) (args:=#[.pointer (some ⟨r,0,none⟩),.agg #[.slice pb nb cb],.agg #[.slice q3 m3 d3]]) ?_ ?_ ?_)
       .simp only[Region.wanted]
       .simp[Act.eval,Act.put,go_sem]
       .refine(Jc (HS4.out.later hg.1).ring (Fit.of (HS4.out.later hg.1).base HS4.out.limb) (Fit.of (HQ4.out.below hg.1) HQl.out) (by omega) (by omega)).mono ?_;rintro en w5 ⟨u,rfl,hu,hb⟩;rw[HX2.out]at hu
        exact⟨u,rfl,Ap.of hb hg.1.size,hu,Ae hg.1 hb,by simpa [upd]using fun a=>(hg.2 a).later hb⟩
      case refine_7=>
       intro D sp w' hD hW hdp hg;have k4:Fit f X2 (sp 4) w':=(hdp 4 (mq (by kernel_rfl))).2
       (with_reducible refine Ac (w1:=w') (f := 58) (args:=#[.pointer (some ⟨r,0,none⟩),sp 4,.agg #[.slice po no co]]) ?_ ?_ ?_)
       .simp only[Region.wanted]
       .simp[Act.eval,Act.put,go_sem]
       .refine(Hn (HS4.out.later hg.1).ring k4 (Fit.of (HS4.out.later hg.1).one (by decide:(1:Nat)<Ao 1)) (by omega) (by omega)).mono ?_;rintro en w5 ⟨u,rfl,hu,hb⟩;rw[HY.out]at hu
        exact⟨u,rfl,Ap.of hb hg.1.size,hu,Ae hg.1 hb,by simpa [upd]using fun a=>(hg.2 a).later hb⟩
      case refine_8=>
       intro D sp w' hD hW hdp hg;have h8:D 8=false:=hW 8 (mq (by kernel_rfl))
       (with_reducible refine Ah (w1:=w'.alloc (.cells #[.slice none 0 0] 36)) (v:=.pointer (some ⟨w'.heap.size,0,none⟩)) ?_ ?_ ?_)
       .simp only[Region.wanted]
       .simp[execOp,go_sem]
       .have hb:Below w'.heap.size w' (w'.alloc (.cells #[.slice none 0 0] 36)):=Dl;refine⟨Ap.of hb hg.1.size,trivial,Ae hg.1 hb,fun _=>?_⟩;have:=Kw.made w' hg.1.size Y;simpa [upd,h8]using this
      case refine_9=>
       intro D sp w' hD hW hdp hg;have hx:∃p n c,sp 6=.agg #[.slice p n c]/\Ai w' p n c Y/\Y<Ao f:=(hdp 6 (mq (by kernel_rfl))).2;have hy:∃b,sp 7=.pointer (some ⟨b,0,none⟩)/\wd.heap.size<=b/\∃p n c,Af w' b (.slice p n c)/\(D 8=true->Ai w' p n c Y):=hg.2 (hdp 7 (mq (by kernel_rfl))).1
       (with_reducible refine Bp hx fun p hx1=>Bp hx1 fun n hx2=>Bp hx2 fun c hx3=>Bp hy fun bb hy1=>?_)
       have hlo:=hy1.2.1
       (with_reducible refine Bp hy1.2.2 fun p2 hy2=>Bp hy2 fun n2 hy3=>Bp hy3 fun c2 hy4=>?_)
       have g1:=hx3.1;have g2:=hy1.1;have hbx0:=hy4.1;have g3:=hbx0.cell;have g4:=hbx0.free
       (with_reducible refine Ar (w1:=w'.setCell ⟨bb,0,none⟩ (.slice p n c)) ?_ ?_ ?_)
       .simp only[Region.wanted]
       .simp[execOp,Act.eval,Act.put,go_sem,g1,g2,g3,g4]
       .exact⟨Ap.store hbx0 hlo _,trivial,hg.1.setCell hlo _,fun _=>⟨bb,by simpa [upd]using g2,hlo,p,n,c,hbx0.set _,fun _=>hx3.2.1.store hbx0 _⟩⟩
      all_goals
       intro D sp w' hD hW hdp hg;have c0:=(HS4.out.later hg.1).box0.cell;have c1:=(HS4.out.later hg.1).box9.cell;have c2:=(HBQ.out.below hg.1 HBQ.out.lt).cell;simp[asked,Region.wanted,Oper.gives,execOp,Act.eval,Act.put,go_sem,c0,c1,c2]
     .intro sp w5 hsp hg;obtain⟨b5,e7,lo5,p5,n5,c5,x5,v5⟩:=hg.2 rfl;replace v5:=v5 rfl;have HS5:=Aa (HS4.out.later hg.1);have HX5:=Aa x5;have HYl:Ab (Y<Ao f):=⟨by rw[<-HY.out];exact Nat.lt_trans (Jt hN2) HS5.out.ring.lim⟩
      have HV5:=Aa (Fit.of v5 HYl.out);clear hsp hg x5 v5;simp only[An,Nat.reduceAdd];rw[e7];clear e7;generalize sp 4=y4,sp 6=y6,sp 8=y8 at *
      go_simp
      obtain⟨G,hG⟩:∃G,Nat.gcd Y N=G:=⟨_,rfl⟩
      have HG:=Aa hG;obtain⟨K2,hK2⟩:∃K2,By G 1=K2:=⟨_,rfl⟩
      obtain⟨D2,hD2⟩:∃D2,(K2 != 0)=D2:=⟨_,rfl⟩
      have HK2:=Aa hK2;have HD2:=Aa hD2;clear hG hK2 hD2;go_wp2;have hD2:=HD2.out;refine Aj (by kernel_rfl) (by kernel_rfl)
       [some (.agg #[.slice p5 n5 c5]),some (.pointer (some ⟨r,0,none⟩)),none,none,some (.agg #[.slice po no co]),none,some (.bool D2)]
       [false,false,true,true,false,true,false] rfl
       (fun w1 w2=>Below w1.heap.size w1 w2)
       (fun _ w'=>Below w5.heap.size w5 w')
       (fun i v w'=>match i with
        | 2=>Fit f N v w'
        | 3=>Fit f G v w'
        | 5=>v=.int .i64 K2
        | _=>True)
       ?_ (Br _ _).drew ?_ ?_
      .intro i v w1 w2 hf hb;split at hf
       .exact hf.below hb
       .exact hf.below hb
       .exact hf
       .trivial
      .simp only[Bu,Nat.reduceAdd];refine⟨?_,?_,?_,?_,?_,?_,?_,trivial⟩
       all_goals intro D sp w' hD hW hdp hbx'
       case refine_1=>
        have c0:=(HX5.out.below hbx' HX5.out.lt).cell
        with_reducible refine Ad ?_ ?_
        all_goals simp[Region.wanted,yielded,execOp,Act.eval,Act.put,go_sem,c0]
       case refine_3=>
        (with_reducible refine Ac (w1:=w') (f := 83) (args:=#[.pointer (some ⟨r,0,none⟩)]) ?_ ?_ ?_)
        .simp only[Region.wanted]
        .simp[Act.eval,Act.put,go_sem]
        .refine(Gr (HS5.out.later hbx').ring).mono ?_;rintro en w6 ⟨u,rfl,hu,hb⟩;exact⟨u,rfl,hb,hu,Ae hbx' hb⟩
       case refine_4=>
        have k2:Fit f N (sp 2) w':=(hdp 2 (mq (by kernel_rfl))).2
        (with_reducible refine Ac (w1:=w') (f := 253) (args:=#[.agg #[.slice p5 n5 c5],sp 2]) ?_ ?_ ?_)
        .simp only[Region.wanted]
        .simp[Act.eval,Act.put,go_sem]
        .refine(oJ (HV5.out.below hbx') k2 (by omega) (by omega) (by omega)).mono ?_;rintro en w6 ⟨u,rfl,hu,hb⟩;rw[HG.out]at hu
         exact⟨u,rfl,hb,hu,Ae hbx' hb⟩
       case refine_5=>
        have c0:=(HS5.out.later hbx').box9.cell
        with_reducible refine Ad ?_ ?_
        all_goals simp[Region.wanted,yielded,execOp,Act.eval,Act.put,go_sem,c0]
       case refine_6=>
        have k3:Fit f G (sp 3) w':=(hdp 3 (mq (by kernel_rfl))).2
        (with_reducible refine Ac (w1:=w') (f := 34) (args:=#[sp 3,.agg #[.slice po no co]]) ?_ ?_ ?_)
        .simp only[Region.wanted]
        .simp[Act.eval,Act.put,go_sem]
        .refine(Cj k3 (Fit.of (HS5.out.later hbx').one (by decide:(1:Nat)<Ao 1)) (by omega) (by omega) HK2.out).mono ?_;rintro en w6 ⟨u,rfl,hu,hb⟩;exact⟨u,rfl,hb,hu,Ae hbx' hb⟩
       case refine_7=>
        have k5:(sp 5)=.int .i64 K2:=(hdp 5 (mq (by kernel_rfl))).2
        with_reducible refine Ad ?_ ?_
        all_goals simp[Region.wanted,yielded,execOp,Act.eval,Act.put,go_sem,k5,hD2]
       all_goals ((with_reducible refine Ad ?_ ?_);all_goals first|(simp only[Region.wanted];done)|simp[Region.wanted,yielded,execOp,Act.eval,Act.put,go_sem])
      .intro sp w6 hsp hbx';have HS6:=Aa (HS5.out.later hbx');clear hsp hbx' hD2;simp only[An,Nat.reduceAdd];generalize sp 2=z2,sp 3=z3,sp 5=z5 at *
       go_simp
       have HGY:Ab (G=Nat.gcd ((Bs^(A/P)%N+N-1)%N) N):=⟨by
        rw[<-HG.out,<-HY.out,<-HX2.out,jI hN2]⟩
       cases D2 with
       | true=>
        have HF:Ab (ANS=false):=⟨by
         rw[<-HANS.out];refine decide_eq_false fun hh=>?_
         have h1:=HD2.out;rw[<-HK2.out,HGY.out,hh.2 P (List.mem_of_getElem? HPk.out)]at h1
         exact absurd h1 (by decide)⟩
        go_wp2;go_ret;exact⟨by rw[HF.out];rfl,HS6.out.bel⟩
       | false=>
        have HD':Ab (∀p∈ps.take (k+1),Nat.gcd ((Bs^(A/p)%N+N-1)%N) N=1):=⟨by
         have hi:k<ps.length:=(List.getElem?_eq_some_iff.1 HPk.out).1;have e:ps[k]=P:=by have:=HPk.out;rw[List.getElem?_eq_getElem hi]at this;exact Option.some.inj this
         rw[List.take_succ_eq_append_getElem hi,e];intro p hp;rcases List.mem_append.1 hp with hp|hp
         .exact HD.out p hp
         .simp at hp;rw[hp,<-HGY.out];have h1:=HD2.out;rw[<-HK2.out]at h1
          exact Cr.1 (by simpa using h1)⟩
        go_wp2;go_roundw
        case rel=>exact⟨k+1,by omega,by go_num,HS6,HD'⟩
        case measure=>simp[intOf];omega
    .obtain rfl:k=np:=by omega
     have hkn':¬(k:Int)<k:=by omega
     have hta:ps.take k=ps:=List.take_of_length_le (by rw[<-HLP.out];exact Av _);rw[hta]at HD
     have HF:Ab (ANS=true):=⟨by rw[<-HANS.out];exact decide_eq_true ⟨hX1.out,HD.out⟩⟩
     clear hta;go_wp2;go_ret;exact⟨by rw[HF.out];rfl,HS.out.bel⟩
def Jn (bs ps:List Nat):Prop:=ps≠[]/\ps.length<=32/\∀i P,ps[i]? = some P->Ma bs P/\P ∉ ps.take i
open Classical in
theorem Tj {w:World}{e:Nat}{pp:Option Addr}{np cp:Nat}{ps:List Nat}{pb:Option Addr}{nb cb:Nat}{bs:List Nat}(hp:Aw w e pp np cp ps)(hb:Aw w e pb nb cb bs)(he:e<=200) :
  Calls Tryz.prog 240 #[.slice pp np cp,.slice pb nb cb] w fun en w'=>en=.returned (.bool (decide (Jn bs ps)))/\Below w.heap.size w w':=by
 have hNmax:np<=9223372036854775807:=Dm hp.cap hp.max;have hcap:=hp.cap;have hcmax:=hp.max;have HP:=Aa hp;have HLP:=Aa hp.len;have HB0:=Aa hb;obtain⟨ANS,hANS⟩:∃X,decide (Jn bs ps)=X:=⟨_,rfl⟩
 have HANS:=Aa hANS;rw[hANS];clear hANS hp hb
 by_cases h1:np=0
 .have HF:Ab (ANS=false):=⟨by
   rw[<-HANS.out];exact decide_eq_false fun h=>h.1 (List.eq_nil_of_length_eq_zero (by rw[<-HLP.out];exact h1))⟩
  subst h1;go_enter Tryz.func240,Tryz.ntmps240;go_wp2;go_ret;exact⟨by rw[HF.out];rfl,Br _ _⟩
 by_cases h2:32<np
 .have HF:Ab (ANS=false):=⟨by
   rw[<-HANS.out];exact decide_eq_false fun h=>by have:=h.2.1;have:=HLP.out;omega⟩
  have h1':((np:Int)==0)=false:=by rw[beq_eq_false_iff_ne];omega
  have h2':(32:Int)<np:=by omega
  go_enter Tryz.func240,Tryz.ntmps240;go_wp2;go_ret;exact⟨by rw[HF.out];rfl,Br _ _⟩
 have h1':((np:Int)==0)=false:=by rw[beq_eq_false_iff_ne];omega
 have h2':¬(32:Int)<np:=by omega
 go_enter Tryz.func240,Tryz.ntmps240;go_wp2
 go_loopw [5,6,17] (fun _ _ iv wr=>∃(k:Nat),k<=np/\iv=.int .i64 k/\Ab (Below w.heap.size w wr)/\Ab (∀i P,i<k->ps[i]? = some P->Ma bs P/\P ∉ ps.take i)) (fun _ _ iv _=>np-(intOf iv).toNat)
 case atStart=>exact⟨0,by omega,rfl,⟨Br _ _⟩,⟨fun i P h=>by omega⟩⟩
 case round=>
  obtain⟨k,hk,rfl,HBr,HD⟩:=hrel
  by_cases hkn:k<np
  .obtain⟨PP,hPk⟩:∃P,ps[k]? = some P:=⟨ps[k]'(by rw[<-HLP.out];exact hkn),List.getElem?_eq_getElem _⟩
   have HPl:=Aa (HP.out.below HBr.out);obtain⟨b,off,rfl,hb,hc⟩:=HPl.out.at_ (by omega)
   obtain⟨q,m,d,hx,hnx,hlim⟩:=hc k PP hPk;have hkn':(k:Int)<np:=by omega
   have hkc:¬cp<k:=by omega
   have HPk:=Aa hPk;have hba:Below wr.heap.size wr (wr.alloc (.cells #[.slice q m d] 36)):=Dl;have HBP:=Aa (Af.made wr (.slice q m d));obtain⟨wb,hwb⟩:∃wb,wr.alloc (.cells #[.slice q m d] 36)=wb:=⟨_,rfl⟩
   rw[hwb]at hba HBP
   have HF:=Aa ((Fit.of hnx hlim).below hba);have HBwb:=Aa (Ae HBr.out hba);have HL:=Aa (HB0.out.below HBwb.out);have HT:=Aa ((HPl.out.take (Nat.le_of_lt hkn)).below hba);clear hc hnx hlim hPk hba
   by_cases hkp:Ma bs PP
   .have HKN:Ab (decide (Ma bs PP)=true):=⟨decide_eq_true hkp⟩
    obtain⟨CC,hCC⟩:∃X,decide (PP∈ps.take k)=X:=⟨_,rfl⟩
    have HC:=Aa hCC;have HKP:=Aa hkp;clear hCC hkp;go_wp2;refine Aj (by kernel_rfl) (by kernel_rfl)
     [some (.agg #[.slice q m d]),some (.slice pb nb cb),none,some (.bool false),some (.bool false),some (.slice (some ⟨b,off,none⟩) np cp),some (.int .i64 k),some (.slice (some ⟨b,off,none⟩) k cp),some (.agg #[.slice q m d]),none,some (.bool CC)]
     [false,false,true,false,false,false,false,false,false,true,false] rfl
     (fun w1 w2=>Below w1.heap.size w1 w2)
     (fun _ w'=>Below wb.heap.size wb w')
     (fun i v w'=>match i with
      | 2=>v=.bool true
      | 9=>v=.bool CC
      | _=>True)
     ?_ (Br _ _).drew ?_ ?_
    .intro i v w1 w2 hf hb;split at hf
     .exact hf
     .exact hf
     .trivial
    .simp only[Bu,Nat.reduceAdd];refine⟨?_,?_,?_,?_,?_,?_,?_,?_,?_,?_,?_,trivial⟩
     all_goals intro D sp w' hD hW hdp hbx'
     case refine_1|refine_9=>
      have c0:=(HBP.out.below hbx' HBP.out.lt).cell
      with_reducible refine Ad ?_ ?_
      all_goals simp[Region.wanted,yielded,execOp,Act.eval,Act.put,go_sem,c0]
     case refine_3=>
      (with_reducible refine Ac (w1:=w') (f := 250) (args:=#[.agg #[.slice q m d],.slice pb nb cb]) ?_ ?_ ?_)
      .simp[Region.wanted,yielded,Act.put,go_sem]
      .simp[Act.eval,Act.put,go_sem]
      .refine(Qt (HF.out.below hbx') (HL.out.below hbx') he).mono ?_;rintro en w9 ⟨rfl,hb⟩;rw[HKN.out];exact⟨_,rfl,hb,rfl,Ae hbx' hb⟩
     case refine_4=>
      have k2:(sp 2)=.bool true:=(hdp 2 (mq (by kernel_rfl))).2
      with_reducible refine Ad ?_ ?_
      all_goals simp[Region.wanted,yielded,execOp,Act.eval,Act.put,go_sem,k2]
     case refine_8=>
      (with_reducible refine Ah (w1:=w') (v:=.slice (some ⟨b,off,none⟩) k cp) ?_ ?_ ?_)
      .simp[Region.wanted,yielded,Act.put,go_sem]
      .simp[execOp,Act.eval,Act.put,go_sem,hkc]
      .exact⟨rfl,rfl⟩
     case refine_10=>
      (with_reducible refine Ac (w1:=w') (f := 251) (args:=#[.slice (some ⟨b,off,none⟩) k cp,.agg #[.slice q m d]]) ?_ ?_ ?_)
      .simp[Region.wanted,yielded,Act.put,go_sem]
      .simp[Act.eval,Act.put,go_sem]
      .refine(Lt w' e _ k cp (ps.take k) _ PP (HT.out.below hbx') (HF.out.below hbx') (by omega)).mono ?_;rintro en w9 ⟨rfl,hb⟩;rw[HC.out];exact⟨_,rfl,hb,rfl,Ae hbx' hb⟩
     case refine_11=>
      have k9:(sp 9)=.bool CC:=(hdp 9 (mq (by kernel_rfl))).2
      with_reducible refine Ad ?_ ?_
      all_goals simp[Region.wanted,yielded,execOp,Act.eval,Act.put,go_sem,k9]
     all_goals ((with_reducible refine Ad ?_ ?_);all_goals first|(simp only[Region.wanted];done)|simp[Region.wanted,yielded,execOp,Act.eval,Act.put,go_sem])
    .intro sp w7 hsp hbx';have HBe:=Aa (Ae HBwb.out hbx');clear hsp hbx';simp only[An,Nat.reduceAdd];generalize sp 2=y2,sp 9=y9 at *
     go_simp
     cases CC with
     | true=>
      have HA:Ab (ANS=false):=⟨by
       rw[<-HANS.out];exact decide_eq_false fun h=>(h.2.2 k PP HPk.out).2 (of_decide_eq_true HC.out)⟩
      go_wp2;go_ret;exact⟨by rw[HA.out];rfl,HBe.out⟩
     | false=>
      have HD':Ab (∀i P,i<k+1->ps[i]? = some P->Ma bs P/\P ∉ ps.take i):=⟨fun i P hi hP=>by
       rcases(by omega:i<k ∨ i=k) with h|rfl
       .exact HD.out i P h hP
       .have:=HPk.out;rw[hP]at this
        cases this;exact⟨HKP.out,of_decide_eq_false HC.out⟩⟩
      go_wp2;go_roundw
      case rel=>exact⟨k+1,by omega,by go_num,HBe,HD'⟩
      case measure=>simp[intOf];omega
   .have HKN:Ab (decide (Ma bs PP)=false):=⟨decide_eq_false hkp⟩
    have HA:Ab (ANS=false):=⟨by
     rw[<-HANS.out];exact decide_eq_false fun h=>hkp (h.2.2 k PP HPk.out).1⟩
    clear hkp;go_wp2;refine Aj (by kernel_rfl) (by kernel_rfl)
     [some (.agg #[.slice q m d]),some (.slice pb nb cb),none,some (.bool true),some (.bool true),some (undef),some (undef),some (undef),some (undef),some (undef),some (.bool true)]
     [false,false,true,false,false,false,false,false,false,false,false] rfl
     (fun w1 w2=>Below w1.heap.size w1 w2)
     (fun _ w'=>Below wb.heap.size wb w')
     (fun i v w'=>match i with
      | 2=>v=.bool false
      | _=>True)
     ?_ (Br _ _).drew ?_ ?_
    .intro i v w1 w2 hf hb;split at hf
     .exact hf
     .trivial
    .simp only[Bu,Nat.reduceAdd];refine⟨?_,?_,?_,?_,?_,?_,?_,?_,?_,?_,?_,trivial⟩
     all_goals intro D sp w' hD hW hdp hbx'
     case refine_1=>
      have c0:=(HBP.out.below hbx' HBP.out.lt).cell
      with_reducible refine Ad ?_ ?_
      all_goals simp[Region.wanted,yielded,execOp,Act.eval,Act.put,go_sem,c0]
     case refine_3=>
      (with_reducible refine Ac (w1:=w') (f := 250) (args:=#[.agg #[.slice q m d],.slice pb nb cb]) ?_ ?_ ?_)
      .simp[Region.wanted,yielded,Act.put,go_sem]
      .simp[Act.eval,Act.put,go_sem]
      .refine(Qt (HF.out.below hbx') (HL.out.below hbx') he).mono ?_;rintro en w9 ⟨rfl,hb⟩;rw[HKN.out];exact⟨_,rfl,hb,rfl,Ae hbx' hb⟩
     case refine_4=>
      have k2:(sp 2)=.bool false:=(hdp 2 (mq (by kernel_rfl))).2
      with_reducible refine Ad ?_ ?_
      all_goals simp[Region.wanted,yielded,execOp,Act.eval,Act.put,go_sem,k2]
     case refine_6|refine_7|refine_8|refine_9|refine_10=>
      (with_reducible refine Hi ?_ ?_)
      ·(simp[Region.wanted,yielded,Act.put,go_sem]<;>exact fun h=>by cases h)
      .exact⟨rfl,rfl⟩
     all_goals ((with_reducible refine Ad ?_ ?_);all_goals first|(simp only[Region.wanted];done)|simp[Region.wanted,yielded,execOp,Act.eval,Act.put,go_sem])
    .intro sp w7 hsp hbx';have HBe:=Aa (Ae HBwb.out hbx');clear hsp hbx';simp only[An,Nat.reduceAdd];generalize sp 2=y2 at *
     go_simp
     go_wp2;go_ret;exact⟨by rw[HA.out];rfl,HBe.out⟩
  .obtain rfl:k=np:=by omega
   have hkn':¬(k:Int)<k:=by omega
   have HF:Ab (ANS=true):=⟨by
    rw[<-HANS.out];exact decide_eq_true ⟨fun e=>h1 (by rw[HLP.out,e];rfl),by rw[<-HLP.out];omega,fun i P hP=>HD.out i P (by rw[HLP.out];exact(List.getElem?_eq_some_iff.1 hP).1) hP⟩⟩
   go_wp2;go_ret;exact⟨by rw[HF.out];rfl,HBr.out⟩
theorem jT {p n:Nat}(hp:2<=p)(h0:0<n):pw p n n=1 ↔ ¬n%p=0:=by
 rw[Rn hp h0]
 by_cases h:n%p=0
 .rw[if_pos h];refine⟨fun e=>?_,fun e=>absurd h e⟩;have:p*pw p (n/p) (n/p)=1:=e;have:=Nat.le_of_dvd (by decide) (show p ∣ 1 from ⟨_,this.symm⟩);omega
 .rw[if_neg h];exact⟨fun _=>h,fun _=>rfl⟩
structure dY (w wr:World) (b5 b6 A Q e f:Nat) (pl:Option Addr) (nl cl:Nat) (po:Option Addr) (no co:Nat) (pq:Option Addr) (nq cq:Nat):Prop where
 box0:Af wr w.heap.size (.slice pl nl cl)
 box5:Af wr b5 (.slice po no co)
 box6:Af wr b6 (.slice pq nq cq)
 less:Ai wr pl nl cl A
 one:Ai wr po no co 1
 q:Ai wr pq nq cq Q
 lim:A<Ao e
 limq:Q<Ao f
 ne5:w.heap.size<b5
 ne6:b5<b6
 bel:Below w.heap.size w wr
theorem dY.later {w wr w1:World}{b5 b6 A Q e f:Nat}{pl:Option Addr}{nl cl:Nat}{po:Option Addr}{no co:Nat}{pq:Option Addr}{nq cq:Nat}(h:dY w wr b5 b6 A Q e f pl nl cl po no co pq nq cq)(hb:Below wr.heap.size wr w1):dY w w1 b5 b6 A Q e f pl nl cl po no co pq nq cq :=
 ⟨h.box0.below hb h.box0.lt,h.box5.below hb h.box5.lt,h.box6.below hb h.box6.lt,h.less.below hb,h.one.below hb,h.q.below hb,h.lim,h.limq,h.ne5,h.ne6,Ae h.bel hb⟩
theorem dY.store {w wr:World}{b5 b6 A Q Q' e f f':Nat}{pl:Option Addr}{nl cl:Nat}{po:Option Addr}{no co:Nat}{pq:Option Addr}{nq cq:Nat}{p':Option Addr}{n' c':Nat}(h:dY w wr b5 b6 A Q e f pl nl cl po no co pq nq cq)(hq:Ai wr p' n' c' Q')(hl:Q'<Ao f') :
  dY w (wr.setCell ⟨b6,0,none⟩ (.slice p' n' c')) b5 b6 A Q' e f' pl nl cl po no co p' n' c':=by
 have h1:=h.ne5;have h2:=h.ne6;exact⟨h.box0.other (by omega) _,h.box5.other (by omega) _,h.box6.set _,h.less.store h.box6 _,h.one.store h.box6 _,hq.store h.box6 _,h.lim,hl,h1,h2,h.bel.setCell (by simp;omega) _⟩
open Classical in
theorem Xc {w:World}{v:Value}{e A:Nat}{pp:Option Addr}{np cp:Nat}{ps:List Nat}(h:Fit e A v w)(hp:Aw w e pp np cp ps)(he:e<=100)(hA:0<A)(hps:∀p∈ps,2<=p)(hnp:np<=1000) :
  Calls Tryz.prog 241 #[.slice pp np cp,v] w fun en w'=>en=.returned (.bool (decide ((∀p∈ps,A%p=0)/\A+1<Tw A ps*Tw A ps)))/\Below w.heap.size w w':=by
 obtain⟨pl,nl,cl,rfl,h1,h2⟩:=Au h;have HP:=Aa hp;have HLP:=Aa hp.len;have HPS:=Aa hps;obtain⟨ANS,hANS⟩:∃X,decide ((∀p∈ps,A%p=0)/\A+1<Tw A ps*Tw A ps)=X:=⟨_,rfl⟩
 have HANS:=Aa hANS;rw[hANS];have hbx:=Dq.mk1 w (.slice pl nl cl) 36;have HBX:=Aa hbx.bel;have HNB:=Aa (Af.made w (.slice pl nl cl));have HL1:=Aa h1;have HL2:=Aa h2;clear h hp hps hANS hbx h1 h2;go_enter Tryz.func241,Tryz.ntmps241
 go_wp2_with fail
 refine(Da 1 _ (by decide)).mono ?_;rintro en w1 ⟨po,no,co,rfl,hn1,hb1,_⟩;have HN1:=Aa hn1;have HB1:=Aa (Ae HBX.out hb1);have HNB1:=Aa (HNB.out.below hb1 HNB.out.lt);clear hb1 hn1;go_wp2
 go_loopw [8,9,14] (fun _ _ iv wr=>∃(k:Nat) (pq:Option Addr) (nq cq:Nat),k<=np/\iv=.int .i64 k/\Ab (dY w wr w1.heap.size (w1.heap.size+1) A (Tw A (ps.take k)) e (e*k+1) pl nl cl po no co pq nq cq)/\Ab (∀p∈ps.take k,A%p=0)) (fun _ _ iv _=>np-(intOf iv).toNat)
 case atStart=>
  have hb5:Below w1.heap.size w1 ((w1.alloc (.cells #[.slice po no co] 36)).alloc (.cells #[.slice po no co] 36)):=((Br _ _).alloc (Av _) _).alloc (by simp) _;refine⟨0,po,no,co,by omega,rfl,⟨HNB1.out.below hb5 HNB1.out.lt,(Af.made w1 _).below ((Br _ _).alloc (Av _) _) (by simp),?_,(HL1.out.below HB1.out).below hb5,HN1.out.below hb5,HN1.out.below hb5,HL2.out,by rw[Nat.mul_zero];exact(by decide:(1:Nat)<Ao 1),HNB1.out.lt,by omega,Ae HB1.out hb5⟩,⟨fun p hp=>by simp at hp⟩⟩;have:=Af.made (w1.alloc (.cells #[.slice po no co] 36)) (.slice po no co);simpa using this
 case round=>
  obtain⟨k,pq,nq,cq,hk,rfl,HST,HD⟩:=hrel
  by_cases hkn:k<np
  .obtain⟨P,hPk⟩:∃P,ps[k]? = some P:=⟨ps[k]'(by rw[<-HLP.out];exact hkn),List.getElem?_eq_getElem _⟩
   obtain⟨b,off,rfl,hb,hc⟩:=(HP.out.below HST.out.bel).at_ (by omega)
   obtain⟨q,m,d,hx,hnx,hlim⟩:=hc k P hPk;have hkn':(k:Int)<np:=by omega
   have HPk:=Aa hPk;have HP2:Ab (2<=P):=⟨HPS.out P (List.mem_of_getElem? hPk)⟩
   have hba:Below wr.heap.size wr (wr.alloc (.cells #[.slice q m d] 36)):=Dl;have HBP:=Aa (Af.made wr (.slice q m d));obtain⟨wa,hwa⟩:∃wa,wr.alloc (.cells #[.slice q m d] 36)=wa:=⟨_,rfl⟩
   rw[hwa]at hba HBP
   have HSTa:=Aa (HST.out.later hba);have HF:=Aa ((Fit.of hnx hlim).below hba);have HHa:=Aa hba.size;have c0:=HSTa.out.box0.cell;have c8:=HBP.out.cell;clear hc hnx hlim hPk hba
   go_wp2_with fail
   refine(fN (Fit.of HSTa.out.less HSTa.out.lim) HF.out (by omega) HP2.out hA).mono ?_;rintro en w2 ⟨_,rfl,⟨r,l,f,rfl,hr,hrl⟩,hb2⟩;have HST2:=Aa (HSTa.out.later hb2);have hbb:Below w2.heap.size w2 (w2.alloc (.cells #[.slice r l f] 36)):=Dl;have HBB:=Aa (Af.made w2 (.slice r l f));obtain⟨wb,hwb⟩:∃wb,w2.alloc (.cells #[.slice r l f] 36)=wb:=⟨_,rfl⟩
   rw[hwb]at hbb HBB
   have HSTb:=Aa (HST2.out.later hbb);have HPW:=Aa ((Fit.of hr hrl).below hbb);have c9:=HBB.out.cell;have c5:=HSTb.out.box5.cell;clear hr hrl hb2 hbb c0 c8
   by_cases h0:A%P=0
   .have hK:Ab ((By (pw P A A) 1==0)=false):=⟨by
     rw[beq_eq_false_iff_ne];exact fun e=>((jT HP2.out hA).1 (Cr.1 e)) h0⟩
    obtain⟨K,hKe⟩:∃K,By (pw P A A) 1=K:=⟨_,rfl⟩
    rw[hKe]at hK
    have HKe:=Aa hKe;clear hKe;have hK':=hK.out;have HD':Ab (∀p∈ps.take (k+1),A%p=0):=⟨by
     have hi:k<ps.length:=(List.getElem?_eq_some_iff.1 HPk.out).1;have e:ps[k]=P:=by have:=HPk.out;rw[List.getElem?_eq_getElem hi]at this;exact Option.some.inj this
     rw[List.take_succ_eq_append_getElem hi,e];intro p hp;rcases List.mem_append.1 hp with hp|hp
     .exact HD.out p hp
     .simp at hp;rw[hp];exact h0⟩
    have HQ':Ab (Tw A (ps.take k)*pw P A A=Tw A (ps.take (k+1))):=⟨by
     have hi:k<ps.length:=(List.getElem?_eq_some_iff.1 HPk.out).1;have e:ps[k]=P:=by have:=HPk.out;rw[List.getElem?_eq_getElem hi]at this;exact Option.some.inj this
     rw[List.take_succ_eq_append_getElem hi,e,Yr]⟩
    have hek:e*k<=100000:=by
     have:=Nat.mul_le_mul he (show k<=1000 by omega);omega
    have HEK:=Aa hek;have HEK':Ab (e*k+1+e=e*(k+1)+1):=⟨by rw[Nat.mul_succ];omega⟩
    clear h0 hek
    go_wp2_with fail
    refine(Cj HPW.out (Fit.of HSTb.out.one (by decide:(1:Nat)<Ao 1)) (by omega) (by omega) HKe.out).mono ?_;rintro en w3 ⟨_,rfl,rfl,hb3⟩;have HST3:=Aa (HSTb.out.later hb3);have HPW3:=Aa (HPW.out.below hb3);have d9:=(HBB.out.below hb3 HBB.out.lt).cell;have d6:=HST3.out.box6.cell;clear hb3 c9 c5
    go_wp2_with fail
    refine(Mk (Fit.of HST3.out.q HST3.out.limq) HPW3.out (by have:=HEK.out;omega) (by omega)).mono ?_;rintro en w4 ⟨_,rfl,⟨r4,l4,f4,rfl,x1,x2⟩,hb4⟩;rw[HQ'.out]at x1 x2
    rw[HEK'.out]at x2
    have HST4:=Aa (HST3.out.later hb4);have HST5:=Aa (HST4.out.store x1 x2);have e6:=HST4.out.box6.cell;have f6:=HST4.out.box6.free;clear hb4 x1 x2 d9 d6;go_wp2;go_roundw
    case rel=>exact⟨k+1,r4,l4,f4,by omega,by go_num,HST5,HD'⟩
    case measure=>simp[intOf];omega
   .have hK:Ab (By (pw P A A) 1=0):=⟨Cr.2 ((jT HP2.out hA).2 h0)⟩
    have HF':Ab (ANS=false):=⟨by
     rw[<-HANS.out];exact decide_eq_false fun hh=>h0 (hh.1 P (List.mem_of_getElem? HPk.out))⟩
    clear h0
    go_wp2_with fail
    refine(Cj HPW.out (Fit.of HSTb.out.one (by decide:(1:Nat)<Ao 1)) (by omega) (by omega) hK.out).mono ?_;rintro en w3 ⟨_,rfl,rfl,hb3⟩;have HB3:=Aa (Ae HSTb.out.bel hb3);clear hb3;go_wp2;go_ret;exact⟨by rw[HF'.out];rfl,HB3.out⟩
  .obtain rfl:k=np:=by omega
   have hkn':¬(k:Int)<k:=by omega
   have hta:ps.take k=ps:=List.take_of_length_le (by rw[<-HLP.out];exact Av _);rw[hta]at HST HD
   obtain⟨Q,hQ⟩:∃Q,Tw A ps=Q:=⟨_,rfl⟩
   rw[hQ]at HST
   have HQ:=Aa hQ;have hek:e*k<=100000:=by
    have:=Nat.mul_le_mul he hnp;omega
   have HEK:Ab (e*k+1<=900000):=⟨by omega⟩
   have HEK2:Ab (e*k+1+(e*k+1)<=900000):=⟨by omega⟩
   obtain⟨K,hK⟩:∃K,By (Q*Q) (A+1)=K:=⟨_,rfl⟩
   obtain⟨DD,hDD⟩:∃DD,decide (0<K)=DD:=⟨_,rfl⟩
   have HK:=Aa hK;have HA:Ab (ANS=DD):=⟨by
    rw[<-HANS.out,<-hDD,<-hK,hQ];exact decide_eq_decide.2 ⟨fun h=>Lu.2 h.2,fun h=>⟨HD.out,Lu.1 h⟩⟩⟩
   have HDDh:=Aa hDD;clear hta hQ hek hK hDD;go_wp2;have hDD:=HDDh.out;refine Aj (by kernel_rfl) (by kernel_rfl)
    [some (.agg #[.slice pq nq cq]),some (.agg #[.slice pq nq cq]),none,some (.agg #[.slice pl nl cl]),some (.agg #[.slice po no co]),none,none,some (.bool DD),some (.bool DD)]
    [false,false,true,false,false,true,true,false,false] rfl
    (fun w1 w2=>Below w1.heap.size w1 w2)
    (fun _ w'=>Below wr.heap.size wr w')
    (fun i v w'=>match i with
     | 2=>Fit (e*k+1+(e*k+1)) (Q*Q) v w'
     | 5=>Fit (e+1+1) (A+1) v w'
     | 6=>v=.int .i64 K
     | _=>True)
    ?_ (Br _ _).drew ?_ ?_
   .intro i v w1 w2 hf hb;split at hf
    .exact hf.below hb
    .exact hf.below hb
    .exact hf
    .trivial
   .simp only[Bu,Nat.reduceAdd];refine⟨?_,?_,?_,?_,?_,?_,?_,?_,?_,trivial⟩
    all_goals intro D sp w' hD hW hdp hbx'
    case refine_1|refine_2=>
     have c6:=(HST.out.later hbx').box6.cell
     with_reducible refine Ad ?_ ?_
     all_goals simp[Region.wanted,yielded,execOp,Act.eval,Act.put,go_sem,c6]
    case refine_3=>
     (with_reducible refine Ac (w1:=w') (f := 122) (args:=#[.agg #[.slice pq nq cq],.agg #[.slice pq nq cq]]) ?_ ?_ ?_)
     .simp only[Region.wanted]
     .simp[Act.eval,Act.put,go_sem]
     .refine(Mk (Fit.of (HST.out.later hbx').q HST.out.limq) (Fit.of (HST.out.later hbx').q HST.out.limq) HEK.out HEK.out).mono ?_;rintro en w5 ⟨u,rfl,hu,hb⟩;exact⟨u,rfl,hb,hu,Ae hbx' hb⟩
    case refine_4=>
     have c0:=(HST.out.later hbx').box0.cell
     with_reducible refine Ad ?_ ?_
     all_goals simp[Region.wanted,yielded,execOp,Act.eval,Act.put,go_sem,c0]
    case refine_5=>
     have c5:=(HST.out.later hbx').box5.cell
     with_reducible refine Ad ?_ ?_
     all_goals simp[Region.wanted,yielded,execOp,Act.eval,Act.put,go_sem,c5]
    case refine_6=>
     (with_reducible refine Ac (w1:=w') (f := 121) (args:=#[.agg #[.slice pl nl cl],.agg #[.slice po no co]]) ?_ ?_ ?_)
     .simp only[Region.wanted]
     .simp[Act.eval,Act.put,go_sem]
     .refine(Mu (Fit.of (HST.out.later hbx').less HST.out.lim) (Fit.of (HST.out.later hbx').one (by decide:(1:Nat)<Ao 1)) (by omega) (by omega)).mono ?_;rintro en w5 ⟨u,rfl,hu,hb⟩;exact⟨u,rfl,hb,hu,Ae hbx' hb⟩
    case refine_7=>
     have k2:Fit (e*k+1+(e*k+1)) (Q*Q) (sp 2) w':=(hdp 2 (mq (by kernel_rfl))).2;have k5:Fit (e+1+1) (A+1) (sp 5) w':=(hdp 5 (mq (by kernel_rfl))).2
     (with_reducible refine Ac (w1:=w') (f := 34) (args:=#[sp 2,sp 5]) ?_ ?_ ?_)
     .simp only[Region.wanted]
     .simp[Act.eval,Act.put,go_sem]
     .refine(Cj k2 k5 HEK2.out (by omega) HK.out).mono ?_;rintro en w5 ⟨u,rfl,hu,hb⟩;exact⟨u,rfl,hb,hu,Ae hbx' hb⟩
    case refine_8=>
     have k6:(sp 6)=.int .i64 K:=(hdp 6 (mq (by kernel_rfl))).2
     with_reducible refine Ad ?_ ?_
     all_goals simp[Region.wanted,yielded,execOp,Act.eval,Act.put,go_sem,k6,hDD]
    all_goals ((with_reducible refine Ad ?_ ?_);all_goals first|(simp only[Region.wanted];done)|simp[Region.wanted,yielded,execOp,Act.eval,Act.put,go_sem])
   .intro sp w7 hsp hbx';have HBe:=Aa (Ae HST.out.bel hbx');clear hsp hbx' hDD;simp only[An,Nat.reduceAdd];generalize sp 2=y2,sp 5=y5,sp 6=y6 at *
    go_simp
    go_wp2;go_ret;exact⟨by rw[HA.out];rfl,HBe.out⟩
def nH (n:Nat):Prop:=n<18446744073709551616
open Go Go.RowKit Go.Deep Go.ChangeShapes Go.WideShapes
theorem Jw {w:World}{a:Option Addr}{len cap:Nat}{zs:List Int}(h:(a=none/\len=0/\cap=0/\zs=[]) ∨ ∃x,a=some x/\len<=cap/\cap<=maxLen/\zs.length=cap/\(∀i,i<zs.length->w.cell? (x.add i)=some (.int .u64 (zs.getD i 0)))/\∀n∈zs,(Lit.int .u64 n).wf=true) :
  Ci w .u64 a len cap (bytesIn zs len)/\∀x∈bytesIn zs len,nH x:=by
 rcases h with ⟨rfl,rfl,rfl,rfl⟩|⟨x,rfl,hl,hm,hz,hc,hw⟩
 .exact⟨⟨by simp[bytesIn],Av _,by omega,fun h=>absurd h (by omega)⟩,by simp[bytesIn]⟩
 .have hm':cap<=9223372036854775807:=by simpa [maxLen]using hm
  have hlen:len=(bytesIn zs len).length:=by simp[bytesIn];omega
  refine⟨⟨hlen,hl,hm',fun h0=>?_⟩,?_⟩
  .obtain⟨b,off,spot⟩:=x;have h1:=hc 0 (by omega);have hspot:spot=none:=by simpa [Addr.add]using World.cell?_spot h1
   subst hspot;have hadd:∀i,(⟨b,off,none⟩:Addr).add i=⟨b,off+i,none⟩:=add_plain b off;refine⟨hlen,hl,hm',.inr ⟨b,off,rfl,?_,fun i y hy=>?_⟩⟩
   .rw[hadd]at h1
    unfold World.cell? at h1;rcases Nat.lt_or_ge b w.heap.size with k|k
    .exact k
    .simp[Array.getElem?_eq_none k]at h1
   .simp only[bytesIn,List.getElem?_map,List.getElem?_take]at hy;split at hy
    .rename_i hi
     have hi2:i<zs.length:=by omega
     rw[List.getElem?_eq_getElem hi2]at hy
     simp only[Option.map_some,Option.some.injEq]at hy;have:=wf_u64 (hw zs[i] (List.getElem_mem _));rw[<-hadd,hc i hi2,<-hy,Ex,List.getElem?_eq_getElem hi2];simp only[Option.getD_some]
     congr 2
     omega
    .simp at hy
  .intro y hy;simp only[bytesIn,List.mem_map]at hy;obtain⟨z,hz',rfl⟩:=hy;have:=wf_u64 (hw z (List.mem_of_mem_take hz'));unfold nH;omega
instance:Inhabited Ce:=⟨⟨0,0,[]⟩⟩
structure Gy (w w':World):Prop where
 size:w'.heap.size=w.heap.size
 cell:∀a v,w.cell? a=some v->(∀p n c,v≠.slice p n c)->w'.cell? a=some v
theorem Gy.trans {a b c:World}(h:Gy a b)(k:Gy b c):Gy a c:=⟨k.size.trans h.size,fun x v hx hn=>k.cell x v (h.cell x v hx hn) hn⟩
theorem Gy.set {w:World}{a:Addr}{p:Option Addr}{n c:Nat}(h:w.cell? a=some (.slice p n c))(u:Value):Gy w (w.setCell a u) :=
 ⟨by simp,fun x v hx hn=>by
  rw[World.cell?_setCell_other w a x u (fun e=>by subst e;rw[h]at hx;cases hx;exact hn _ _ _ rfl)];exact hx⟩
structure pA (At:World->Option Addr->Nat->Nat->Nat->Prop):Prop where
 below:∀ {w w' p n c N},At w p n c N->Below w.heap.size w w'->At w' p n c N
 kept:∀ {w w' p n c N},At w p n c N->Gy w w'->At w' p n c N
theorem Pd:pA Bt:=⟨fun h hb=>h.below hb,fun {w w' p n c N} h hk=>by
 refine⟨h.len,h.cap,h.max,?_⟩;rcases h.at_ with k|⟨b,off,k1,k2,k3⟩
 .exact .inl k
 .exact .inr ⟨b,off,k1,by rw[hk.size];exact k2,fun i x hx=>hk.cell _ _ (k3 i x hx) (fun _ _ _ e=>by cases e)⟩⟩
structure Qf (t:TypeId) (w:World) (b:Nat) (v0 v1 v2:Value):Prop where
 at_:w.heap[b]? = some (.cells #[v0,v1,v2] t (0,0))
theorem Qf.lt {t:TypeId}{w:World}{b:Nat}{v0 v1 v2:Value}(h:Qf t w b v0 v1 v2):b<w.heap.size:=(Hy h.at_).1
theorem Qf.below {t:TypeId}{w w':World}{B b:Nat}{v0 v1 v2:Value}(h:Qf t w b v0 v1 v2)(hb:Below B w w')(hB:b<B):Qf t w' b v0 v1 v2:=⟨by rw[hb.block b hB];exact h.at_⟩
theorem Qf.cells {t:TypeId}{w:World}{b:Nat}{v0 v1 v2:Value}(h:Qf t w b v0 v1 v2):w.cell? ⟨b,0,none⟩=some v0/\w.cell? ⟨b,1,none⟩=some v1/\w.cell? ⟨b,2,none⟩=some v2:=by
 have:=h.at_
 simp[World.cell?,this]
theorem Qf.made (t:TypeId)(w:World)(v0 v1 v2:Value):Qf t (w.alloc (.cells #[v0,v1,v2] t)) w.heap.size v0 v1 v2:=⟨heap_alloc_new w _⟩
section
variable {At:World->Option Addr->Nat->Nat->Nat->Prop} {mk:Option Addr->Nat->Nat->Value} {t:TypeId} {w0:World} {N B:Nat} {d2 d5 d6 d7:Bool} {v2 v5 v6 v7:Value} {w:World}
end
theorem Mo {N Bs:Nat}{ps bs:List Nat}(hN:2<=N):Gw N Bs ps bs ↔ Jn bs ps/\((∀p∈ps,(N-1)%p=0)/\N-1+1<Tw (N-1) ps*Tw (N-1) ps)/\(Bs^(N-1)%N=1/\∀p∈ps,Nat.gcd ((Bs^((N-1)/p)%N+N-1)%N) N=1):=by
 rw[show N-1+1=N by omega];constructor
 .intro h;have hm:∀p∈ps,∃i,mU N Bs bs ps i p:=fun p hp=>by
   obtain⟨i,hi⟩:=List.getElem?_of_mem hp;exact⟨i,h.each i p hi⟩
  refine⟨⟨h.some,h.few,fun i p hp=>?_⟩,⟨fun p hp=>?_,h.great⟩,h.one,fun p hp=>?_⟩
  .have:=h.each i p hp;refine⟨?_,this.1⟩;rcases this.2.1 with k|k
   .exact .inl k
   .exact .inr ⟨this.2.2.1,k⟩
  .obtain⟨i,hi⟩:=hm p hp;exact hi.2.2.2.1
  .obtain⟨i,hi⟩:=hm p hp;exact hi.2.2.2.2
 .rintro⟨h1,h2,h3⟩;refine⟨hN,h1.1,h1.2.1,fun i p hp=>?_,h3.1,h2.2⟩;have hk:=h1.2.2 i p hp;have hm:=List.mem_of_getElem? hp;refine⟨hk.2,?_,?_,h2.1 p hm,h3.2 p hm⟩
  .rcases hk.1 with k|k
   .exact .inl k
   .exact .inr k.2
  .rcases hk.1 with k|k
   .exact k.1
   .exact k.1
theorem Ve {bs ps:List Nat}(h:Jn bs ps):∀p∈ps,2<=p:=fun p hp=>by
 obtain⟨i,hi⟩:=List.getElem?_of_mem hp;rcases(h.2.2 i p hi).1 with k|k
 .exact k.1
 .exact k.1
open Classical in
theorem oI (e:Nat)(he:e<=100):∀(w:World) (N B:Nat) (p0:Option Addr) (n0 c0:Nat) (p1:Option Addr) (n1 c1:Nat) (pp:Option Addr) (np cp:Nat) (ps:List Nat) (pb:Option Addr) (nb cb:Nat) (bs:List Nat),
  Ai w p0 n0 c0 N->N<Ao e->Ai w p1 n1 c1 B->B<Ao e->Aw w e pp np cp ps->Aw w e pb nb cb bs->np<=1000->nb<=1000 ->
  Calls Tryz.prog 222 #[.agg #[.slice p0 n0 c0,.slice p1 n1 c1,.slice pp np cp],.slice pb nb cb] w fun en w'=>en=.returned (.bool (decide (Gw N B ps bs)))/\Below w.heap.size w w':=by
 intro w N Bs p0 n0 c0 p1 n1 c1 pp np cp ps pb nb cb bs hN hNl hB hBl hp hb hnp hnb;have hbx:Below w.heap.size w (w.alloc (.cells #[.slice p0 n0 c0,.slice p1 n1 c1,.slice pp np cp] 182)):=Dl;have HBX3:=Aa (Qf.made 182 w (.slice p0 n0 c0) (.slice p1 n1 c1) (.slice pp np cp));obtain⟨wa,hwa⟩:∃wa,w.alloc (.cells #[.slice p0 n0 c0,.slice p1 n1 c1,.slice pp np cp] 182)=wa:=⟨_,rfl⟩
 rw[hwa]at hbx HBX3
 have HNF:=Aa ((Fit.of hN hNl).below hbx);have HBF:=Aa ((Fit.of hB hBl).below hbx);have HP:=Aa (hp.below hbx);have HBe:=Aa (hb.below hbx);have HLP:=Aa hp.len;have HX:=Aa hbx;obtain⟨ANS,hANS⟩:∃X,decide (Gw N Bs ps bs)=X:=⟨_,rfl⟩
 have HANS:=Aa hANS;rw[hANS];have hca:=HBX3.out.cells.1;clear hANS hN hNl hB hBl hp hb hbx;go_enter Tryz.func222,Tryz.ntmps222
 go_wp2_with fail
 refine(Jy HNF.out (by omega)).mono ?_;rintro en w1 ⟨hb1,⟨hlow,rfl⟩|⟨hN2,r,rfl,hR,_⟩⟩
 .have HF:Ab (ANS=false):=⟨by rw[<-HANS.out];exact decide_eq_false fun h=>by have:=h.two;omega⟩
  have HBe1:=Aa (Ae HX.out hb1);clear hb1 hca;go_wp2;go_ret;exact⟨by rw[HF.out];rfl,HBe1.out⟩
 have HR:=Aa hR;have HB1:=Aa hb1;have HX1:=Aa (HBX3.out.below hb1 HBX3.out.lt);clear hb1 hR hca;go_wp2;refine Am (by kernel_rfl) (by kernel_rfl)
  [some (.pointer (some ⟨w.heap.size,0,none⟩)),some (.agg #[.slice p0 n0 c0]),none,none,none,none,some (.bool true),none,none,some (.bool true)]
  [false,false,true,true,true,true,false,true,true,false] rfl
  (fun w2 w3=>Ap w1.heap.size w2 w3)
  (fun D sp w'=>Below w1.heap.size w1 w'/\(D 7=true->Kw (sp 7) w1.heap.size (N-1) (D 8) w'))
  (fun i v w'=>match i with
   | 2=>Fit 1 1 v w'
   | 3=>Gi (N-1) v w'
   | 4=>Gi (N-1) v w'
   | 5=>Dk (N-1) v w'
   | _=>True)
  ?_ ⟨(Br _ _).drew,(fun a=>by cases a)⟩ ?_ ?_
 .intro i v w2 w3 hf hb;split at hf
  .exact Fit.keep hf hb
  .exact Gi.keep hf hb
  .exact Gi.keep hf hb
  .exact Dk.keep hf hb
  .trivial
 .simp only[Bw,Nat.reduceAdd];refine⟨?_,?_,?_,?_,?_,?_,?_,?_,?_,?_,trivial⟩
  case refine_2=>
   intro D sp w' hD hW hdp hg;have c0:=(HX1.out.below hg.1 HX1.out.lt).cells.1;simp[asked,Region.wanted,Oper.gives,execOp,Act.eval,Act.put,go_sem,c0]
  case refine_3=>
   intro D sp w' hD hW hdp hg
   (with_reducible refine Ac (w1:=w') (f := 21) (args:=#[.int .u64 1]) ?_ ?_ ?_)
   .simp only[Region.wanted]
   .simp[Act.eval,Act.put,go_sem]
   .refine(Ek w').mono ?_;rintro en w5 ⟨u,rfl,hu,hb⟩;exact⟨u,rfl,Ap.of hb hg.1.size,hu,Ae hg.1 hb,by simpa [upd]using fun a=>(hg.2 a).later hb⟩
  case refine_4=>
   intro D sp w' hD hW hdp hg;have k2:Fit 1 1 (sp 2) w':=(hdp 2 (mq (by kernel_rfl))).2
   (with_reducible refine Ac (w1:=w') (f := 130) (args:=#[.agg #[.slice p0 n0 c0],sp 2]) ?_ ?_ ?_)
   .simp only[Region.wanted]
   .simp[Act.eval,Act.put,go_sem]
   .refine(Ut ((HNF.out.below HB1.out).below hg.1) k2 (by omega) (by omega) (by omega)).mono ?_;rintro en w5 ⟨u,rfl,hu,hb⟩;exact⟨u,rfl,Ap.of hb hg.1.size,hu,Ae hg.1 hb,by simpa [upd]using fun a=>(hg.2 a).later hb⟩
  case refine_5=>
   intro D sp w' hD hW hdp hg;have k3:Gi (N-1) (sp 3) w':=(hdp 3 (mq (by kernel_rfl))).2
   (with_reducible refine Ah (w1:=w') (v:=sp 3) ?_ ?_ ?_)
   .simp only[Region.wanted]
   .simp[execOp,Act.eval,Act.put,go_sem]
   .exact⟨Ap.same _ _,k3,hg.1,by simpa [upd]using hg.2⟩
  case refine_6=>
   intro D sp w' hD hW hdp hg;have hx:∃p n c,sp 4=.tuple #[.agg #[.slice p n c],.bool true]/\Ai w' p n c (N-1):=(hdp 4 (mq (by kernel_rfl))).2
   (with_reducible refine Bp hx fun p hx1=>Bp hx1 fun n hx2=>Bp hx2 fun c hx3=>?_)
   have h1:=hx3.1
   (with_reducible refine Ah (w1:=w') (v:=.agg #[.slice p n c]) ?_ ?_ ?_)
   .simp only[Region.wanted]
   .simp[execOp,Act.eval,Act.put,go_sem,h1]
   .exact⟨Ap.same _ _,⟨p,n,c,rfl,hx3.2⟩,hg.1,by simpa [upd]using hg.2⟩
  case refine_7=>
   intro D sp w' hD hW hdp hg;have hx:∃p n c,sp 4=.tuple #[.agg #[.slice p n c],.bool true]/\Ai w' p n c (N-1):=(hdp 4 (mq (by kernel_rfl))).2
   (with_reducible refine Bp hx fun p hx1=>Bp hx1 fun n hx2=>Bp hx2 fun c hx3=>?_)
   have h1:=hx3.1;simp[asked,Region.wanted,Oper.gives,execOp,Act.eval,Act.put,go_sem,h1]
  case refine_8=>
   intro D sp w' hD hW hdp hg;have h8:D 8=false:=hW 8 (mq (by kernel_rfl))
   (with_reducible refine Ah (w1:=w'.alloc (.cells #[.slice none 0 0] 36)) (v:=.pointer (some ⟨w'.heap.size,0,none⟩)) ?_ ?_ ?_)
   .simp only[Region.wanted]
   .simp[execOp,go_sem]
   .have hb:Below w'.heap.size w' (w'.alloc (.cells #[.slice none 0 0] 36)):=Dl;refine⟨Ap.of hb hg.1.size,trivial,Ae hg.1 hb,fun _=>?_⟩;have:=Kw.made w' hg.1.size (N-1);simpa [upd,h8]using this
  case refine_9=>
   intro D sp w' hD hW hdp hg;have hx:∃p n c,sp 5=.agg #[.slice p n c]/\Ai w' p n c (N-1):=(hdp 5 (mq (by kernel_rfl))).2;have hy:∃b,sp 7=.pointer (some ⟨b,0,none⟩)/\w1.heap.size<=b/\∃p n c,Af w' b (.slice p n c)/\(D 8=true->Ai w' p n c (N-1)):=hg.2 (hdp 7 (mq (by kernel_rfl))).1
   (with_reducible refine Bp hx fun p hx1=>Bp hx1 fun n hx2=>Bp hx2 fun c hx3=>Bp hy fun bb hy1=>?_)
   have hlo:=hy1.2.1
   (with_reducible refine Bp hy1.2.2 fun p2 hy2=>Bp hy2 fun n2 hy3=>Bp hy3 fun c2 hy4=>?_)
   have g1:=hx3.1;have g2:=hy1.1;have hbx0:=hy4.1;have g3:=hbx0.cell;have g4:=hbx0.free
   (with_reducible refine Ar (w1:=w'.setCell ⟨bb,0,none⟩ (.slice p n c)) ?_ ?_ ?_)
   .simp only[Region.wanted]
   .simp[execOp,Act.eval,Act.put,go_sem,g1,g2,g3,g4]
   .exact⟨Ap.store hbx0 hlo _,trivial,hg.1.setCell hlo _,fun _=>⟨bb,by simpa [upd]using g2,hlo,p,n,c,hbx0.set _,fun _=>hx3.2.store hbx0 _⟩⟩
  all_goals
   intro D sp w' hD hW hdp hg;simp[asked,Region.wanted,Oper.gives,execOp,Act.eval,Act.put,go_sem]
 .intro sp w2 hsp hg;obtain⟨b7,e7,lo7,p7,n7,c7,x7,v7⟩:=hg.2 rfl;replace v7:=v7 rfl;have HB2:=Aa (Ae HB1.out hg.1);have HX2:=Aa (HX1.out.below hg.1 HX1.out.lt);have HR2:=Aa (HR.out.below hg.1);have HX7:=Aa x7;have HL7:=Aa (Fit.of v7 (Nat.lt_of_le_of_lt (Nat.sub_le N 1) HNF.out.lim));clear hsp hg x7 v7;simp only[An,Nat.reduceAdd];rw[e7];clear e7;generalize sp 2=y2,sp 3=y3,sp 4=y4,sp 5=y5,sp 8=y8 at *
  go_simp
  have d2:=HX2.out.cells.2.2;obtain⟨S1,hS1⟩:∃X,decide (Jn bs ps)=X:=⟨_,rfl⟩
  have HS1:=Aa hS1;clear hS1
  go_wp2_with fail
  refine(Tj (HP.out.below HB2.out) (HBe.out.below HB2.out) (by omega)).mono ?_;rintro en w3 ⟨rfl,hb3⟩;rw[HS1.out];have HX3:=Aa (HX2.out.below hb3 HX2.out.lt);have HB3:=Aa (Ae HB2.out hb3);have HR3:=Aa (HR2.out.below hb3);have HX73:=Aa (HX7.out.below hb3 HX7.out.lt);have HL73:=Aa (HL7.out.below hb3);clear hb3 d2
  cases S1 with
  | false=>
   have HF:Ab (ANS=false):=⟨by rw[<-HANS.out];exact decide_eq_false fun h=>(of_decide_eq_false HS1.out) ((Mo hN2).1 h).1⟩
   have HE:=Aa (Ae HX.out HB3.out);go_wp2;go_ret;exact⟨by rw[HF.out];rfl,HE.out⟩
  | true=>
   have HK:Ab (Jn bs ps):=⟨of_decide_eq_true HS1.out⟩
   obtain⟨S2,hS2⟩:∃X,decide ((∀p∈ps,(N-1)%p=0)/\N-1+1<Tw (N-1) ps*Tw (N-1) ps)=X:=⟨_,rfl⟩
   have HS2:=Aa hS2;clear hS2;have d2:=HX3.out.cells.2.2;have d7:=HX73.out.cell
   go_wp2_with fail
   refine(Xc HL73.out (HP.out.below HB3.out) he (by omega) (Ve HK.out) hnp).mono ?_;rintro en w4 ⟨rfl,hb4⟩;rw[HS2.out];have HX4:=Aa (HX3.out.below hb4 HX3.out.lt);have HB4:=Aa (Ae HB3.out hb4);have HR4:=Aa (HR3.out.below hb4);have HX74:=Aa (HX73.out.below hb4 HX73.out.lt);have HL74:=Aa (HL73.out.below hb4);clear hb4 d2 d7
   cases S2 with
   | false=>
    have HF:Ab (ANS=false):=⟨by rw[<-HANS.out];exact decide_eq_false fun h=>(of_decide_eq_false HS2.out) ((Mo hN2).1 h).2.1⟩
    have HE:=Aa (Ae HX.out HB4.out);go_wp2;go_ret;exact⟨by rw[HF.out];rfl,HE.out⟩
   | true=>
    obtain⟨S3,hS3⟩:∃X,decide (Bs^(N-1)%N=1/\∀p∈ps,Nat.gcd ((Bs^((N-1)/p)%N+N-1)%N) N=1)=X:=⟨_,rfl⟩
    have HS3:=Aa hS3;have HF:Ab (ANS=S3):=⟨by
     rw[<-HANS.out,<-hS3];exact decide_eq_decide.2 ⟨fun h=>((Mo hN2).1 h).2.2,fun h=>(Mo hN2).2 ⟨HK.out,of_decide_eq_true HS2.out,h⟩⟩⟩
    clear hS3;have d1:=HX4.out.cells.2.1;have d2:=HX4.out.cells.2.2;have d7:=HX74.out.cell
    go_wp2_with fail
    refine(Yt HR4.out (HBF.out.below HB4.out) HL74.out (HP.out.below HB4.out) he (Ve HK.out)).mono ?_;rintro en w5 ⟨rfl,hb5⟩;rw[HS3.out];have HE:=Aa (Ae HX.out (Ae HB4.out hb5));clear hb5 d1 d2 d7;go_wp2;go_ret;exact⟨by rw[HF.out];rfl,HE.out⟩
end Go.Proofs.YtnbmfaihlefgfaaGreatDoor
