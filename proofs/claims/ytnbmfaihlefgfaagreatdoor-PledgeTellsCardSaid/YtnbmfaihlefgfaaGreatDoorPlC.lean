/- Products of pledges, place by place (pledge.Join). -/
import Derived.Test.YtnbmfaihlefgfaaGreatDoorPlA
set_option maxRecDepth 1000000
set_option maxHeartbeats 16000000
set_option linter.all false
namespace Go.Proofs.YtnbmfaihlefgfaaGreatDoor
open Go Go.RowKit Go.Proofs.YtnbmfaihlefgfaaGreatDoor.Flow
theorem Xu {w:World}{b P Q GG HH e ex n c X N:Nat}{p:Option Addr}{As:List Nat}{v:Value}(hG:Bb w b P Q GG HH)(hA:Bd w e p n c As)(hX:Fit ex X v w)(he:e<=200)(hex:ex<=200)(hn:n<=1000000)(hN:Gm P (X%Q) As=N) :
  Calls Tryz.prog 69 #[.pointer (some ⟨b,0,none⟩),.slice p n c,v] w fun en w'=>∃x,en=.returned x/\Fit 33 N x w'/\Below w.heap.size w w':=by
 obtain⟨px,nx,cx,rfl,x1,x2⟩:=Au hX;have hbx:=fW.mk2 w (.slice px nx cx) (.slice none 0 0);have HE:=Aa (eZ (hG.below hbx.bel) (hA.below hbx.bel) ((Fit.of x1 x2).below hbx.bel) he hex hn hN);have HBX:=Aa hbx;have c0:=hbx.b0.cell;clear hG hA hX x1 hbx;go_enter Tryz.func69,Tryz.ntmps69
 go_wp2_with fail
 refine HE.out.mono ?_;rintro en w1 ⟨_,rfl,⟨p1,n1,c1,rfl,h1,l1⟩,hb1⟩;have hx3:=HBX.out.later hb1;have k1:=hx3.b1.cell;have f1:=hx3.b1.free;have HF:=Aa (Fit.of (h1.store hx3.b1 (.slice p1 n1 c1)) l1);have HBF:Ac (Below w.heap.size w (w1.setCell ⟨w.heap.size+1,0,none⟩ (.slice p1 n1 c1))):=⟨hx3.bel.setCell (by simp) _⟩
 clear h1 hx3 hb1 HE HBX c0;go_wp2;exact bodyPost_ret (v:=.agg #[.slice p1 n1 c1]) (by simp[results,Tryz.results69,go_sem,k1]) rfl ⟨_,rfl,HF.out,HBF.out⟩
theorem Op {w:World}{b P Q GG HH e es er ex n c S R X NL NE:Nat}{p:Option Addr}{Cs:List Nat}{vx vs vr:Value}{ANS:Bool}(hg:Bb w b P Q GG HH)(hC:Bd w e p n c Cs)(hx:Fit ex X vx w)(hs:Fit es S vs w)(hr:Fit er R vr w)(he:e<=200)(hex:ex<=200)(hes:es<=200)(her:er<=200)(hn:n<=1000000)(hNL:Cx P Q GG HH S R=NL)(hNE:Gm P (X%Q) Cs=NE)(hA:decide (NL=NE)=ANS) :
  Calls Tryz.prog 73 #[.pointer (some ⟨b,0,none⟩),.slice p n c,vx,vs,vr] w fun en w'=>∃x,en=.returned x/\x=.bool ANS/\Below w.heap.size w w':=by
 obtain⟨px,nx,cx,rfl,h5,h6⟩:=Au hx;obtain⟨ps,ns,cs,rfl,h1,h2⟩:=Au hs;obtain⟨pr,nr,cr,rfl,h3,h4⟩:=Au hr;have hbx:=aD.mk3 w (.slice px nx cx) (.slice ps ns cs) (.slice pr nr cr);have q0:=hbx.b0;have q1:=hbx.b1;have q2:=hbx.b2;have hbl:=hbx.bel;obtain⟨wa,hwa⟩:∃wa,(((w.alloc (.cells #[.slice px nx cx] 36)).alloc (.cells #[.slice ps ns cs] 36)).alloc (.cells #[.slice pr nr cr] 36))=wa:=⟨_,rfl⟩
 rw[hwa]at q0 q1 q2 hbl
 have HXV:=Aa q0;have HXS:=Aa q1;have HXR:=Aa q2;have HB0:=Aa hbl;have HV:=Aa ((Fit.of h5 h6).below hbl);have HS:=Aa ((Fit.of h1 h2).below hbl);have HR:=Aa ((Fit.of h3 h4).below hbl);have HG:=Aa (hg.below hbl);have HC:=Aa (hC.below hbl);obtain⟨KC,hKC⟩:∃K,Bm NL NE=K:=⟨_,rfl⟩
 have hE:((KC:Int)==0)=ANS:=by
  rw[<-hA,<-hKC,Bool.eq_iff_iff,beq_iff_eq,decide_eq_true_eq];exact Bv
 have HKC:=Aa hKC;have HNL:=Aa hNL;have HNE:=Aa hNE;clear hKC hNL hNE hA h1 h2 h3 h4 h5 h6 hbx q0 q1 q2 hbl hg hs hr hx hC;go_enter Tryz.func73,Tryz.ntmps73;go_wp2;refine Aj (by kernel_rfl) (by kernel_rfl)
  [some (.pointer (some ⟨b,0,none⟩)),some (.bool true),some (.bool true),some (.pointer (some ⟨b,0,none⟩)),some (.agg #[.slice ps ns cs]),some (.agg #[.slice pr nr cr]),none,some (.pointer (some ⟨b,0,none⟩)),some (.slice p n c),some (.agg #[.slice px nx cx]),none,none,some (.bool ANS),some (.bool ANS),some (.bool ANS)]
  [false,false,false,false,false,false,true,false,false,false,true,true,false,false,false] rfl
  (fun w1 w2=>Below w1.heap.size w1 w2)
  (fun _ w'=>Below wa.heap.size wa w')
  (fun i v w'=>match i with
   | 6=>Fit 33 (NL) v w'
   | 10=>Fit 33 (NE) v w'
   | 11=>v=.int .i64 KC
   | _=>True)
  ?_ (Bg _ _).drew ?_ ?_
 .intro i v w1 w2 hf hb;split at hf
  .exact hf.below hb
  .exact hf.below hb
  .exact hf
  .trivial
 .simp only[Bh,Nat.reduceAdd];refine⟨?_,?_,?_,?_,?_,?_,?_,?_,?_,?_,?_,?_,?_,?_,?_,trivial⟩
  all_goals intro D sp w' hD hW hdp hbx'
  case refine_5=>
   have c0:=(HXS.out.below hbx' HXS.out.lt).cell
   with_reducible refine Ad ?_ ?_
   all_goals simp[Region.wanted,yielded,execOp,Act.eval,Act.put,go_sem,c0]
  case refine_6=>
   have c0:=(HXR.out.below hbx' HXR.out.lt).cell
   with_reducible refine Ad ?_ ?_
   all_goals simp[Region.wanted,yielded,execOp,Act.eval,Act.put,go_sem,c0]
  case refine_7=>
   (with_reducible refine Ab (w1:=w') (f := 78) (args:=#[.pointer (some ⟨b,0,none⟩),.agg #[.slice ps ns cs],.agg #[.slice pr nr cr]]) ?_ ?_ ?_)
   .simp[Region.wanted,yielded,Act.put,go_sem]
   .simp[Act.eval,Act.put,go_sem]
   .refine(Ng (HG.out.below hbx') (HS.out.below hbx') (HR.out.below hbx') (by omega) (by omega)).mono ?_;rintro en w9 ⟨u,rfl,hu,hb⟩;rw[HNL.out]at hu
    exact⟨u,rfl,hb,hu,Ae hbx' hb⟩
  case refine_10=>
   have c0:=(HXV.out.below hbx' HXV.out.lt).cell
   with_reducible refine Ad ?_ ?_
   all_goals simp[Region.wanted,yielded,execOp,Act.eval,Act.put,go_sem,c0]
  case refine_11=>
   (with_reducible refine Ab (w1:=w') (f := 69) (args:=#[.pointer (some ⟨b,0,none⟩),.slice p n c,.agg #[.slice px nx cx]]) ?_ ?_ ?_)
   .simp[Region.wanted,yielded,Act.put,go_sem]
   .simp[Act.eval,Act.put,go_sem]
   .refine(Xu (HG.out.below hbx') (HC.out.below hbx') (HV.out.below hbx') (by omega) (by omega) (by omega) HNE.out).mono ?_;rintro en w9 ⟨u,rfl,hu,hb⟩;exact⟨u,rfl,hb,hu,Ae hbx' hb⟩
  case refine_12=>
   have k6:Fit 33 (NL) (sp 6) w':=(hdp 6 (mq (by kernel_rfl))).2;have k10:Fit 33 (NE) (sp 10) w':=(hdp 10 (mq (by kernel_rfl))).2
   (with_reducible refine Ab (w1:=w') (f := 34) (args:=#[sp 6,sp 10]) ?_ ?_ ?_)
   .simp[Region.wanted,yielded,Act.put,go_sem]
   .simp[Act.eval,Act.put,go_sem]
   .refine(Bk k6 k10 (by decide) (by decide) HKC.out).mono ?_;rintro en w9 ⟨_,rfl,rfl,hb⟩;exact⟨_,rfl,hb,rfl,Ae hbx' hb⟩
  case refine_13=>
   have k11:(sp 11)=.int .i64 KC:=(hdp 11 (mq (by kernel_rfl))).2
   with_reducible refine Ad ?_ ?_
   all_goals simp[Region.wanted,yielded,execOp,Act.eval,Act.put,go_sem,k11,hE]
  all_goals ((with_reducible refine Ad ?_ ?_);all_goals first|(simp only[Region.wanted];done)|simp[Region.wanted,yielded,execOp,Act.eval,Act.put,go_sem])
 .intro sp w9 hsp hbx';have HB9:=Aa (Ae HB0.out hbx');clear hsp hbx' hE;simp only[Am,Nat.reduceAdd];generalize sp 6=y6,sp 10=y10,sp 11=y11 at *
  go_simp
  go_wp2;go_ret;exact⟨_,rfl,rfl,HB9.out⟩
theorem Yt {w:World}{b P Q GG HH e es ex n c S X NL NE:Nat}{p:Option Addr}{Cs:List Nat}{vx vs:Value}{ANS:Bool}(hg:Bb w b P Q GG HH)(hC:Bd w e p n c Cs)(hx:Fit ex X vx w)(hs:Fit es S vs w)(he:e<=200)(hex:ex<=200)(hes:es<=200)(hn:n<=1000000)(hNL:Cx P Q GG HH S 0=NL)(hNE:Gm P (X%Q) Cs=NE)(hA:decide (NL=NE)=ANS) :
  Calls Tryz.prog 74 #[.pointer (some ⟨b,0,none⟩),.slice p n c,vx,vs] w fun en w'=>∃x,en=.returned x/\x=.bool ANS/\Below w.heap.size w w':=by
 obtain⟨px,nx,cx,rfl,h5,h6⟩:=Au hx;obtain⟨ps,ns,cs,rfl,h1,h2⟩:=Au hs;have hbx:=fW.mk2 w (.slice px nx cx) (.slice ps ns cs);have HE:=Aa (Op (hg.below hbx.bel) (hC.below hbx.bel) ((Fit.of h5 h6).below hbx.bel) ((Fit.of h1 h2).below hbx.bel) (Fit.of (Ah.nil _) (Ep 1)) he hex hes (by decide) hn hNL hNE hA);have HBX:=Aa hbx.bel;have c0:=hbx.b0.cell;have c1:=hbx.b1.cell;clear hg hC hx hs h1 h2 h5 h6 hbx hNL hNE hA;go_enter Tryz.func74,Tryz.ntmps74
 go_wp2_with fail
 refine HE.out.mono ?_;rintro en w1 ⟨_,rfl,rfl,hb1⟩;have HBF:=Aa (Ae HBX.out hb1);clear hb1 HE HBX c0 c1;go_wp2;go_ret;exact⟨_,rfl,rfl,HBF.out⟩
theorem Ih (w:World)(hr:Tabs w) :
  Calls Tryz.prog 59 #[] w fun e w'=>e=.returned (.bool true)/\Below w.heap.size w w':=by
 have HGR:=Aa (Gc w 0 hr);clear hr;go_enter Tryz.func59,Tryz.ntmps59
 go_wp2_with fail
 refine HGR.out.mono ?_;rintro en w1 ⟨b,rfl,hg,b1⟩;have hi:((IntKind.u64.wrap 0)%3).toNat=0:=by decide
 rw[hi]at hg
 have hb:=El 0 (by decide);obtain⟨P,hP⟩:∃q,gP 0=q:=⟨_,rfl⟩
 obtain⟨Q,hq⟩:∃q,gQ 0=q:=⟨_,rfl⟩
 obtain⟨GG,hgg⟩:∃q,gG 0=q:=⟨_,rfl⟩
 obtain⟨HH,hhh⟩:∃q,gH 0=q:=⟨_,rfl⟩
 rw[hP,hq,hgg,hhh]at hg
 rw[hP,hq,hgg,hhh]at hb
 have HN0:=Aa (Tw (P:=P) (Q:=Q) (G:=GG) (H:=HH) (by omega));have HN1:=Aa (iG (P:=P) (Q:=Q) (G:=GG) (H:=HH) (by omega) (by omega));have HG:=Aa hg;have B1:=Aa b1;clear hg b1 hi hb hP hq hgg hhh HGR
 go_wp2_with fail
 refine(Ng HG.out (Vx _) (Vx _) (by decide) (by decide)).mono ?_;rintro en w2 ⟨x2,rfl,h2,b2⟩;rw[HN0.out]at h2
 have H2:=Aa h2;have G2:=Aa (HG.out.below b2);have B2:=Aa (Ae B1.out b2);clear h2 b2
 go_wp2_with fail
 refine(Dt w2).mono ?_;rintro en w3 ⟨x3,rfl,h3,b3⟩;have H3:=Aa h3;have H2':=Aa (H2.out.below b3);have G3:=Aa (G2.out.below b3);have B3:=Aa (Ae B2.out b3);clear h3 b3
 go_wp2_with fail
 refine(Bk H2'.out H3.out (by decide) (by decide) (Bv.2 rfl)).mono ?_;rintro en w4 ⟨_,rfl,rfl,b4⟩;have G4:=Aa (G3.out.below b4);have B4:=Aa (Ae B3.out b4);clear b4
 go_wp2_with fail
 refine(Dt w4).mono ?_;rintro en w5 ⟨x5,rfl,h5,b5⟩;have H5:=Aa h5;have G5:=Aa (G4.out.below b5);have B5:=Aa (Ae B4.out b5);clear h5 b5
 go_wp2_with fail
 refine(Ng G5.out H5.out (Vx _) (by decide) (by decide)).mono ?_;rintro en w6 ⟨x6,rfl,h6,b6⟩;rw[HN1.out]at h6
 have H6:=Aa h6;have G6:=Aa (G5.out.below b6);have B6:=Aa (Ae B5.out b6);clear h6 b6
 go_wp2_with fail
 refine(bR G6.out).mono ?_;rintro en w7 ⟨x7,rfl,h7,b7⟩;have H7:=Aa h7;have H6':=Aa (H6.out.below b7);have B7:=Aa (Ae B6.out b7);clear h7 b7
 go_wp2_with fail
 refine(Bk H6'.out H7.out (by decide) (by decide) (Bv.2 rfl)).mono ?_;rintro en w8 ⟨_,rfl,rfl,b8⟩;have B8:=Aa (Ae B7.out b8);clear b8;go_wp2;go_ret;exact⟨rfl,B8.out⟩
structure mU (w:World) (e:Nat) (p:Option Addr) (n:Nat) (Ls:List (List Nat)):Prop where
 len:n=Ls.length
 at_:0<n->∃b off,p=some ⟨b,off,none⟩/\b<w.heap.size/\∀i L,Ls[i]? = some L->∃q m d,w.cell? ⟨b,off+i,none⟩=some (.slice q m d)/\Bd w e q m d L
theorem Eo.full {w:World}{B:Nat}{v:Value}{us:List (Option Addr×Nat×Nat)}(h:Eo w B v us)(h0:0<us.length) :
  ∃(g cap:Nat) (rest:List (Option Addr×Nat×Nat)),v=.slice (some ⟨g,0,none⟩) us.length cap/\B<=g/\Cz w g (us++rest)/\us.length+rest.length=cap/\cap<=9223372036854775807:=by
 rcases h.ex with ⟨_,rfl⟩|⟨g,cap,rest,h1,h2,h3,h4,h5⟩
 .simp at h0
 .exact⟨g,cap,rest,h1,h2,by unfold Cz;unfold Kf at h3;rw[List.map_append];exact h3,h4,h5⟩
theorem Eo.of_full {w:World}{B g cap:Nat}{us rest:List (Option Addr×Nat×Nat)}(hB:B<=g)(h:Cz w g (us++rest))(hl:us.length+rest.length=cap)(hm:cap<=9223372036854775807):Eo w B (.slice (some ⟨g,0,none⟩) us.length cap) us :=
 ⟨.inr ⟨g,cap,rest,rfl,hB,by unfold Kf;unfold Cz at h;rw[<-List.map_append];exact h,hl,hm⟩⟩
theorem Fk.keep {w w':World}{B e:Nat}{us:List (Option Addr×Nat×Nat)}{Ns:List Nat}(h:Fk w e us Ns)(k:An B w w'):Fk w' e us Ns :=
 ⟨h.len,fun i N hN=>let ⟨x,h1,h2,h3⟩:=h.at_ i N hN;⟨x,h1,k.nat _ _ _ _ h2,h3⟩⟩
theorem Fk.set {w:World}{e N i:Nat}{us:List (Option Addr×Nat×Nat)}{Ns:List Nat}{x:Option Addr×Nat×Nat}(h:Fk w e us Ns)(hx:Ht w x N)(hl:N<Ao e):Fk w e (us.set i x) (Ns.set i N):=by
 refine⟨by rw[List.length_set,List.length_set];exact h.len,fun j M hM=>?_⟩
 by_cases hj:j=i
 .subst hj;have hj2:j<Ns.length:=by have:=(List.getElem?_eq_some_iff.1 hM).1;simpa using this
  rw[List.getElem?_set_self hj2]at hM
  cases hM;exact⟨x,List.getElem?_set_self (by rw[h.len];exact hj2),hx,hl⟩
 .rw[List.getElem?_set_ne (by omega)]at hM
  obtain⟨y,h1,h2⟩:=h.at_ j M hM
  exact⟨y,by rw[List.getElem?_set_ne (by omega)];exact h1,h2⟩
theorem eY {w w':World}{B e N:Nat}{v u:Value}{us:List (Option Addr×Nat×Nat)}(hr:Eo w B v us)(hg:w.grownBy w' v.ownBlock)(h:Fit e N u w):Fit e N u w' :=
 let ⟨p,n,c,h1,h2,h3⟩:=h
 ⟨p,n,c,h1,Lq hr hg h2,h3⟩
theorem Pn {P N:Nat}:∀(Ls:List (List Nat)) (acc:List Nat),(∀L∈Ls,L.length<=N)->acc.length<=N->(Ee P Ls acc).length<=N
 | [],_,_,h=>h
 | L::Ls,acc,hl,h=>Pn Ls (Bj P acc L) (fun M hM=>hl M (List.mem_cons_of_mem _ hM)) (by rw[Dc];have:=hl L List.mem_cons_self;omega)
theorem dX {w:World}{b P Q GG HH e n c:Nat}{p:Option Addr}{Ls:List (List Nat)}(hg:Bb w b P Q GG HH)(hL:mU w e p n Ls)(he:e<=200)(hn:n<=1000)(hl:∀L∈Ls,L.length<=1000) :
  Calls Tryz.prog 66 #[.pointer (some ⟨b,0,none⟩),.slice p n c] w fun en w'=>∃q m d,en=.returned (.slice q m d)/\m=(Ee P Ls []).length/\Bd w' 33 q m d (Ee P Ls [])/\Below w.heap.size w w':=by
 have HG:=Aa hg;have HLs:=Aa hL;have HLn:=Aa hL.len;have HLl:=Aa hl;have HMl:Ac (∀k,(Ee P (Ls.take k) []).length<=1000):=⟨fun k=>Pn _ _ (fun L hL=>hl L (List.mem_of_mem_take hL)) (by simp)⟩
 have HP2:=Aa hg.lims.1;clear hg hL hl;go_enter Tryz.func66,Tryz.ntmps66;go_wp2
 go_loopw [5,7,8,9,14] (fun vc _ _ _ iv wr=>∃(k:Nat) (us:List (Option Addr×Nat×Nat)),k<=n/\iv=.int .i64 k/\Ac (Below w.heap.size w wr)/\Ac (Eo wr w.heap.size vc us)/\Ac (Fk wr 33 us (Ee P (Ls.take k) []))) (fun _ _ _ _ iv _=>n-(intOf iv).toNat)
 case atStart=>exact⟨0,[],by omega,rfl,⟨Bg _ _⟩,⟨Eo.nil _ _⟩,⟨Fk.nil _ _⟩⟩
 case round=>
  obtain⟨k,us,hk,rfl,HB,HS,HT⟩:=hrel
  by_cases hkn:k<n
  .obtain⟨L,hLk⟩:∃s,Ls[k]? = some s:=⟨Ls[k]'(by rw[<-HLn.out];exact hkn),List.getElem?_eq_getElem _⟩
   obtain⟨bb,off,rfl,hb,hc⟩:=HLs.out.at_ (by omega)
   obtain⟨px,m,cx,hc1,hc2⟩:=hc k L hLk;have hx:wr.cell? ⟨bb,off+k,none⟩=some (.slice px m cx):=(HB.out.cell (p:=⟨bb,off+k,none⟩) hb).trans hc1;have HPX:=Aa hc2;have HLm:=Aa hc2.len;have hm1:m<=1000:=by rw[hc2.len];exact HLl.out L (List.mem_of_getElem? hLk)
   obtain⟨acc,hacc⟩:∃l,Ee P (Ls.take k) []=l:=⟨_,rfl⟩
   have HACC:Ac (Ee P (Ls.take (k+1)) []=Bj P acc L):=⟨by rw[Ez hLk,Nj,hacc]⟩
   have HAL:Ac (acc.length<=1000):=⟨by rw[<-hacc];exact HMl.out k⟩
   rw[hacc]at HT
   have HT0:Ac (Fk wr 33 us (Bj P acc (L.take 0))):=⟨by rw[List.take_zero,Jn];exact HT.out⟩
   have hkn':(k:Int)<n:=by omega
   have hnk:¬n<=k:=by omega
   have hcap:m<=cx:=hc2.cap;have hcx:cx<=9223372036854775807:=hc2.max;clear hc hLk hb hc1 hc2 hacc;go_wp2;clear hx
   go_loopw [5,8,9,20] (fun vc _ _ iv wr=>∃(i:Nat) (us:List (Option Addr×Nat×Nat)),i<=m/\iv=.int .i64 i/\Ac (Below w.heap.size w wr)/\Ac (Eo wr w.heap.size vc us)/\Ac (Fk wr 33 us (Bj P acc (L.take i)))) (fun _ _ _ iv _=>m-(intOf iv).toNat)
   case atStart=>exact⟨0,us,by omega,rfl,HB,HS,HT0⟩
   case round=>
    clear HB HS HT HT0;obtain⟨i,us,hi,rfl,HB,HS,HT⟩:=hrel
    by_cases him:i<m
    .obtain⟨a,hai⟩:∃a,L[i]? = some a:=⟨L[i]'(by rw[<-HLm.out];exact him),List.getElem?_eq_getElem _⟩
     obtain⟨b2,off2,rfl,hb2,hc2⟩:=HPX.out.at_ (by omega)
     obtain⟨q1,m1,d1,ha1,ha2,ha3⟩:=hc2 i a hai;have hcy:wr.cell? ⟨b2,off2+i,none⟩=some (.slice q1 m1 d1):=(HB.out.cell (p:=⟨b2,off2+i,none⟩) hb2).trans ha1;have hba:Below wr.heap.size wr (wr.alloc (.cells #[.slice q1 m1 d1] 36)):=Cy;have hxa:=Af.made wr (.slice q1 m1 d1);obtain⟨wa,hwa⟩:∃wa,wr.alloc (.cells #[.slice q1 m1 d1] 36)=wa:=⟨_,rfl⟩
     rw[hwa]at hba hxa
     obtain⟨b9,hb9⟩:∃x,wr.heap.size=x:=⟨_,rfl⟩
     rw[hb9]at hxa
     have HBa:Ac (Below w.heap.size w wa):=⟨Ae HB.out hba⟩
     obtain⟨pv,cv,hv⟩:=HS.out.slice;obtain⟨n1,hn1⟩:∃l,us.length=l:=⟨_,rfl⟩
     rw[hn1]at hv
     subst hv;have HXA:=Aa hxa;have HFA0:=Aa ((Fit.of ha2 ha3).below HBa.out);have HSa:=Aa (HS.out.below hba);have HTa:=Aa (HT.out.below hba);have HOW:Ac (∀g,(Value.slice pv n1 cv).ownBlock=some g->g<b9):=⟨fun g h=>by rw[<-hb9];exact(HS.out.own h).2⟩
     have hlen:us.length=max acc.length i:=by rw[HT.out.len,Dc,List.length_take,<-HLm.out];omega
     have HUS:Ac (us.length<=100000):=⟨by have:=HAL.out;omega⟩
     have him':(i:Int)<m:=by omega
     have hmi:¬m<=i:=by omega
     by_cases hia:acc.length<=i
     .have hli:us.length=i:=by omega
      have hni1:i=n1:=by omega
      subst hni1;obtain⟨Z,hZ⟩:∃Z,1*a%P=Z:=⟨_,rfl⟩
      have HZ:=Aa hZ;have HNl:Ac ((Bj P acc (L.take i)).length=i):=⟨by rw[<-HT.out.len];exact hli⟩
      have HNS:Ac (Bj P acc (L.take (i+1))=(Bj P acc (L.take i)++[1]).set i Z):=⟨by
       rw[Ml P L acc i a hia hai,hZ,List.set_append_right _ _ (by rw[HNl.out];exact Av _),HNl.out,Nat.sub_self];rfl⟩
      have HLI:=Aa hli;have HSv:Ac (Eo wa w.heap.size (.slice pv i cv) us):=⟨HSa.out⟩
      have HOWv:Ac (∀g,(Value.slice pv i cv).ownBlock=some g->g<b9):=⟨HOW.out⟩
      clear hn1 hc2 hai ha1 ha2 hba hxa hb2 hlen hia hZ hli HB HS HT HSa HOW
      go_wp2_with fail
      refine(Dt wa).mono ?_;rintro en w3 ⟨_,rfl,⟨po,no,co,rfl,o1,o2⟩,b3⟩;have hb4:Below w3.heap.size w3 (w3.alloc (.cells #[.slice po no co] 36)):=Cy;have hx4:(w3.alloc (.cells #[.slice po no co] 36)).cell? ⟨w3.heap.size,0,none⟩=some (.slice po no co):=(Af.made w3 (.slice po no co)).cell;obtain⟨w4,hw4⟩:∃w4,w3.alloc (.cells #[.slice po no co] 36)=w4:=⟨_,rfl⟩
      rw[hw4]at hb4 hx4
      have hb34:=Ae b3 hb4;have hx9:=HXA.out.below hb34 HXA.out.lt;have hs4:=HSv.out.below hb34;have hsz:w.heap.size<=w4.heap.size:=(Ae HBa.out hb34).size;obtain⟨v9,w5,happ,hr5,hg5,hmv⟩:=hs4.app (x:=(po,no,co)) hx4 hsz HUS.out 32 (c:=1);have ht5:Fk w5 33 (us++[(po,no,co)]) (Bj P acc (L.take i)++[1]):=((HTa.out.below hb34).grown hs4 hg5).snoc (Lq hs4 hg5 (o1.below hb4)) (Dq o2 (Cc (by decide)));have hul:(us++[(po,no,co)]).length=i+1:=by rw[List.length_append,HLI.out];rfl
      obtain⟨gj,cj,rest,rfl,hbj,hsr,hcj,hmj⟩:=hr5.full (by rw[hul];omega);rw[hul]at happ hcj
      obtain⟨n2,hn2⟩:∃n2,i+1=n2:=⟨_,rfl⟩
      rw[hn2]at happ hcj hul
      have hgj:gj≠b9:=by
       rcases hmv with h1|h1
       .have:=HOWv.out gj h1.symm;omega
       .have:=h1 gj rfl;have h2:=hx9.lt;omega
      have hx5:w5.heap[b9]? = some (.cells #[.slice q1 m1 d1] 36 (0,0)):=by
       rw[hg5.block b9 hx9.lt fun e=>by have:=HOWv.out b9 e.symm;omega];exact hx9
      have HBc:Ac (Below w.heap.size w w5):=⟨(Ae HBa.out hb34).grown hg5 hsz (fun g hg=>(HSv.out.own hg).1)⟩
      obtain⟨ut,hut⟩:∃l,us++[(po,no,co)]=l:=⟨_,rfl⟩
      rw[hut]at ht5 hul hsr
      obtain⟨uz,huz⟩:∃l,ut++rest=l:=⟨_,rfl⟩
      rw[huz]at hsr
      have HUZ:=Aa huz;have HUL:=Aa hul;have HIN:Ac (i<n2):=⟨by omega⟩
      have HCJ:Ac (ut.length+rest.length=cj/\cj<=9223372036854775807):=⟨⟨by rw[hul];exact hcj,hmj⟩⟩
      have HSZ:Ac (Cz w5 gj uz):=⟨hsr⟩
      have HTc:=Aa ht5;have HBJ:=Aa hbj;have huk:uz[i]? = some (po,no,co):=by rw[<-huz,List.getElem?_append_left (by omega),<-hut,List.getElem?_append_right (by rw[HLI.out];exact Av _),HLI.out,Nat.sub_self];rfl
      obtain⟨uo,huo⟩:∃u:Option Addr×Nat×Nat,(po,no,co)=u:=⟨_,rfl⟩
      have HUK:Ac (uz[i]? = some uo):=⟨by rw[<-huo];exact huk⟩
      have HFO:Ac (Fit 33 1 (.agg #[.slice uo.1 uo.2.1 uo.2.2]) w5):=⟨by rw[<-huo];exact(Fit.of (Lq hs4 hg5 (o1.below hb4)) (Dq o2 (Cc (by decide))))⟩
      have HFA:=Aa (eY hs4 hg5 (HFA0.out.below hb34));have HGL:Ac (Pf w.heap.size w5 b P Q GG HH):=⟨Pf.of HG.out HBc.out (Av _)⟩
      have HBW:Ac (w.heap.size<=w5.heap.size):=⟨HBc.out.size⟩
      have HNE:Ac (∀y∈([(b9,.cells #[.slice q1 m1 d1] 36 (0,0))]:List (Nat×Obj)),y.1≠gj):=⟨fun y hy=>by
       simp only[List.mem_cons,List.not_mem_nil,or_false]at hy;subst hy;exact fun e=>hgj e.symm⟩
      have HLS:Ac (∀y∈([(b9,.cells #[.slice q1 m1 d1] 36 (0,0))]:List (Nat×Obj)),w5.heap[y.1]? = some y.2):=⟨fun y hy=>by
       simp only[List.mem_cons,List.not_mem_nil,or_false]at hy;subst hy;exact hx5⟩
      have hL2:¬n2<=i:=by omega
      obtain⟨wc,hwc⟩:∃wc,w5=wc:=⟨_,rfl⟩
      clear b3 hb4 hx4 hb34 hx9 hs4 hsz hr5 hg5 hmv ht5 hul hbj hsr hcj hmj hgj hx5 hut huz huk o1 huo
      go_wp2_with (at_builtin;refine Lib.wpList_append_run _ rfl _ _ _ _ rfl _ _ rfl rfl _ _ happ ?_;refine Sp.out ?_)
      refine⟨?_⟩;clear happ;subst hwc;go_wp2;refine Ak (by kernel_rfl) (by kernel_rfl)
       [some (.slice (some ⟨gj,0,none⟩) n2 cj),some (.int .i64 (i:Nat)),some (.pointer (some ⟨b,0,none⟩)),some (.slice (some ⟨gj,0,none⟩) n2 cj),some (.int .i64 (i:Nat)),some (.pointer (some ⟨gj,i,none⟩)),some (.agg #[.slice uo.1 uo.2.1 uo.2.2]),some (.agg #[.slice q1 m1 d1]),none,some (.pointer (some ⟨gj,i,none⟩)),none]
       [false,false,false,false,false,false,false,false,true,false,true] rfl
       (fun wA wB=>An (w.heap.size) wA wB)
       (fun D sp w'=>RG (w.heap.size) w5 [(b9,.cells #[.slice q1 m1 d1] 36 (0,0))] w'/\Wr (D 10) (gj) uz i (Z) w')
       (fun i v w'=>match i with
        | 8=>Fit 33 Z v w'
        | _=>True)
       ?_ ⟨RG.start HBW.out HLS.out,⟨fun _=>HSZ.out,fun e=>by cases e⟩⟩ ?_ ?_
      .intro i v wA wB hf hb;split at hf
       .exact hf.keep hb
       .trivial
      .simp only[Bf,Nat.reduceAdd];refine⟨?_,?_,?_,?_,?_,?_,?_,?_,?_,?_,?_,trivial⟩
       all_goals intro D sp w' hD hW hdp hg
       case refine_6|refine_10=>
        (with_reducible refine Ai (w1:=w') (v:=.pointer (some ⟨gj,i,none⟩)) ?_ ?_ ?_)
        .simp[Region.wanted,yielded,Act.put,go_sem]
        .simp[execOp,Act.eval,Act.put,go_sem,hL2]
        .exact⟨rfl,rfl⟩
       case refine_7=>
        have c0:=(hg.2.z (hW 10 (mq (by kernel_rfl)))).cell HUK.out
        with_reducible refine Ad ?_ ?_
        all_goals simp[Region.wanted,yielded,execOp,Act.eval,Act.put,go_sem,c0]
       case refine_8=>
        have c0:w'.cell? ⟨b9,0,none⟩=some (.slice q1 m1 d1):=Af.cell (hg.1.of List.mem_cons_self)
        with_reducible refine Ad ?_ ?_
        all_goals simp[Region.wanted,yielded,execOp,Act.eval,Act.put,go_sem,c0]
       case refine_9=>
        (with_reducible refine Ab (w1:=w') (f := 89) (args:=#[.pointer (some ⟨b,0,none⟩),.agg #[.slice uo.1 uo.2.1 uo.2.2],.agg #[.slice q1 m1 d1]]) ?_ ?_ ?_)
        .simp[Region.wanted,yielded,Act.put,go_sem]
        .simp[Act.eval,Act.put,go_sem]
        .refine(Kt (HGL.out.keep hg.1.keep).at_ (HFO.out.keep hg.1.keep) (HFA.out.keep hg.1.keep) (by decide) (by omega)).mono ?_;rintro en w9 ⟨u,rfl,hu,hb⟩;rw[HZ.out]at hu
         exact⟨u,rfl,An.of hb hg.1.base,hu,hg.1.later hb,by simpa [upd]using hg.2.later hb⟩
       case refine_11=>
        have hx:∃p n c,sp 8=.agg #[.slice p n c]/\Ah w' p n c (Z)/\Z<Ao (33):=(hdp 8 (mq (by kernel_rfl))).2
        (with_reducible refine Az hx fun p hx1=>Az hx1 fun n hx2=>Az hx2 fun c hx3=>?_)
        have h1:=hx3.1;rw[hD]at hg
        have hs:=hg.2.1 rfl;have h6:=hs.cell HUK.out;have h7:=hs.free i
        (with_reducible refine Ar (w1:=w'.setCell ⟨gj,i,none⟩ (.slice p n c)) ?_ ?_ ?_)
        .simp[Region.wanted,yielded,Act.put,go_sem]
        .simp[execOp,Act.eval,Act.put,go_sem,h1,h6,h7]
        .refine⟨An.store_row hs HBJ.out _ _,trivial,hg.1.store_row hs HBJ.out HNE.out _ _,?_⟩;have h8:=hg.2.put hx3.2.1;simpa [upd]using h8
       all_goals ((with_reducible refine Ad ?_ ?_);all_goals first|(simp only[Region.wanted];done)|simp[Region.wanted,yielded,execOp,Act.eval,Act.put,go_sem])
      .intro sp w9 hsp hg;obtain⟨hg1,hg2⟩:=hg;obtain⟨pz,nz,cz,hs8,hn8⟩:=hg2.o rfl;have hl8:Fit 33 Z (sp 8) w9:=hsp 8 rfl;rw[<-HUZ.out,List.set_append_left _ _ (by rw[HUL.out];exact HIN.out)]at hs8
       have HS9:Ac (Eo w9 w.heap.size (.slice (some ⟨gj,0,none⟩) n2 cj) (ut.set i (pz,nz,cz))):=⟨by
        have:=Eo.of_full (cap:=cj) HBJ.out hs8 (by rw[List.length_set];exact HCJ.out.1) HCJ.out.2
        rwa [List.length_set,HUL.out]at this⟩
       have HT9:Ac (Fk w9 33 (ut.set i (pz,nz,cz)) (Bj P acc (L.take (i+1)))):=⟨by
        rw[HNS.out];exact(HTc.out.keep hg1.keep).set hn8 hl8.lim⟩
       have HB9:Ac (Below w.heap.size w w9):=⟨HBc.out.trans hg1.keep.bel⟩
       clear hsp hg1 hg2 hs8 hn8 hl8;simp only[Am,Nat.reduceAdd];generalize sp 8=y8,sp 10=y10 at *
       go_simp
       go_wp2;go_roundw
       case rel=>exact⟨i+1,_,by omega,by go_num,HB9,HS9,HT9⟩
       case measure=>simp[intOf];omega
     .have hli:i<us.length:=by omega
      obtain⟨CC,hCC⟩:∃C,acc[i]? = some C:=⟨acc[i]'(by omega),List.getElem?_eq_getElem _⟩
      obtain⟨Z,hZ⟩:∃Z,CC*a%P=Z:=⟨_,rfl⟩
      have HZ:=Aa hZ;have HNS:Ac (Bj P acc (L.take (i+1))=(Bj P acc (L.take i)).set i Z):=⟨by rw[Rp P L acc i a CC hCC hai,hZ]⟩
      have hNi:(Bj P acc (L.take i))[i]? = some CC:=by rw[Gh P _ _ i (by rw[List.length_take];omega)];exact hCC
      obtain⟨uo,huo,ho2,ho3⟩:=HTa.out.at_ i CC hNi
      obtain⟨gj,cj,rest,e0,hbj,hsr,hcj,hmj⟩:=HSa.out.full (by omega);simp only[Value.slice.injEq]at e0;obtain⟨rfl,e5,e3⟩:=e0;clear e5;have e4:cj=cv:=e3.symm;subst e4;have hgj:gj≠b9:=by have:=HOW.out gj rfl;omega
      obtain⟨n2,hn2⟩:∃n2,n2=n1:=⟨_,rfl⟩
      subst hn2;have HUL:Ac (us.length=n2):=⟨hn1⟩
      obtain⟨ut,hut⟩:∃l,us=l:=⟨_,rfl⟩
      subst hut;obtain⟨uz,huz⟩:∃l,us++rest=l:=⟨_,rfl⟩
      rw[huz]at hsr
      have HUZ:=Aa huz;have HIN:Ac (i<n2):=⟨by omega⟩
      have HCJ:Ac (us.length+rest.length=cj/\cj<=9223372036854775807):=⟨⟨hcj,hmj⟩⟩
      have HSZ:Ac (Cz wa gj uz):=⟨hsr⟩
      have HTc:=Aa HTa.out;have HBJ:=Aa hbj;have HUK:Ac (uz[i]? = some uo):=⟨by rw[<-huz,List.getElem?_append_left (by omega)];exact huo⟩
      have HFO:Ac (Fit 33 CC (.agg #[.slice uo.1 uo.2.1 uo.2.2]) wa):=⟨Fit.of ho2 ho3⟩
      have HFA:=Aa HFA0.out;have HGL:Ac (Pf w.heap.size wa b P Q GG HH):=⟨Pf.of HG.out HBa.out (Av _)⟩
      have HBW:Ac (w.heap.size<=wa.heap.size):=⟨HBa.out.size⟩
      have HBc:=Aa HBa.out;have HNE:Ac (∀y∈([(b9,.cells #[.slice q1 m1 d1] 36 (0,0))]:List (Nat×Obj)),y.1≠gj):=⟨fun y hy=>by
       simp only[List.mem_cons,List.not_mem_nil,or_false]at hy;subst hy;exact fun e=>hgj e.symm⟩
      have HLS:Ac (∀y∈([(b9,.cells #[.slice q1 m1 d1] 36 (0,0))]:List (Nat×Obj)),wa.heap[y.1]? = some y.2):=⟨fun y hy=>by
       simp only[List.mem_cons,List.not_mem_nil,or_false]at hy;subst hy;exact HXA.out⟩
      have hL2:¬n2<=i:=by omega
      have hlq:((i:Int)==(n2:Int))=false:=by rw[beq_eq_false_iff_ne];omega
      have hlq2:¬(i:Int)=(n2:Int):=by omega
      clear hn1 hc2 hai ha1 ha2 hba hxa hb2 hlen hia hZ hli HB HS HT HSa HOW hCC hNi huo ho2 hbj hsr hcj hmj hgj huz HTa;go_wp2;clear hwa hb9 hcy;refine Ak (by kernel_rfl) (by kernel_rfl)
       [some (.slice (some ⟨gj,0,none⟩) n2 cj),some (.int .i64 (i:Nat)),some (.pointer (some ⟨b,0,none⟩)),some (.slice (some ⟨gj,0,none⟩) n2 cj),some (.int .i64 (i:Nat)),some (.pointer (some ⟨gj,i,none⟩)),some (.agg #[.slice uo.1 uo.2.1 uo.2.2]),some (.agg #[.slice q1 m1 d1]),none,some (.pointer (some ⟨gj,i,none⟩)),none]
       [false,false,false,false,false,false,false,false,true,false,true] rfl
       (fun wA wB=>An (w.heap.size) wA wB)
       (fun D sp w'=>RG (w.heap.size) wa [(b9,.cells #[.slice q1 m1 d1] 36 (0,0))] w'/\Wr (D 10) (gj) uz i (Z) w')
       (fun i v w'=>match i with
        | 8=>Fit 33 Z v w'
        | _=>True)
       ?_ ⟨RG.start HBW.out HLS.out,⟨fun _=>HSZ.out,fun e=>by cases e⟩⟩ ?_ ?_
      .intro i v wA wB hf hb;split at hf
       .exact hf.keep hb
       .trivial
      .simp only[Bf,Nat.reduceAdd];refine⟨?_,?_,?_,?_,?_,?_,?_,?_,?_,?_,?_,trivial⟩
       all_goals intro D sp w' hD hW hdp hg
       case refine_6|refine_10=>
        (with_reducible refine Ai (w1:=w') (v:=.pointer (some ⟨gj,i,none⟩)) ?_ ?_ ?_)
        .simp[Region.wanted,yielded,Act.put,go_sem]
        .simp[execOp,Act.eval,Act.put,go_sem,hL2]
        .exact⟨rfl,rfl⟩
       case refine_7=>
        have c0:=(hg.2.z (hW 10 (mq (by kernel_rfl)))).cell HUK.out
        with_reducible refine Ad ?_ ?_
        all_goals simp[Region.wanted,yielded,execOp,Act.eval,Act.put,go_sem,c0]
       case refine_8=>
        have c0:w'.cell? ⟨b9,0,none⟩=some (.slice q1 m1 d1):=Af.cell (hg.1.of List.mem_cons_self)
        with_reducible refine Ad ?_ ?_
        all_goals simp[Region.wanted,yielded,execOp,Act.eval,Act.put,go_sem,c0]
       case refine_9=>
        (with_reducible refine Ab (w1:=w') (f := 89) (args:=#[.pointer (some ⟨b,0,none⟩),.agg #[.slice uo.1 uo.2.1 uo.2.2],.agg #[.slice q1 m1 d1]]) ?_ ?_ ?_)
        .simp[Region.wanted,yielded,Act.put,go_sem]
        .simp[Act.eval,Act.put,go_sem]
        .refine(Kt (HGL.out.keep hg.1.keep).at_ (HFO.out.keep hg.1.keep) (HFA.out.keep hg.1.keep) (by decide) (by omega)).mono ?_;rintro en w9 ⟨u,rfl,hu,hb⟩;rw[HZ.out]at hu
         exact⟨u,rfl,An.of hb hg.1.base,hu,hg.1.later hb,by simpa [upd]using hg.2.later hb⟩
       case refine_11=>
        have hx:∃p n c,sp 8=.agg #[.slice p n c]/\Ah w' p n c (Z)/\Z<Ao (33):=(hdp 8 (mq (by kernel_rfl))).2
        (with_reducible refine Az hx fun p hx1=>Az hx1 fun n hx2=>Az hx2 fun c hx3=>?_)
        have h1:=hx3.1;rw[hD]at hg
        have hs:=hg.2.1 rfl;have h6:=hs.cell HUK.out;have h7:=hs.free i
        (with_reducible refine Ar (w1:=w'.setCell ⟨gj,i,none⟩ (.slice p n c)) ?_ ?_ ?_)
        .simp[Region.wanted,yielded,Act.put,go_sem]
        .simp[execOp,Act.eval,Act.put,go_sem,h1,h6,h7]
        .refine⟨An.store_row hs HBJ.out _ _,trivial,hg.1.store_row hs HBJ.out HNE.out _ _,?_⟩;have h8:=hg.2.put hx3.2.1;simpa [upd]using h8
       all_goals ((with_reducible refine Ad ?_ ?_);all_goals first|(simp only[Region.wanted];done)|simp[Region.wanted,yielded,execOp,Act.eval,Act.put,go_sem])
      .intro sp w9 hsp hg;obtain⟨hg1,hg2⟩:=hg;obtain⟨pz,nz,cz,hs8,hn8⟩:=hg2.o rfl;have hl8:Fit 33 Z (sp 8) w9:=hsp 8 rfl;rw[<-HUZ.out,List.set_append_left _ _ (by rw[HUL.out];exact HIN.out)]at hs8
       have HS9:Ac (Eo w9 w.heap.size (.slice (some ⟨gj,0,none⟩) n2 cj) (us.set i (pz,nz,cz))):=⟨by
        have:=Eo.of_full (cap:=cj) HBJ.out hs8 (by rw[List.length_set];exact HCJ.out.1) HCJ.out.2
        rwa [List.length_set,HUL.out]at this⟩
       have HT9:Ac (Fk w9 33 (us.set i (pz,nz,cz)) (Bj P acc (L.take (i+1)))):=⟨by
        rw[HNS.out];exact(HTc.out.keep hg1.keep).set hn8 hl8.lim⟩
       have HB9:Ac (Below w.heap.size w w9):=⟨HBc.out.trans hg1.keep.bel⟩
       clear hsp hg1 hg2 hs8 hn8 hl8;simp only[Am,Nat.reduceAdd];generalize sp 8=y8,sp 10=y10 at *
       go_simp
       go_wp2;go_roundw
       case rel=>exact⟨i+1,_,by omega,by go_num,HB9,HS9,HT9⟩
       case measure=>simp[intOf];omega
    .obtain rfl:i=m:=by omega
     have him':¬(i:Int)<i:=by omega
     have htk:L.take i=L:=List.take_of_length_le (by rw[<-HLm.out];exact Av _);have HT9:Ac (Fk wr 33 us (Ee P (Ls.take (k+1)) [])):=⟨by rw[HACC.out];rw[htk]at HT;exact HT.out⟩
     clear htk;go_wp2;go_roundw
     case rel=>exact⟨k+1,_,by omega,by go_num,HB,HS,HT9⟩
     case measure=>simp[intOf];omega
  .obtain rfl:k=n:=by omega
   have hkn':¬(k:Int)<k:=by omega
   have htk:Ls.take k=Ls:=List.take_of_length_le (by rw[<-HLn.out];exact Av _);rw[htk]at HT
   obtain⟨q,d,rfl,hp⟩:=HS.out.plist HT.out;have HP:=Aa hp;clear htk hp HS HT;go_wp2;go_ret;exact⟨q,_,d,rfl,rfl,HP.out,HB.out⟩
end Go.Proofs.YtnbmfaihlefgfaaGreatDoor
