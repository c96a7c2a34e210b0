/- Whether primes are enough, of the program. -/
import Derived.Test.YtokhckjemidbpaaGreatDoorCertK
import Derived.Deep.LoopGhost
set_option maxRecDepth 1000000
set_option maxHeartbeats 16000000
set_option linter.all false
namespace Go.Proofs.YtokhckjemidbpaaGreatDoor
open Go Go.RowKit Go.Proofs.YtokhckjemidbpaaGreatDoor.Flow
theorem Fit.tight {e f N:Nat}{v:Value}{w:World}(h:Fit e N v w)(hN:N<An f):Fit f N v w :=
 let ⟨p,n,c,h1,h2,_⟩:=h
 ⟨p,n,c,h1,h2,hN⟩
theorem pG {p n:Nat}(h:0<n)(f:Nat):0<pw p f n:=Nat.pos_of_dvd_of_pos (Wo p f n) h
theorem qF {p n:Nat}(h:0<n)(f:Nat):pw p f n<=n:=Nat.le_of_dvd h (Wo p f n)
structure mI (w wr:World) (e P b5 k Q:Nat) (pp:Option Addr) (np cp:Nat) (pa:Option Addr) (na ca:Nat) (pq:Option Addr) (nq cq:Nat):Prop where
 box0:Ae wr w.heap.size (.slice pa na ca)
 box1:Ae wr (w.heap.size+1) (.slice pp np cp)
 box2:Ae wr (w.heap.size+1+1) (.slice none 0 0)
 box5:Ae wr b5 (.slice pq nq cq)
 a:Ag wr pa na ca k
 p:Ag wr pp np cp P
 q:Ag wr pq nq cq Q
 limk:k<An e
 limp:P<An e
 limq:Q<An e
 pos:0<k
 ne:w.heap.size+3<=b5
 bel:Below w.heap.size w wr
theorem mI.later {w wr w1:World}{e P b5 k Q:Nat}{pp:Option Addr}{np cp:Nat}{pa:Option Addr}{na ca:Nat}{pq:Option Addr}{nq cq:Nat}(h:mI w wr e P b5 k Q pp np cp pa na ca pq nq cq)(hb:Below wr.heap.size wr w1):mI w w1 e P b5 k Q pp np cp pa na ca pq nq cq :=
 ⟨h.box0.below hb h.box0.lt,h.box1.below hb h.box1.lt,h.box2.below hb h.box2.lt,h.box5.below hb h.box5.lt,h.a.below hb,h.p.below hb,h.q.below hb,h.limk,h.limp,h.limq,h.pos,h.ne,Af h.bel hb⟩
structure mY (w wr:World) (e P b5 bq k Q k' Q':Nat) (pp:Option Addr) (np cp:Nat) (pa:Option Addr) (na ca:Nat) (pq:Option Addr) (nq cq:Nat) (q:Option Addr) (m d:Nat) (d4 d5:Bool):Prop where
 box0:Ae wr w.heap.size (if d4 then .slice q m d else .slice pa na ca)
 box1:Ae wr (w.heap.size+1) (.slice pp np cp)
 box2:Ae wr (w.heap.size+1+1) (.slice none 0 0)
 box5:d5=false->Ae wr b5 (.slice pq nq cq)
 val5:d5=true->Bu wr b5 Q'
 boxq:Ae wr bq (.slice q m d)
 k':Ag wr q m d k'
 p:Ag wr pp np cp P
 q:Ag wr pq nq cq Q
 ne:w.heap.size+3<=b5
 neq:b5<bq
 bel:Below w.heap.size w wr
theorem mY.later {w wr w1:World}{e P b5 bq k Q k' Q':Nat}{pp:Option Addr}{np cp:Nat}{pa:Option Addr}{na ca:Nat}{pq:Option Addr}{nq cq:Nat}{q:Option Addr}{m d:Nat}{d4 d5:Bool}(h:mY w wr e P b5 bq k Q k' Q' pp np cp pa na ca pq nq cq q m d d4 d5)(hb:Below wr.heap.size wr w1):mY w w1 e P b5 bq k Q k' Q' pp np cp pa na ca pq nq cq q m d d4 d5 :=
 ⟨h.box0.below hb h.box0.lt,h.box1.below hb h.box1.lt,h.box2.below hb h.box2.lt,fun a=>(h.box5 a).below hb (h.box5 a).lt,fun a=>(h.val5 a).below hb,h.boxq.below hb h.boxq.lt,h.k'.below hb,h.p.below hb,h.q.below hb,h.ne,h.neq,Af h.bel hb⟩
theorem mY.store4 {w wr:World}{e P b5 bq k Q k' Q':Nat}{pp:Option Addr}{np cp:Nat}{pa:Option Addr}{na ca:Nat}{pq:Option Addr}{nq cq:Nat}{q:Option Addr}{m d:Nat}{d5:Bool}(h:mY w wr e P b5 bq k Q k' Q' pp np cp pa na ca pq nq cq q m d false d5) :
  mY w (wr.setCell ⟨w.heap.size,0,none⟩ (.slice q m d)) e P b5 bq k Q k' Q' pp np cp pa na ca pq nq cq q m d true d5:=by
 have hb:Ae wr w.heap.size (.slice pa na ca):=h.box0;have h1:=h.ne;have h2:=h.neq;exact⟨hb.set _,h.box1.other (by omega) _,h.box2.other (by omega) _,fun a=>(h.box5 a).other (by omega) _,fun a=>(h.val5 a).other hb (by omega) _,h.boxq.other (by omega) _,h.k'.store hb _,h.p.store hb _,h.q.store hb _,h.ne,h.neq,h.bel.setCell (Aw _) _⟩
theorem mY.store5 {w wr:World}{e P b5 bq k Q k' Q':Nat}{pp:Option Addr}{np cp:Nat}{pa:Option Addr}{na ca:Nat}{pq:Option Addr}{nq cq:Nat}{q:Option Addr}{m d:Nat}{d4:Bool}{p':Option Addr}{n' c':Nat}(h:mY w wr e P b5 bq k Q k' Q' pp np cp pa na ca pq nq cq q m d d4 false)(hq:Ag wr p' n' c' Q') :
  mY w (wr.setCell ⟨b5,0,none⟩ (.slice p' n' c')) e P b5 bq k Q k' Q' pp np cp pa na ca pq nq cq q m d d4 true:=by
 have hb:=h.box5 rfl;have h1:=h.ne;have h2:=h.neq;exact⟨h.box0.other (by omega) _,h.box1.other (by omega) _,h.box2.other (by omega) _,(fun a=>by cases a),fun _=>⟨p',n',c',hb.set _,hq.store hb _⟩,h.boxq.other (by omega) _,h.k'.store hb _,h.p.store hb _,h.q.store hb _,h.ne,h.neq,h.bel.setCell (by simp;omega) _⟩
theorem fP {w:World}{v u:Value}{e A P:Nat}(h:Fit e A v w)(k:Fit e P u w)(he:e<=300000)(hP:2<=P)(hA:0<A) :
  Calls Tryz.prog 250 #[v,u] w fun en w'=>∃x,en=.returned x/\Fit e (pw P A A) x w'/\Below w.heap.size w w':=by
 obtain⟨pa,na,ca,rfl,h1,h2⟩:=Ao h;obtain⟨pp,np,cp,rfl,k1,k2⟩:=Ao k;have hbx:=Xz.mk3 w (.slice pa na ca) (.slice pp np cp) (.slice none 0 0);have HBX:=Ab hbx;have HA1:=Ab h1;have HP1:=Ab k1;have HA2:=Ab h2;have HP2:=Ab k2;obtain⟨W,hW⟩:∃W,pw P A A=W:=⟨_,rfl⟩
 have HW:=Ab hW;rw[hW];clear h k h1 h2 k1 k2 hbx hW;go_enter Tryz.func250,Tryz.ntmps250
 go_wp2_with fail
 refine(Cd 1 _ (by decide)).mono ?_;rintro en w1 ⟨q1,m1,d1,rfl,hn1,hb1,_⟩;have HN1:=Ab hn1;have HBX1:=Ab (HBX.out.later hb1);clear hb1 hn1;go_wp2
 go_loopg [6,7,8] A (fun k _ _ _ wr=>∃(Q:Nat) (pa:Option Addr) (na ca:Nat) (pq:Option Addr) (nq cq:Nat),Aa (mI w wr e P w1.heap.size k Q pp np cp pa na ca pq nq cq)/\Aa (Q*pw P k k=W))
 case atStart=>
  have hb:Below w1.heap.size w1 (w1.alloc (.cells #[.slice q1 m1 d1] 37)):=Bt;have hx:=HBX1.out.later hb;refine⟨1,pa,na,ca,q1,m1,d1,⟨hx.b0,hx.b1,hx.b2,Ae.made w1 _,HA1.out.below hx.bel,HP1.out.below hx.bel,HN1.out.below hb,HA2.out,HP2.out,Nat.lt_of_le_of_lt hA HA2.out,hA,?_,hx.bel⟩,⟨by rw[Nat.one_mul];exact HW.out⟩⟩;have:=HBX1.out.b2.lt;omega
 case round=>
  obtain⟨Q,pa,na,ca,pq,nq,cq,HST,HQ⟩:=hrel;have c0:=HST.out.box0.cell;have c1:=HST.out.box1.cell
  go_wp2_with fail
  refine(Xm (Fit.of HST.out.a HST.out.limk) (Fit.of HST.out.p HST.out.limp) (by omega) (by omega)).mono ?_;rintro en w2 ⟨_,rfl,⟨qv,rv,rfl,hq,hr⟩,hb2⟩;rw[if_neg (by omega)]at hr
  rw[if_neg (by omega)];obtain⟨q,m,d,rfl,q1',q2'⟩:=hq;obtain⟨r,l,f,rfl,r1',r2'⟩:=hr;have HST2:=Ab (HST.out.later hb2);have HQ1:=Ab q1';have HR1:=Ab (Fit.of r1' r2');clear hb2 q1' r1' q2' r2' c0 c1;obtain⟨w3,hw3⟩:∃w3,(w2.alloc (.cells #[.slice q m d] 37)).alloc (.cells #[.slice r l f] 37)=w3:=⟨_,rfl⟩
  have hb3:Below w2.heap.size w2 w3:=by rw[<-hw3];exact((Ba _ _).alloc (Aw _) _).alloc (by simp) _
  have hbq:Ae w3 w2.heap.size (.slice q m d):=by
   rw[<-hw3];exact(Ae.made w2 _).below ((Ba _ _).alloc (Aw _) _) (by simp)
  have hbr:Ae w3 (w2.heap.size+1) (.slice r l f):=by
   rw[<-hw3];have:=Ae.made (w2.alloc (.cells #[.slice q m d] 37)) (.slice r l f);simpa using this
  have HST3:=Ab (HST2.out.later hb3);have HQ3:=Ab (HQ1.out.below hb3);have HR3:=Ab (HR1.out.below hb3);have HBQ:=Ab hbq;have HLT:Aa (w1.heap.size<w2.heap.size):=⟨HST2.out.box5.lt⟩
  have c3:=hbr.cell;clear hb3 hbq hbr
  by_cases h0:gk%P=0
  .have hz:Aa (decide (gk%P=0)=true):=⟨decide_eq_true h0⟩
   have HQP:Aa (Q*P*pw P (gk/P) (gk/P)=W):=⟨by
    have:=HQ.out
    rwa [Rf hP HST.out.pos,if_pos h0,<-Nat.mul_assoc]at this⟩
   have hk':Aa (0<gk/P/\gk/P<gk):=⟨Nat.div_pos (Nat.le_of_dvd HST.out.pos (Nat.dvd_of_mod_eq_zero h0)) (by omega),Nat.div_lt_self HST.out.pos (by omega)⟩
   have hWA:Aa (W<=A):=⟨by rw[<-HW.out];exact qF hA A⟩
   have hQW:Aa (Q*P<=W):=⟨by
    rw[<-HQP.out];exact Nat.le_mul_of_pos_right _ (pG hk'.out.1 _)⟩
   clear h0
   go_wp2_with fail
   refine(Uc HR3.out hz.out).mono ?_;rintro en w4 ⟨_,rfl,rfl,hb4⟩;have HST4:=Ab (HST3.out.later hb4);have HQ4:=Ab (HQ3.out.below hb4);have HB4:=Ab (HBQ.out.below hb4 HBQ.out.lt);clear c3 hb4;go_wp2;obtain⟨Q',hQ'⟩:∃Q',Q*P=Q':=⟨_,rfl⟩
   have HQ':=Ab hQ';rw[hQ']at HQP hQW
   clear hQ';refine Ak (by kernel_rfl) (by kernel_rfl)
    [some (.agg #[.slice q m d]),some (.agg #[.slice pq nq cq]),some (.agg #[.slice pp np cp]),none,none,none]
    [false,false,false,true,true,true] rfl
    (fun w1 w2=>Am w.heap.size w1 w2)
    (fun D w'=>mY w w' e P w1.heap.size w2.heap.size gk Q (gk/P) Q' pp np cp pa na ca pq nq cq q m d (D 4) (D 5))
    (fun i v w'=>match i with
     | 3=>Cu Q' v w'
     | _=>True)
    ?_ ⟨HST4.out.box0,HST4.out.box1,HST4.out.box2,fun _=>HST4.out.box5,(fun a=>by cases a),HB4.out,HQ4.out.below (Ba _ _).drew,HST4.out.p.below (Ba _ _).drew,HST4.out.q.below (Ba _ _).drew,HST4.out.ne,HLT.out,HST4.out.bel.trans (Ba _ _).drew⟩ ?_ ?_
   .intro i v w1 w2 hf hb;split at hf
    .exact Cu.keep hf hb
    .trivial
   .simp only[Bb,Nat.reduceAdd];refine⟨?_,?_,?_,?_,?_,?_,trivial⟩
    all_goals intro D sp w' hD hW hdp hg
    case refine_1=>
     have c3:=hg.boxq.cell;simp[asked,Region.wanted,Oper.gives,execOp,Act.eval,go_sem,c3]
    case refine_2=>
     have h5:D 5=false:=hW 5 (mq (by kernel_rfl));have c3:=(hg.box5 h5).cell;simp[asked,Region.wanted,Oper.gives,execOp,Act.eval,Act.put,go_sem,c3]
    case refine_3=>
     have c3:=hg.box1.cell;simp[asked,Region.wanted,Oper.gives,execOp,Act.eval,Act.put,go_sem,c3]
    case refine_4=>
     (with_reducible refine Ac (w1:=w') (f := 95) (args:=#[.agg #[.slice pq nq cq],.agg #[.slice pp np cp]]) ?_ ?_ ?_)
     .simp only[Region.wanted]
     .simp[Act.eval,Act.put,go_sem]
     .refine(Lt (Fit.of hg.q HST.out.limq) (Fit.of hg.p HST.out.limp) (by omega) (by omega)).mono ?_;rintro en w5 ⟨u,rfl,hu,hb⟩;rw[HQ'.out]at hu
      obtain⟨p',n',c',e',u1,_⟩:=hu;exact⟨u,rfl,Am.of hb hg.bel.size,⟨p',n',c',e',u1⟩,by simpa using hg.later hb⟩
    case refine_5=>
     rw[hD]at hg
     have hbx0:Ae w' w.heap.size (.slice pa na ca):=hg.box0;have g2:=hbx0.cell;have g3:=hbx0.free
     (with_reducible refine Ap (w1:=w'.setCell ⟨w.heap.size,0,none⟩ (.slice q m d)) ?_ ?_ ?_)
     .simp only[Region.wanted]
     .simp[execOp,Act.eval,Act.put,go_sem,g2,g3]
     .exact⟨Am.store hbx0 (Aw _) _,trivial,by simpa using hg.store4⟩
    case refine_6=>
     have hx:∃p n c,sp 3=.agg #[.slice p n c]/\Ag w' p n c Q':=(hdp 3 (mq (by kernel_rfl))).2;rw[hD]at hg
     (with_reducible refine Av hx fun p hx1=>Av hx1 fun n hx2=>Av hx2 fun c hx3=>?_)
     have g1:=hx3.1;have hbx0:=hg.box5 rfl;have g2:=hbx0.cell;have g3:=hbx0.free;have hne:=hg.ne
     (with_reducible refine Ap (w1:=w'.setCell ⟨w1.heap.size,0,none⟩ (.slice p n c)) ?_ ?_ ?_)
     .simp only[Region.wanted]
     .simp[execOp,Act.eval,Act.put,go_sem,g1,g2,g3]
     .exact⟨Am.store hbx0 (by omega) _,trivial,by simpa using hg.store5 hx3.2⟩
   .intro sp w7 hsp hg;obtain⟨p',n',c',x1,x2⟩:=hg.val5 rfl;have J:Aa (mI w w7 e P w1.heap.size (gk/P) Q' pp np cp q m d p' n' c'):=⟨hg.box0,hg.box1,hg.box2,x1,hg.k',hg.p,x2,Nat.lt_of_le_of_lt (Nat.div_le_self _ _) HST.out.limk,HST.out.limp,by have:=hQW.out;have:=hWA.out;have:=HA2.out;omega,hk'.out.1,hg.ne,hg.bel⟩
    clear hsp hg x1 x2;simp only[Al,Nat.reduceAdd];generalize sp 3=u3,sp 4=u4,sp 5=u5 at *
    go_simp
    go_wp2
    go_roundg (gk/P)
    case measure=>exact hk'.out.2
    case rel=>exact⟨Q',q,m,d,p',n',c',J,HQP⟩
  .have HW1:Aa (Q=W):=⟨by
    have:=HQ.out
    rwa [Rf hP HST.out.pos,if_neg h0,Nat.mul_one]at this⟩
   have hz:Aa (decide (gk%P=0)=false):=⟨decide_eq_false h0⟩
   clear h0
   go_wp2_with fail
   refine(Uc HR3.out hz.out).mono ?_;rintro en w4 ⟨_,rfl,rfl,hb4⟩;have HST4:=Ab (HST3.out.later hb4);have d5:=HST4.out.box5.cell;have d2:=HST4.out.box2.cell;have f2:=HST4.out.box2.free;have hne:=HST4.out.ne;clear c3 hb4;go_wp2;refine bodyPost_ret (v:=.agg #[.slice pq nq cq]) (by simp[results,Tryz.results250,go_sem,d2]) rfl ⟨_,rfl,?_,?_⟩
   .rw[<-HW1.out];exact Fit.of (HST4.out.q.store HST4.out.box2 _) HST4.out.limq
   .exact HST4.out.bel.setCell (by simp;omega) _
theorem jR {p n:Nat}(hp:2<=p)(h0:0<n):pw p n n=1 ↔ ¬n%p=0:=by
 rw[Rf hp h0]
 by_cases h:n%p=0
 .rw[if_pos h];refine⟨fun e=>?_,fun e=>absurd h e⟩;have:p*pw p (n/p) (n/p)=1:=e;have:=Nat.le_of_dvd (by decide) (show p ∣ 1 from ⟨_,this.symm⟩);omega
 .rw[if_neg h];exact⟨fun _=>h,fun _=>rfl⟩
structure eF (w wr:World) (b5 b6 A Q e f:Nat) (pl:Option Addr) (nl cl:Nat) (po:Option Addr) (no co:Nat) (pq:Option Addr) (nq cq:Nat):Prop where
 box0:Ae wr w.heap.size (.slice pl nl cl)
 box5:Ae wr b5 (.slice po no co)
 box6:Ae wr b6 (.slice pq nq cq)
 less:Ag wr pl nl cl A
 one:Ag wr po no co 1
 q:Ag wr pq nq cq Q
 lim:A<An e
 limq:Q<An f
 ne5:w.heap.size<b5
 ne6:b5<b6
 bel:Below w.heap.size w wr
theorem eF.later {w wr w1:World}{b5 b6 A Q e f:Nat}{pl:Option Addr}{nl cl:Nat}{po:Option Addr}{no co:Nat}{pq:Option Addr}{nq cq:Nat}(h:eF w wr b5 b6 A Q e f pl nl cl po no co pq nq cq)(hb:Below wr.heap.size wr w1):eF w w1 b5 b6 A Q e f pl nl cl po no co pq nq cq :=
 ⟨h.box0.below hb h.box0.lt,h.box5.below hb h.box5.lt,h.box6.below hb h.box6.lt,h.less.below hb,h.one.below hb,h.q.below hb,h.lim,h.limq,h.ne5,h.ne6,Af h.bel hb⟩
theorem eF.store {w wr:World}{b5 b6 A Q Q' e f f':Nat}{pl:Option Addr}{nl cl:Nat}{po:Option Addr}{no co:Nat}{pq:Option Addr}{nq cq:Nat}{p':Option Addr}{n' c':Nat}(h:eF w wr b5 b6 A Q e f pl nl cl po no co pq nq cq)(hq:Ag wr p' n' c' Q')(hl:Q'<An f') :
  eF w (wr.setCell ⟨b6,0,none⟩ (.slice p' n' c')) b5 b6 A Q' e f' pl nl cl po no co p' n' c':=by
 have h1:=h.ne5;have h2:=h.ne6;exact⟨h.box0.other (by omega) _,h.box5.other (by omega) _,h.box6.set _,h.less.store h.box6 _,h.one.store h.box6 _,hq.store h.box6 _,h.lim,hl,h1,h2,h.bel.setCell (by simp;omega) _⟩
open Classical in
theorem Xi {w:World}{v:Value}{e A:Nat}{pp:Option Addr}{np cp:Nat}{ps:List Nat}(h:Fit e A v w)(hp:Aq w e pp np cp ps)(he:e<=100)(hA:0<A)(hps:∀p∈ps,2<=p)(hnp:np<=1000) :
  Calls Tryz.prog 239 #[.slice pp np cp,v] w fun en w'=>en=.returned (.bool (decide ((∀p∈ps,A%p=0)/\A+1<Tp A ps*Tp A ps)))/\Below w.heap.size w w':=by
 obtain⟨pl,nl,cl,rfl,h1,h2⟩:=Ao h;have HP:=Ab hp;have HLP:=Ab hp.len;have HPS:=Ab hps;obtain⟨ANS,hANS⟩:∃X,decide ((∀p∈ps,A%p=0)/\A+1<Tp A ps*Tp A ps)=X:=⟨_,rfl⟩
 have HANS:=Ab hANS;rw[hANS];have hbx:=Dw.mk1 w (.slice pl nl cl) 37;have HBX:=Ab hbx.bel;have HNB:=Ab (Ae.made w (.slice pl nl cl));have HL1:=Ab h1;have HL2:=Ab h2;clear h hp hps hANS hbx h1 h2;go_enter Tryz.func239,Tryz.ntmps239
 go_wp2_with fail
 refine(Cd 1 _ (by decide)).mono ?_;rintro en w1 ⟨po,no,co,rfl,hn1,hb1,_⟩;have HN1:=Ab hn1;have HB1:=Ab (Af HBX.out hb1);have HNB1:=Ab (HNB.out.below hb1 HNB.out.lt);clear hb1 hn1;go_wp2
 go_loopw [8,9,14] (fun _ _ iv wr=>∃(k:Nat) (pq:Option Addr) (nq cq:Nat),k<=np/\iv=.int .i64 k/\Aa (eF w wr w1.heap.size (w1.heap.size+1) A (Tp A (ps.take k)) e (e*k+1) pl nl cl po no co pq nq cq)/\Aa (∀p∈ps.take k,A%p=0)) (fun _ _ iv _=>np-(intOf iv).toNat)
 case atStart=>
  have hb5:Below w1.heap.size w1 ((w1.alloc (.cells #[.slice po no co] 37)).alloc (.cells #[.slice po no co] 37)):=((Ba _ _).alloc (Aw _) _).alloc (by simp) _;refine⟨0,po,no,co,by omega,rfl,⟨HNB1.out.below hb5 HNB1.out.lt,(Ae.made w1 _).below ((Ba _ _).alloc (Aw _) _) (by simp),?_,(HL1.out.below HB1.out).below hb5,HN1.out.below hb5,HN1.out.below hb5,HL2.out,by rw[Nat.mul_zero];exact(by decide:(1:Nat)<An 1),HNB1.out.lt,by omega,Af HB1.out hb5⟩,⟨fun p hp=>by simp at hp⟩⟩;have:=Ae.made (w1.alloc (.cells #[.slice po no co] 37)) (.slice po no co);simpa using this
 case round=>
  obtain⟨k,pq,nq,cq,hk,rfl,HST,HD⟩:=hrel
  by_cases hkn:k<np
  .obtain⟨P,hPk⟩:∃P,ps[k]? = some P:=⟨ps[k]'(by rw[<-HLP.out];exact hkn),List.getElem?_eq_getElem _⟩
   obtain⟨b,off,rfl,hb,hc⟩:=(HP.out.below HST.out.bel).at_ (by omega)
   obtain⟨q,m,d,hx,hnx,hlim⟩:=hc k P hPk;have hkn':(k:Int)<np:=by omega
   have HPk:=Ab hPk;have HP2:Aa (2<=P):=⟨HPS.out P (List.mem_of_getElem? hPk)⟩
   have hba:Below wr.heap.size wr (wr.alloc (.cells #[.slice q m d] 37)):=Bt;have HBP:=Ab (Ae.made wr (.slice q m d));obtain⟨wa,hwa⟩:∃wa,wr.alloc (.cells #[.slice q m d] 37)=wa:=⟨_,rfl⟩
   rw[hwa]at hba HBP
   have HSTa:=Ab (HST.out.later hba);have HF:=Ab ((Fit.of hnx hlim).below hba);have HHa:=Ab hba.size;have c0:=HSTa.out.box0.cell;have c8:=HBP.out.cell;clear hc hnx hlim hPk hba
   go_wp2_with fail
   refine(fP (Fit.of HSTa.out.less HSTa.out.lim) HF.out (by omega) HP2.out hA).mono ?_;rintro en w2 ⟨_,rfl,⟨r,l,f,rfl,hr,hrl⟩,hb2⟩;have HST2:=Ab (HSTa.out.later hb2);have hbb:Below w2.heap.size w2 (w2.alloc (.cells #[.slice r l f] 37)):=Bt;have HBB:=Ab (Ae.made w2 (.slice r l f));obtain⟨wb,hwb⟩:∃wb,w2.alloc (.cells #[.slice r l f] 37)=wb:=⟨_,rfl⟩
   rw[hwb]at hbb HBB
   have HSTb:=Ab (HST2.out.later hbb);have HPW:=Ab ((Fit.of hr hrl).below hbb);have c9:=HBB.out.cell;have c5:=HSTb.out.box5.cell;clear hr hrl hb2 hbb c0 c8
   by_cases h0:A%P=0
   .have hK:Aa ((Bm (pw P A A) 1==0)=false):=⟨by
     rw[beq_eq_false_iff_ne];exact fun e=>((jR HP2.out hA).1 (Bv.1 e)) h0⟩
    obtain⟨K,hKe⟩:∃K,Bm (pw P A A) 1=K:=⟨_,rfl⟩
    rw[hKe]at hK
    have HKe:=Ab hKe;clear hKe;have hK':=hK.out;have HD':Aa (∀p∈ps.take (k+1),A%p=0):=⟨by
     have hi:k<ps.length:=(List.getElem?_eq_some_iff.1 HPk.out).1;have e:ps[k]=P:=by have:=HPk.out;rw[List.getElem?_eq_getElem hi]at this;exact Option.some.inj this
     rw[List.take_succ_eq_append_getElem hi,e];intro p hp;rcases List.mem_append.1 hp with hp|hp
     .exact HD.out p hp
     .simp at hp;rw[hp];exact h0⟩
    have HQ':Aa (Tp A (ps.take k)*pw P A A=Tp A (ps.take (k+1))):=⟨by
     have hi:k<ps.length:=(List.getElem?_eq_some_iff.1 HPk.out).1;have e:ps[k]=P:=by have:=HPk.out;rw[List.getElem?_eq_getElem hi]at this;exact Option.some.inj this
     rw[List.take_succ_eq_append_getElem hi,e,Yw]⟩
    have hek:e*k<=100000:=by
     have:=Nat.mul_le_mul he (show k<=1000 by omega);omega
    have HEK:=Ab hek;have HEK':Aa (e*k+1+e=e*(k+1)+1):=⟨by rw[Nat.mul_succ];omega⟩
    clear h0 hek
    go_wp2_with fail
    refine(Bf HPW.out (Fit.of HSTb.out.one (by decide:(1:Nat)<An 1)) (by omega) (by omega) HKe.out).mono ?_;rintro en w3 ⟨_,rfl,rfl,hb3⟩;have HST3:=Ab (HSTb.out.later hb3);have HPW3:=Ab (HPW.out.below hb3);have d9:=(HBB.out.below hb3 HBB.out.lt).cell;have d6:=HST3.out.box6.cell;clear hb3 c9 c5
    go_wp2_with fail
    refine(Lt (Fit.of HST3.out.q HST3.out.limq) HPW3.out (by have:=HEK.out;omega) (by omega)).mono ?_;rintro en w4 ⟨_,rfl,⟨r4,l4,f4,rfl,x1,x2⟩,hb4⟩;rw[HQ'.out]at x1 x2
    rw[HEK'.out]at x2
    have HST4:=Ab (HST3.out.later hb4);have HST5:=Ab (HST4.out.store x1 x2);have e6:=HST4.out.box6.cell;have f6:=HST4.out.box6.free;clear hb4 x1 x2 d9 d6;go_wp2;go_roundw
    case rel=>exact⟨k+1,r4,l4,f4,by omega,by go_num,HST5,HD'⟩
    case measure=>simp[intOf];omega
   .have hK:Aa (Bm (pw P A A) 1=0):=⟨Bv.2 ((jR HP2.out hA).2 h0)⟩
    have HF':Aa (ANS=false):=⟨by
     rw[<-HANS.out];exact decide_eq_false fun hh=>h0 (hh.1 P (List.mem_of_getElem? HPk.out))⟩
    clear h0
    go_wp2_with fail
    refine(Bf HPW.out (Fit.of HSTb.out.one (by decide:(1:Nat)<An 1)) (by omega) (by omega) hK.out).mono ?_;rintro en w3 ⟨_,rfl,rfl,hb3⟩;have HB3:=Ab (Af HSTb.out.bel hb3);clear hb3;go_wp2;go_ret;exact⟨by rw[HF'.out];rfl,HB3.out⟩
  .obtain rfl:k=np:=by omega
   have hkn':¬(k:Int)<k:=by omega
   have hta:ps.take k=ps:=List.take_of_length_le (by rw[<-HLP.out];exact Aw _);rw[hta]at HST HD
   obtain⟨Q,hQ⟩:∃Q,Tp A ps=Q:=⟨_,rfl⟩
   rw[hQ]at HST
   have HQ:=Ab hQ;have hek:e*k<=100000:=by
    have:=Nat.mul_le_mul he hnp;omega
   have HEK:Aa (e*k+1<=900000):=⟨by omega⟩
   have HEK2:Aa (e*k+1+(e*k+1)<=900000):=⟨by omega⟩
   obtain⟨K,hK⟩:∃K,Bm (Q*Q) (A+1)=K:=⟨_,rfl⟩
   obtain⟨DD,hDD⟩:∃DD,decide (0<K)=DD:=⟨_,rfl⟩
   have HK:=Ab hK;have HA:Aa (ANS=DD):=⟨by
    rw[<-HANS.out,<-hDD,<-hK,hQ];exact decide_eq_decide.2 ⟨fun h=>Iv.2 h.2,fun h=>⟨HD.out,Iv.1 h⟩⟩⟩
   have HDDh:=Ab hDD;clear hta hQ hek hK hDD;go_wp2;have hDD:=HDDh.out;refine Ak (by kernel_rfl) (by kernel_rfl)
    [some (.agg #[.slice pq nq cq]),some (.agg #[.slice pq nq cq]),none,some (.agg #[.slice pl nl cl]),some (.agg #[.slice po no co]),none,none,some (.bool DD),some (.bool DD)]
    [false,false,true,false,false,true,true,false,false] rfl
    (fun w1 w2=>Below w1.heap.size w1 w2)
    (fun _ w'=>Below wr.heap.size wr w')
    (fun i v w'=>match i with
     | 2=>Fit (e*k+1+(e*k+1)) (Q*Q) v w'
     | 5=>Fit (e+1+1) (A+1) v w'
     | 6=>v=.int .i64 K
     | _=>True)
    ?_ (Ba _ _).drew ?_ ?_
   .intro i v w1 w2 hf hb;split at hf
    .exact hf.below hb
    .exact hf.below hb
    .exact hf
    .trivial
   .simp only[Bb,Nat.reduceAdd];refine⟨?_,?_,?_,?_,?_,?_,?_,?_,?_,trivial⟩
    all_goals intro D sp w' hD hW hdp hbx'
    case refine_1|refine_2=>
     have c6:=(HST.out.later hbx').box6.cell
     with_reducible refine Ad ?_ ?_
     all_goals simp[Region.wanted,yielded,execOp,Act.eval,Act.put,go_sem,c6]
    case refine_3=>
     (with_reducible refine Ac (w1:=w') (f := 95) (args:=#[.agg #[.slice pq nq cq],.agg #[.slice pq nq cq]]) ?_ ?_ ?_)
     .simp only[Region.wanted]
     .simp[Act.eval,Act.put,go_sem]
     .refine(Lt (Fit.of (HST.out.later hbx').q HST.out.limq) (Fit.of (HST.out.later hbx').q HST.out.limq) HEK.out HEK.out).mono ?_;rintro en w5 ⟨u,rfl,hu,hb⟩;exact⟨u,rfl,hb,hu,Af hbx' hb⟩
    case refine_4=>
     have c0:=(HST.out.later hbx').box0.cell
     with_reducible refine Ad ?_ ?_
     all_goals simp[Region.wanted,yielded,execOp,Act.eval,Act.put,go_sem,c0]
    case refine_5=>
     have c5:=(HST.out.later hbx').box5.cell
     with_reducible refine Ad ?_ ?_
     all_goals simp[Region.wanted,yielded,execOp,Act.eval,Act.put,go_sem,c5]
    case refine_6=>
     (with_reducible refine Ac (w1:=w') (f := 94) (args:=#[.agg #[.slice pl nl cl],.agg #[.slice po no co]]) ?_ ?_ ?_)
     .simp only[Region.wanted]
     .simp[Act.eval,Act.put,go_sem]
     .refine(Ma (Fit.of (HST.out.later hbx').less HST.out.lim) (Fit.of (HST.out.later hbx').one (by decide:(1:Nat)<An 1)) (by omega) (by omega)).mono ?_;rintro en w5 ⟨u,rfl,hu,hb⟩;exact⟨u,rfl,hb,hu,Af hbx' hb⟩
    case refine_7=>
     have k2:Fit (e*k+1+(e*k+1)) (Q*Q) (sp 2) w':=(hdp 2 (mq (by kernel_rfl))).2;have k5:Fit (e+1+1) (A+1) (sp 5) w':=(hdp 5 (mq (by kernel_rfl))).2
     (with_reducible refine Ac (w1:=w') (f := 24) (args:=#[sp 2,sp 5]) ?_ ?_ ?_)
     .simp only[Region.wanted]
     .simp[Act.eval,Act.put,go_sem]
     .refine(Bf k2 k5 HEK2.out (by omega) HK.out).mono ?_;rintro en w5 ⟨u,rfl,hu,hb⟩;exact⟨u,rfl,hb,hu,Af hbx' hb⟩
    case refine_8=>
     have k6:(sp 6)=.int .i64 K:=(hdp 6 (mq (by kernel_rfl))).2
     with_reducible refine Ad ?_ ?_
     all_goals simp[Region.wanted,yielded,execOp,Act.eval,Act.put,go_sem,k6,hDD]
    all_goals ((with_reducible refine Ad ?_ ?_);all_goals first|(simp only[Region.wanted];done)|simp[Region.wanted,yielded,execOp,Act.eval,Act.put,go_sem])
   .intro sp w7 hsp hbx';have HBe:=Ab (Af HST.out.bel hbx');clear hsp hbx' hDD;simp only[Al,Nat.reduceAdd];generalize sp 2=y2,sp 5=y5,sp 6=y6 at *
    go_simp
    go_wp2;go_ret;exact⟨by rw[HA.out];rfl,HBe.out⟩
end Go.Proofs.YtokhckjemidbpaaGreatDoor
