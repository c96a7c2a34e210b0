/- The greatest power of a number in another one, of the program. -/
import Derived.Test.YtokhckjemidbpaaGreatDoorRing
import Derived.Laws.OwnMore
import Derived.Lib.AppendZeros
import Derived.ArgAppend
import Derived.Deep.Cut
import Derived.Deep.LoopGhost
set_option maxRecDepth 1000000
set_option maxHeartbeats 16000000
set_option linter.all false
namespace Go.Proofs.YtokhckjemidbpaaGreatDoor
def pm (a n:Nat):Nat->Nat->Nat
 | 0,_=>1%n
 | f+1,e=>if e=0 then 1%n else
  let h:=pm a n f (e/2)
  if e%2=1 then h*h%n*a%n else h*h%n
theorem Lk (a n:Nat):∀f e,e<2^f->pm a n f e=a^e%n
 | 0,e,h=>by
  have:e=0:=by simp at h;omega
  subst this;rw[pm,Nat.pow_zero]
 | f+1,e,h=>by
  unfold pm;split
  .rename_i h0;rw[h0,Nat.pow_zero]
  .have ih:=Lk a n f (e/2) (by rw[Nat.pow_succ]at h;omega);have e2:a^(2*(e/2))=a^(e/2)*a^(e/2):=by rw[<-Nat.pow_add];congr 1;omega
   simp only[ih];split
   .rename_i h1
    have:e=2*(e/2)+1:=by omega
    conv=>rhs;rw[this,Nat.pow_succ,e2]
    simp[Nat.mul_mod]
   .rename_i h1
    have:e=2*(e/2):=by omega
    conv=>rhs;rw[this,e2]
    rw[<-Nat.mul_mod]
open Go Go.RowKit Go.Proofs.YtokhckjemidbpaaGreatDoor.Flow
theorem Hl {P:Program}{o:Oper}{ops:Array Oper}{a:Act}{w:World}{K:Value->World->Prop}(hw:Region.wanted o (yielded ops a.tmps)=false)(hk:K undef w):asked P o ops a w K:=by
 unfold asked;rw[if_neg (by rw[hw];exact Bool.false_ne_true)];exact hk
structure Ba (w:World) (e:Nat) (p:Option Addr) (n c:Nat) (Ns:List Nat):Prop where
 len:n=Ns.length
 cap:n<=c
 max:c<=9223372036854775807
 nil:p=none->c=0
 at_:0<n->∃b off,p=some ⟨b,off,none⟩/\b<w.heap.size/\∀i N,Ns[i]? = some N->∃q m d,w.cell? ⟨b,off+i,none⟩=some (.slice q m d)/\Ah w q m d N/\N<Al e
theorem Ba.below {w w':World}{e:Nat}{p:Option Addr}{n c:Nat}{Ns:List Nat}(h:Ba w e p n c Ns)(hb:Below w.heap.size w w'):Ba w' e p n c Ns:=by
 refine⟨h.len,h.cap,h.max,h.nil,fun h0=>?_⟩;obtain⟨b,off,h1,h2,h3⟩:=h.at_ h0
 refine⟨b,off,h1,Dk h2 hb.size,fun i N hN=>?_⟩;obtain⟨q,m,d,h4,h5,h6⟩:=h3 i N hN;exact⟨q,m,d,by rw[hb.cell (p:=⟨b,off+i,none⟩) h2];exact h4,h5.below hb,h6⟩
structure Ds (w:World) (e:Nat) (p:Option Addr) (n c:Nat) (l:List Bn):Prop where
 len:n=l.length
 cap:n<=c
 max:c<=9223372036854775807
 nil:p=none->c=0
 at_:0<n->∃b off,p=some ⟨b,off,none⟩/\b<w.heap.size/\∀i s,l[i]? = some s->∃q0 m0 d0 q1 m1 d1 q2 m2 d2,
  w.cell? ⟨b,off+i*3,none⟩=some (.slice q0 m0 d0)/\w.cell? ⟨b,off+i*3+1,none⟩=some (.slice q1 m1 d1)/\w.cell? ⟨b,off+i*3+2,none⟩=some (.slice q2 m2 d2) /\
  Ah w q0 m0 d0 s.n/\s.n<Al e/\Ah w q1 m1 d1 s.base/\s.base<Al e/\Ba w e q2 m2 d2 s.ps
theorem Ds.below {w w':World}{e:Nat}{p:Option Addr}{n c:Nat}{l:List Bn}(h:Ds w e p n c l)(hb:Below w.heap.size w w'):Ds w' e p n c l:=by
 refine⟨h.len,h.cap,h.max,h.nil,fun h0=>?_⟩;obtain⟨b,off,h1,h2,h3⟩:=h.at_ h0
 refine⟨b,off,h1,Dk h2 hb.size,fun i s hs=>?_⟩;obtain⟨q0,m0,d0,q1,m1,d1,q2,m2,d2,k0,k1,k2,k3,k4,k5,k6,k7⟩:=h3 i s hs;have hc:∀o,w'.cell? ⟨b,o,none⟩=w.cell? ⟨b,o,none⟩:=fun o=>hb.cell (p:=⟨b,o,none⟩) h2
 exact⟨q0,m0,d0,q1,m1,d1,q2,m2,d2,by rw[hc];exact k0,by rw[hc];exact k1,by rw[hc];exact k2,k3.below hb,k4,k5.below hb,k6,k7.below hb⟩
def Dq (s:Bn):Prop:=1024<Ay s.n ∨ 1024<Ay s.base ∨ ∃p∈s.ps,1024<Ay p
open Classical in
def aS:Prop:=∀(w:World) (N e:Nat) (v:Value),Fit e N v w->e<=200 ->
 Calls Tryz.prog 178 #[v] w fun en w'=>en=.returned (.bool (decide (Ce N)))/\Below w.heap.size w w'
open Classical in
theorem Hp:aS:=by
 intro w N e v hv he;obtain⟨p,n,c,rfl,h1,h2⟩:=hv;have hn:n<1000000:=by have:=h1.len_le h2;omega
 have hbx:=Cw.mk1 w (.slice p n c) 37;have H1:=Ac (h1.below hbx.bel);have HBX:=Ac hbx.bel;clear h1 h2 hbx
 by_cases hb:Ay N<=64
 .by_cases hlow:N<2
  .have hno:Aa (decide (Ce N)=false):=⟨decide_eq_false fun hs=>by have:=hs.1;omega⟩
   have hlow':(N:Int)<2:=by omega
   have HB:=Ac hb;clear hb hlow;go_enter Tryz.func178,Tryz.ntmps178
   go_wp2_with fail
   refine(Ho _ p n c N H1.out hn).mono ?_;rintro en w1 ⟨rfl,hb1⟩;rw[if_pos HB.out,decide_eq_true HB.out];have HB1:=Ac (Ab HBX.out hb1);clear hb1;go_wp2;go_ret;exact⟨by rw[hno.out];rfl,HB1.out⟩
  .by_cases hhigh:65536<=N
   .have hno:Aa (decide (Ce N)=false):=⟨decide_eq_false fun hs=>by have:=hs.2.1;omega⟩
    have hlow':¬(N:Int)<2:=by omega
    have hhigh':(65536:Int)<=N:=by omega
    obtain⟨K,hgK⟩:∃K:Int,(65536:Int)=K:=⟨_,rfl⟩
    rw[hgK]at hhigh'
    have HB:=Ac hb;clear hb hlow hhigh;go_enter Tryz.func178,Tryz.ntmps178
    go_wp2_with fail
    refine(Ho _ p n c N H1.out hn).mono ?_;rintro en w1 ⟨rfl,hb1⟩;rw[if_pos HB.out,decide_eq_true HB.out];have HB1:=Ac (Ab HBX.out hb1);clear hb1
    go_upto_region 2 with fail
    rw[hgK];clear hgK;go_wp2;go_ret;exact⟨by rw[hno.out];rfl,HB1.out⟩
   .have hlow':¬(N:Int)<2:=by omega
    have hhigh':¬(65536:Int)<=N:=by omega
    have HLT:Aa (N<65536):=⟨by omega⟩
    have H2:Aa (2<=N):=⟨by omega⟩
    obtain⟨K,hgK⟩:∃K:Int,(65536:Int)=K:=⟨_,rfl⟩
    rw[hgK]at hhigh'
    have HB:=Ac hb;clear hb hlow hhigh;go_enter Tryz.func178,Tryz.ntmps178
    go_wp2_with fail
    refine(Ho _ p n c N H1.out hn).mono ?_;rintro en w1 ⟨rfl,hb1⟩;rw[if_pos HB.out,decide_eq_true HB.out];have HB1:=Ac (Ab HBX.out hb1);clear hb1
    go_upto_region 2 with fail
    rw[hgK];clear hgK;go_wp2
    go_loopw [5] (fun dv wr=>w1=wr/\∃d:Nat,2<=d/\d<=256/\dv=.int .u64 d/\Aa (∀e,2<=e->e<d->N%e≠0)) (fun dv _=>300-(intOf dv).toNat)
    case atStart=>exact⟨rfl,2,by omega,by omega,rfl,⟨fun e h1 h2=>by omega⟩⟩
    case round=>
     obtain⟨rfl,d,hd2,hd,rfl,HD⟩:=hrel;obtain⟨S,hS⟩:∃S,d*d=S:=⟨_,rfl⟩
     have hS':(d:Int)*d=(S:Nat):=by rw[<-hS];simp
     have hSl:S<=65536:=by rw[<-hS];exact Nat.mul_le_mul hd hd
     have HSl:=Ac hSl;have hSw:IntKind.u64.wrap ((S:Nat):Int)=S:=IntWalk.u64_in _ ⟨by omega,by omega⟩;clear hSl
     by_cases hdd:S<=N
     .have hdlt:d<256:=Nat.lt_of_not_le fun hge=>by
       have:=Nat.mul_le_mul hge hge;have:=HLT.out;omega
      have hmod:(N:Int).tmod d=((N%d:Nat):Int):=by rw[Int.tmod_eq_emod_of_nonneg (by omega)];simp
      obtain⟨R,hR⟩:∃R,N%d=R:=⟨_,rfl⟩
      rw[hR]at hmod
      have hd0:¬(d:Int)=0:=by omega
      have hdd':(S:Int)<=N:=by omega
      rcases Nat.eq_zero_or_pos R with h0|h0
      .have hno:Aa (decide (Ce N)=false):=⟨decide_eq_false fun hs=>hs.2.2 d hd2 (by omega) (by omega)⟩
       subst h0;have hS2:=Af hS;have hR2:=Af hR;clear hS hR;go_wp2;go_ret;exact⟨by rw[hno.out];rfl,HB1.out⟩
      .have hR0:((R:Int)==0)=false:=by rw[beq_eq_false_iff_ne];omega
       have HD':Aa (∀e,2<=e->e<d+1->N%e≠0):=⟨fun e h1 h2=>by
        rcases(by omega:e<d ∨ e=d) with h3|rfl
        .exact HD.out e h1 h3
        .omega⟩
       have hS2:=Af hS;have hR2:=Af hR;clear hS hR;go_wp2;go_roundw
       case rel=>exact⟨trivial,d+1,by omega,by omega,by go_num,HD'⟩
       case measure=>simp[intOf];omega
     .have hdd':¬(S:Int)<=N:=by omega
      have hyes:Aa (decide (Ce N)=true):=⟨decide_eq_true ⟨H2.out,HLT.out,fun e h1 h2=>HD.out e h1 (Nat.lt_of_not_le fun hge=>by
       have:=Nat.mul_le_mul hge hge;omega)⟩⟩
      have hS2:=Af hS;clear hS;go_wp2;go_ret;exact⟨by rw[hyes.out];rfl,HB1.out⟩
 .have hno:Aa (decide (Ce N)=false):=⟨decide_eq_false fun hs=>hb ((Cj N 64).2 (Nat.lt_trans hs.2.1 (by decide)))⟩
  have HB:=Ac hb;clear hb;go_enter Tryz.func178,Tryz.ntmps178
  go_wp2_with fail
  refine(Ho _ p n c N H1.out hn).mono ?_;rintro en w1 ⟨rfl,hb1⟩;rw[if_neg HB.out,decide_eq_false HB.out];have HB1:=Ac (Ab HBX.out hb1);clear hb1;go_wp2;go_ret;exact⟨by rw[hno.out];rfl,HB1.out⟩
theorem Fit.tight {e f N:Nat}{v:Value}{w:World}(h:Fit e N v w)(hN:N<Al f):Fit f N v w :=
 let ⟨p,n,c,h1,h2,_⟩:=h
 ⟨p,n,c,h1,h2,hN⟩
theorem fX {p n:Nat}(h:0<n)(f:Nat):0<pw p f n:=Nat.pos_of_dvd_of_pos (Ry p f n) h
theorem iA {p n:Nat}(h:0<n)(f:Nat):pw p f n<=n:=Nat.le_of_dvd h (Ry p f n)
structure dS (w wr:World) (e P b5 k Q:Nat) (pp:Option Addr) (np cp:Nat) (pa:Option Addr) (na ca:Nat) (pq:Option Addr) (nq cq:Nat):Prop where
 box0:Ae wr w.heap.size (.slice pa na ca)
 box1:Ae wr (w.heap.size+1) (.slice pp np cp)
 box2:Ae wr (w.heap.size+1+1) (.slice none 0 0)
 box5:Ae wr b5 (.slice pq nq cq)
 a:Ah wr pa na ca k
 p:Ah wr pp np cp P
 q:Ah wr pq nq cq Q
 limk:k<Al e
 limp:P<Al e
 limq:Q<Al e
 pos:0<k
 ne:w.heap.size+3<=b5
 bel:Below w.heap.size w wr
theorem dS.later {w wr w1:World}{e P b5 k Q:Nat}{pp:Option Addr}{np cp:Nat}{pa:Option Addr}{na ca:Nat}{pq:Option Addr}{nq cq:Nat}(h:dS w wr e P b5 k Q pp np cp pa na ca pq nq cq)(hb:Below wr.heap.size wr w1):dS w w1 e P b5 k Q pp np cp pa na ca pq nq cq :=
 ⟨h.box0.below hb h.box0.lt,h.box1.below hb h.box1.lt,h.box2.below hb h.box2.lt,h.box5.below hb h.box5.lt,h.a.below hb,h.p.below hb,h.q.below hb,h.limk,h.limp,h.limq,h.pos,h.ne,Ab h.bel hb⟩
structure eG (w wr:World) (e P b5 bq k Q k' Q':Nat) (pp:Option Addr) (np cp:Nat) (pa:Option Addr) (na ca:Nat) (pq:Option Addr) (nq cq:Nat) (q:Option Addr) (m d:Nat) (d4 d5:Bool):Prop where
 box0:Ae wr w.heap.size (if d4 then .slice q m d else .slice pa na ca)
 box1:Ae wr (w.heap.size+1) (.slice pp np cp)
 box2:Ae wr (w.heap.size+1+1) (.slice none 0 0)
 box5:d5=false->Ae wr b5 (.slice pq nq cq)
 val5:d5=true->Gh wr b5 Q'
 boxq:Ae wr bq (.slice q m d)
 k':Ah wr q m d k'
 p:Ah wr pp np cp P
 q:Ah wr pq nq cq Q
 ne:w.heap.size+3<=b5
 neq:b5<bq
 bel:Below w.heap.size w wr
theorem eG.later {w wr w1:World}{e P b5 bq k Q k' Q':Nat}{pp:Option Addr}{np cp:Nat}{pa:Option Addr}{na ca:Nat}{pq:Option Addr}{nq cq:Nat}{q:Option Addr}{m d:Nat}{d4 d5:Bool}(h:eG w wr e P b5 bq k Q k' Q' pp np cp pa na ca pq nq cq q m d d4 d5)(hb:Below wr.heap.size wr w1):eG w w1 e P b5 bq k Q k' Q' pp np cp pa na ca pq nq cq q m d d4 d5 :=
 ⟨h.box0.below hb h.box0.lt,h.box1.below hb h.box1.lt,h.box2.below hb h.box2.lt,fun a=>(h.box5 a).below hb (h.box5 a).lt,fun a=>(h.val5 a).below hb,h.boxq.below hb h.boxq.lt,h.k'.below hb,h.p.below hb,h.q.below hb,h.ne,h.neq,Ab h.bel hb⟩
theorem eG.store4 {w wr:World}{e P b5 bq k Q k' Q':Nat}{pp:Option Addr}{np cp:Nat}{pa:Option Addr}{na ca:Nat}{pq:Option Addr}{nq cq:Nat}{q:Option Addr}{m d:Nat}{d5:Bool}(h:eG w wr e P b5 bq k Q k' Q' pp np cp pa na ca pq nq cq q m d false d5) :
  eG w (wr.setCell ⟨w.heap.size,0,none⟩ (.slice q m d)) e P b5 bq k Q k' Q' pp np cp pa na ca pq nq cq q m d true d5:=by
 have hb:Ae wr w.heap.size (.slice pa na ca):=h.box0;have h1:=h.ne;have h2:=h.neq;exact⟨hb.set _,h.box1.other (by omega) _,h.box2.other (by omega) _,fun a=>(h.box5 a).other (by omega) _,fun a=>(h.val5 a).other hb (by omega) _,h.boxq.other (by omega) _,h.k'.store hb _,h.p.store hb _,h.q.store hb _,h.ne,h.neq,h.bel.setCell (Av _) _⟩
theorem eG.store5 {w wr:World}{e P b5 bq k Q k' Q':Nat}{pp:Option Addr}{np cp:Nat}{pa:Option Addr}{na ca:Nat}{pq:Option Addr}{nq cq:Nat}{q:Option Addr}{m d:Nat}{d4:Bool}{p':Option Addr}{n' c':Nat}(h:eG w wr e P b5 bq k Q k' Q' pp np cp pa na ca pq nq cq q m d d4 false)(hq:Ah wr p' n' c' Q') :
  eG w (wr.setCell ⟨b5,0,none⟩ (.slice p' n' c')) e P b5 bq k Q k' Q' pp np cp pa na ca pq nq cq q m d d4 true:=by
 have hb:=h.box5 rfl;have h1:=h.ne;have h2:=h.neq;exact⟨h.box0.other (by omega) _,h.box1.other (by omega) _,h.box2.other (by omega) _,(fun a=>by cases a),fun _=>⟨p',n',c',hb.set _,hq.store hb _⟩,h.boxq.other (by omega) _,h.k'.store hb _,h.p.store hb _,h.q.store hb _,h.ne,h.neq,h.bel.setCell (by simp;omega) _⟩
theorem Zc {w:World}{v u:Value}{e A P:Nat}(h:Fit e A v w)(k:Fit e P u w)(he:e<=300000)(hP:2<=P)(hA:0<A) :
  Calls Tryz.prog 250 #[v,u] w fun en w'=>∃x,en=.returned x/\Fit e (pw P A A) x w'/\Below w.heap.size w w':=by
 obtain⟨pa,na,ca,rfl,h1,h2⟩:=Aw h;obtain⟨pp,np,cp,rfl,k1,k2⟩:=Aw k;have hbx:=bF.mk3 w (.slice pa na ca) (.slice pp np cp) (.slice none 0 0);have HBX:=Ac hbx;have HA1:=Ac h1;have HP1:=Ac k1;have HA2:=Ac h2;have HP2:=Ac k2;obtain⟨W,hW⟩:∃W,pw P A A=W:=⟨_,rfl⟩
 have HW:=Ac hW;rw[hW];clear h k h1 h2 k1 k2 hbx hW;go_enter Tryz.func250,Tryz.ntmps250
 go_wp2_with fail
 refine(Cp 1 _ (by decide)).mono ?_;rintro en w1 ⟨q1,m1,d1,rfl,hn1,hb1,_⟩;have HN1:=Ac hn1;have HBX1:=Ac (HBX.out.later hb1);clear hb1 hn1;go_wp2
 go_loopg [6,7,8] A (fun k _ _ _ wr=>∃(Q:Nat) (pa:Option Addr) (na ca:Nat) (pq:Option Addr) (nq cq:Nat),Aa (dS w wr e P w1.heap.size k Q pp np cp pa na ca pq nq cq)/\Aa (Q*pw P k k=W))
 case atStart=>
  have hb:Below w1.heap.size w1 (w1.alloc (.cells #[.slice q1 m1 d1] 37)):=By;have hx:=HBX1.out.later hb;refine⟨1,pa,na,ca,q1,m1,d1,⟨hx.b0,hx.b1,hx.b2,Ae.made w1 _,HA1.out.below hx.bel,HP1.out.below hx.bel,HN1.out.below hb,HA2.out,HP2.out,Nat.lt_of_le_of_lt hA HA2.out,hA,?_,hx.bel⟩,⟨by rw[Nat.one_mul];exact HW.out⟩⟩;have:=HBX1.out.b2.lt;omega
 case round=>
  obtain⟨Q,pa,na,ca,pq,nq,cq,HST,HQ⟩:=hrel;have c0:=HST.out.box0.cell;have c1:=HST.out.box1.cell
  go_wp2_with fail
  refine(Sr (Fit.of HST.out.a HST.out.limk) (Fit.of HST.out.p HST.out.limp) (by omega) (by omega)).mono ?_;rintro en w2 ⟨_,rfl,⟨qv,rv,rfl,hq,hr⟩,hb2⟩;rw[if_neg (by omega)]at hr
  rw[if_neg (by omega)];obtain⟨q,m,d,rfl,q1',q2'⟩:=hq;obtain⟨r,l,f,rfl,r1',r2'⟩:=hr;have HST2:=Ac (HST.out.later hb2);have HQ1:=Ac q1';have HR1:=Ac (Fit.of r1' r2');clear hb2 q1' r1' q2' r2' c0 c1;obtain⟨w3,hw3⟩:∃w3,(w2.alloc (.cells #[.slice q m d] 37)).alloc (.cells #[.slice r l f] 37)=w3:=⟨_,rfl⟩
  have hb3:Below w2.heap.size w2 w3:=by rw[<-hw3];exact((Bd _ _).alloc (Av _) _).alloc (by simp) _
  have hbq:Ae w3 w2.heap.size (.slice q m d):=by
   rw[<-hw3];exact(Ae.made w2 _).below ((Bd _ _).alloc (Av _) _) (by simp)
  have hbr:Ae w3 (w2.heap.size+1) (.slice r l f):=by
   rw[<-hw3];have:=Ae.made (w2.alloc (.cells #[.slice q m d] 37)) (.slice r l f);simpa using this
  have HST3:=Ac (HST2.out.later hb3);have HQ3:=Ac (HQ1.out.below hb3);have HR3:=Ac (HR1.out.below hb3);have HBQ:=Ac hbq;have HLT:Aa (w1.heap.size<w2.heap.size):=⟨HST2.out.box5.lt⟩
  have c3:=hbr.cell;clear hb3 hbq hbr
  by_cases h0:gk%P=0
  .have hz:Aa (decide (gk%P=0)=true):=⟨decide_eq_true h0⟩
   have HQP:Aa (Q*P*pw P (gk/P) (gk/P)=W):=⟨by
    have:=HQ.out
    rwa [Ob hP HST.out.pos,if_pos h0,<-Nat.mul_assoc]at this⟩
   have hk':Aa (0<gk/P/\gk/P<gk):=⟨Nat.div_pos (Nat.le_of_dvd HST.out.pos (Nat.dvd_of_mod_eq_zero h0)) (by omega),Nat.div_lt_self HST.out.pos (by omega)⟩
   have hWA:Aa (W<=A):=⟨by rw[<-HW.out];exact iA hA A⟩
   have hQW:Aa (Q*P<=W):=⟨by
    rw[<-HQP.out];exact Nat.le_mul_of_pos_right _ (fX hk'.out.1 _)⟩
   clear h0
   go_wp2_with fail
   refine(Ea HR3.out hz.out).mono ?_;rintro en w4 ⟨_,rfl,rfl,hb4⟩;have HST4:=Ac (HST3.out.later hb4);have HQ4:=Ac (HQ3.out.below hb4);have HB4:=Ac (HBQ.out.below hb4 HBQ.out.lt);clear c3 hb4;go_wp2;obtain⟨Q',hQ'⟩:∃Q',Q*P=Q':=⟨_,rfl⟩
   have HQ':=Ac hQ';rw[hQ']at HQP hQW
   clear hQ';refine Aj (by kernel_rfl) (by kernel_rfl)
    [some (.agg #[.slice q m d]),some (.agg #[.slice pq nq cq]),some (.agg #[.slice pp np cp]),none,none,none]
    [false,false,false,true,true,true] rfl
    (fun w1 w2=>Ap w.heap.size w1 w2)
    (fun D w'=>eG w w' e P w1.heap.size w2.heap.size gk Q (gk/P) Q' pp np cp pa na ca pq nq cq q m d (D 4) (D 5))
    (fun i v w'=>match i with
     | 3=>Cn Q' v w'
     | _=>True)
    ?_ ⟨HST4.out.box0,HST4.out.box1,HST4.out.box2,fun _=>HST4.out.box5,(fun a=>by cases a),HB4.out,HQ4.out.below (Bd _ _).drew,HST4.out.p.below (Bd _ _).drew,HST4.out.q.below (Bd _ _).drew,HST4.out.ne,HLT.out,HST4.out.bel.trans (Bd _ _).drew⟩ ?_ ?_
   .intro i v w1 w2 hf hb;split at hf
    .exact Cn.keep hf hb
    .trivial
   .simp only[Bh,Nat.reduceAdd];refine⟨?_,?_,?_,?_,?_,?_,trivial⟩
    all_goals intro D sp w' hD hW hdp hg
    case refine_1=>
     have c3:=hg.boxq.cell;simp[asked,Region.wanted,Oper.gives,execOp,Act.eval,go_sem,c3]
    case refine_2=>
     have h5:D 5=false:=hW 5 (mq (by kernel_rfl));have c3:=(hg.box5 h5).cell;simp[asked,Region.wanted,Oper.gives,execOp,Act.eval,Act.put,go_sem,c3]
    case refine_3=>
     have c3:=hg.box1.cell;simp[asked,Region.wanted,Oper.gives,execOp,Act.eval,Act.put,go_sem,c3]
    case refine_4=>
     (with_reducible refine Ad (w1:=w') (f := 95) (args:=#[.agg #[.slice pq nq cq],.agg #[.slice pp np cp]]) ?_ ?_ ?_)
     .simp only[Region.wanted]
     .simp[Act.eval,Act.put,go_sem]
     .refine(Ll (Fit.of hg.q HST.out.limq) (Fit.of hg.p HST.out.limp) (by omega) (by omega)).mono ?_;rintro en w5 ⟨u,rfl,hu,hb⟩;rw[HQ'.out]at hu
      obtain⟨p',n',c',e',u1,_⟩:=hu;exact⟨u,rfl,Ap.of hb hg.bel.size,⟨p',n',c',e',u1⟩,by simpa using hg.later hb⟩
    case refine_5=>
     rw[hD]at hg
     have hbx0:Ae w' w.heap.size (.slice pa na ca):=hg.box0;have g2:=hbx0.cell;have g3:=hbx0.free
     (with_reducible refine Aq (w1:=w'.setCell ⟨w.heap.size,0,none⟩ (.slice q m d)) ?_ ?_ ?_)
     .simp only[Region.wanted]
     .simp[execOp,Act.eval,Act.put,go_sem,g2,g3]
     .exact⟨Ap.store hbx0 (Av _) _,trivial,by simpa using hg.store4⟩
    case refine_6=>
     have hx:∃p n c,sp 3=.agg #[.slice p n c]/\Ah w' p n c Q':=(hdp 3 (mq (by kernel_rfl))).2;rw[hD]at hg
     (with_reducible refine Bc hx fun p hx1=>Bc hx1 fun n hx2=>Bc hx2 fun c hx3=>?_)
     have g1:=hx3.1;have hbx0:=hg.box5 rfl;have g2:=hbx0.cell;have g3:=hbx0.free;have hne:=hg.ne
     (with_reducible refine Aq (w1:=w'.setCell ⟨w1.heap.size,0,none⟩ (.slice p n c)) ?_ ?_ ?_)
     .simp only[Region.wanted]
     .simp[execOp,Act.eval,Act.put,go_sem,g1,g2,g3]
     .exact⟨Ap.store hbx0 (by omega) _,trivial,by simpa using hg.store5 hx3.2⟩
   .intro sp w7 hsp hg;obtain⟨p',n',c',x1,x2⟩:=hg.val5 rfl;have J:Aa (dS w w7 e P w1.heap.size (gk/P) Q' pp np cp q m d p' n' c'):=⟨hg.box0,hg.box1,hg.box2,x1,hg.k',hg.p,x2,Nat.lt_of_le_of_lt (Nat.div_le_self _ _) HST.out.limk,HST.out.limp,by have:=hQW.out;have:=hWA.out;have:=HA2.out;omega,hk'.out.1,hg.ne,hg.bel⟩
    clear hsp hg x1 x2;simp only[Ak,Nat.reduceAdd];generalize sp 3=u3,sp 4=u4,sp 5=u5 at *
    go_simp
    go_wp2
    go_roundg (gk/P)
    case measure=>exact hk'.out.2
    case rel=>exact⟨Q',q,m,d,p',n',c',J,HQP⟩
  .have HW1:Aa (Q=W):=⟨by
    have:=HQ.out
    rwa [Ob hP HST.out.pos,if_neg h0,Nat.mul_one]at this⟩
   have hz:Aa (decide (gk%P=0)=false):=⟨decide_eq_false h0⟩
   clear h0
   go_wp2_with fail
   refine(Ea HR3.out hz.out).mono ?_;rintro en w4 ⟨_,rfl,rfl,hb4⟩;have HST4:=Ac (HST3.out.later hb4);have d5:=HST4.out.box5.cell;have d2:=HST4.out.box2.cell;have f2:=HST4.out.box2.free;have hne:=HST4.out.ne;clear c3 hb4;go_wp2;refine bodyPost_ret (v:=.agg #[.slice pq nq cq]) (by simp[results,Tryz.results250,go_sem,d2]) rfl ⟨_,rfl,?_,?_⟩
   .rw[<-HW1.out];exact Fit.of (HST4.out.q.store HST4.out.box2 _) HST4.out.limq
   .exact HST4.out.bel.setCell (by simp;omega) _
end Go.Proofs.YtokhckjemidbpaaGreatDoor
