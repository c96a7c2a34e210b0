/- A key's block, and the two sums under a key. -/
import Derived.Test.YtnbmfaihlefgfaaGreatDoorRing
import Derived.Laws.OwnMore
import Derived.Lib.AppendZeros
import Derived.ArgAppend
import Derived.Deep.LoopGhost
import Derived.KernelRfl
import Derived.Laws.CopyOwn
import Derived.Tactics
set_option maxRecDepth 1000000
set_option maxHeartbeats 16000000
set_option linter.all false
namespace Go.Proofs.YtnbmfaihlefgfaaGreatDoor
open Go Go.RowKit Go.Proofs.YtnbmfaihlefgfaaGreatDoor.Flow
theorem gX (A E M i:Nat)(b:Bool)(hb:bit E i=b):A^(E/2^i)%M=if b then ((A^(E/2^(i+1))%M*(A^(E/2^(i+1))%M))%M*(A%M))%M else (A^(E/2^(i+1))%M*(A^(E/2^(i+1))%M))%M:=by
 rw[Gm E i,hb];generalize E/2^(i+1)=q;have e:A^(2*q)=A^q*A^q:=by rw[<-Nat.pow_add];congr 1;omega
 cases b with
 | false=>simp only[Bool.toNat_false,Nat.add_zero,Bool.false_eq_true,if_false,e,<-Nat.mul_mod]
 | true=>simp only[Bool.toNat_true,if_true,Nat.pow_succ,e,<-Nat.mul_mod]
theorem lV {w:World}{v u t:Value}{A E M:Nat}(h:Al A v w)(k:Al E u w)(l:Al M t w)(hA:Ak A<=100000)(hE:Ak E<=100000)(hM:Ak M<=100000)(hM0:0<M) :
  Calls Tryz.prog 135 #[v,u,t] w fun en w'=>∃x,en=.returned x/\Al (A^E%M) x w'/\Below w.heap.size w w':=by
 obtain⟨p,n,c,rfl,h⟩:=h;obtain⟨q,m,d,rfl,k⟩:=k;obtain⟨r,s,e,rfl,l⟩:=l;have hm:=De k;have HM:Ab (m=Ak E):=⟨hm⟩
 have HA:=Aa h;have HE:=Aa k;have HL:=Aa l;have hmm:m<=100000:=by omega
 have hblm:Ab (∀x,Ak (x%M)<=100000):=⟨fun x=>Dm (Bx (Nat.le_of_lt (Nat.mod_lt x hM0))) hM⟩
 clear h k l hm;go_enter Tryz.func135,Tryz.ntmps135
 go_wp2_with fail
 refine(Gq 1 w (by decide)).mono ?_;rintro en w1 ⟨p1,n1,c1,rfl,hn1,hb1,_⟩;have HL1:=Aa (HL.out.below hb1)
 go_wp2_with fail
 refine(Fh (Al.of hn1) (Al.of HL1.out) (by have:Ak 1<=1:=(Bq 1 1).2 (by decide);omega) (by omega) hM0).mono ?_;rintro en w2 ⟨x2,rfl,hx2,hb2⟩;have HX2:=Aa hx2;have HB2:=Aa (Ae hb1 hb2);clear hn1 hb1 hx2 hb2
 go_wp2_with fail
 refine(Fh (Al.of (HA.out.below HB2.out)) (Al.of (HL.out.below HB2.out)) (by omega) (by omega) hM0).mono ?_;rintro en w3 ⟨x3,rfl,hx3,hb3⟩;have HX3:=Aa hx3;have HX2':=Aa (HX2.out.below hb3);have HB3:=Aa (Ae HB2.out hb3);clear hx3 hb3;go_wp2
 go_loopw [7,8] (fun rv iv wr=>∃j:Nat,j<=m/\iv=.int .i64 ((j:Int)-1)/\Ab (Al (A^(E/2^j)%M) rv wr)/\Ab (Below w3.heap.size w3 wr)) (fun _ iv _=>(intOf iv+1).toNat)
 case atStart=>
  refine⟨m,Av _,rfl,⟨?_⟩,⟨Br _ _⟩⟩;rw[HM.out,Nat.div_eq_of_lt (Ec E),Nat.pow_zero];exact HX2'.out
 case round=>
  obtain⟨j,hj,rfl,HR,HBr⟩:=hrel
  cases j with
  | zero=>
   have HR0:Ab (Al (A^E%M) u7 wr):=⟨by have:=HR.out;rwa [Nat.pow_zero,Nat.div_one]at this⟩
   go_wp2;go_ret;exact⟨_,rfl,HR0.out,Ae HB3.out HBr.out⟩
  | succ j=>
   have e1:(((j+1:Nat):Int)-1)=(j:Int):=by omega
   simp only[e1];have HBr3:=Aa (Ae HB3.out HBr.out);have HEr:=Aa (HE.out.below HBr3.out);have HLr:=Aa (HL.out.below HBr3.out);have HS:Ab _:=⟨fun b hb=>gX A E M j b hb⟩
   clear e1
   go_wp2_with fail
   refine(Hs HR.out HR.out (Al.of HLr.out) (hblm.out _) (hblm.out _) (by omega) hM0).mono ?_;rintro en w4 ⟨x4,rfl,hx4,hb4⟩;have HE4:=Aa (HEr.out.below hb4);obtain⟨b,off,rfl,hbs,hc⟩:=Ff.pos HE4.out (by omega);obtain⟨B,hB⟩:∃B,bit E j=B:=⟨_,rfl⟩
   have hcj:=hc j B (by rw[<-hB];exact Di (by rw[<-HM.out];omega));have HX4:=Aa hx4;have HB4:=Aa (HBr.out.trans (hb4.mono HBr.out.size));have HPS:=HS.out B hB;have HX34:=Aa ((HX3.out.below HBr.out).below hb4);have HL4:=Aa (HLr.out.below hb4);have HP:=Aa HPS;clear hx4 hb4 hc hB HPS
   cases B with
   | false=>
    go_wp2;go_roundw
    case rel=>exact⟨j,by omega,rfl,⟨by rw[HP.out,if_neg (by simp)];exact HX4.out⟩,HB4⟩
    case measure=>simp[intOf]
   | true=>
    go_wp2_with fail
    refine(Hs HX4.out HX34.out (Al.of HL4.out) (hblm.out _) (hblm.out _) (by omega) hM0).mono ?_;rintro en w5 ⟨x5,rfl,hx5,hb5⟩;have HX5:=Aa hx5;have HB5:=Aa (HB4.out.trans (hb5.mono HB4.out.size));clear hx5 hb5;go_wp2;go_roundw
    case rel=>exact⟨j,by omega,rfl,⟨by rw[HP.out,if_pos trivial];exact HX5.out⟩,HB5⟩
    case measure=>simp[intOf]
structure Jm (w:World) (p:Option Addr) (n c:Nat) (Ns:List Nat):Prop where
 len:n=Ns.length
 cap:n<=c
 max:c<=9223372036854775807
 at_:0<n->∃b off,p=some ⟨b,off,none⟩/\b<w.heap.size/\∀i N,Ns[i]? = some N->∃q m d,w.cell? ⟨b,off+i,none⟩=some (.slice q m d)/\Bt w q m d N
theorem Jm.below {w w':World}{p:Option Addr}{n c:Nat}{Ns:List Nat}(h:Jm w p n c Ns)(hb:Below w.heap.size w w'):Jm w' p n c Ns:=by
 refine⟨h.len,h.cap,h.max,fun h0=>?_⟩;obtain⟨b,off,h1,h2,h3⟩:=h.at_ h0
 refine⟨b,off,h1,Eh h2 hb.size,fun i N hN=>?_⟩;obtain⟨q,m,d,h4,h5⟩:=h3 i N hN;exact⟨q,m,d,by rw[hb.cell (p:=⟨b,off+i,none⟩) h2];exact h4,h5.below hb⟩
theorem Hi {P:Program}{o:Oper}{ops:Array Oper}{a:Act}{w:World}{K:Value->World->Prop}(hw:Region.wanted o (yielded ops a.tmps)=false)(hk:K undef w):asked P o ops a w K:=by
 unfold asked;rw[if_neg (by rw[hw];exact Bool.false_ne_true)];exact hk
def pm (a n:Nat):Nat->Nat->Nat
 | 0,_=>1%n
 | f+1,e=>if e=0 then 1%n else
  let h:=pm a n f (e/2)
  if e%2=1 then h*h%n*a%n else h*h%n
theorem Kt (a n:Nat):∀f e,e<2^f->pm a n f e=a^e%n
 | 0,e,h=>by
  have:e=0:=by simp at h;omega
  subst this;rw[pm,Nat.pow_zero]
 | f+1,e,h=>by
  unfold pm;split
  .rename_i h0;rw[h0,Nat.pow_zero]
  .have ih:=Kt a n f (e/2) (by rw[Nat.pow_succ]at h;omega);have e2:a^(2*(e/2))=a^(e/2)*a^(e/2):=by rw[<-Nat.pow_add];congr 1;omega
   simp only[ih];split
   .rename_i h1
    have:e=2*(e/2)+1:=by omega
    conv=>rhs;rw[this,Nat.pow_succ,e2]
    simp[Nat.mul_mod]
   .rename_i h1
    have:e=2*(e/2):=by omega
    conv=>rhs;rw[this,e2]
    rw[<-Nat.mul_mod]
theorem Tryz.info_N:(Tryz.prog.info? 28).map (fun i=>(i.zero,i.size,i.bytes))=some (some (.slice none 0 0),1,24):=by kernel_rfl
structure Aw (w:World) (e:Nat) (p:Option Addr) (n c:Nat) (Ns:List Nat):Prop where
 len:n=Ns.length
 cap:n<=c
 max:c<=9223372036854775807
 nil:p=none->c=0
 at_:0<n->∃b off,p=some ⟨b,off,none⟩/\b<w.heap.size/\∀i N,Ns[i]? = some N->∃q m d,w.cell? ⟨b,off+i,none⟩=some (.slice q m d)/\Ai w q m d N/\N<Ao e
theorem Aw.below {w w':World}{e:Nat}{p:Option Addr}{n c:Nat}{Ns:List Nat}(h:Aw w e p n c Ns)(hb:Below w.heap.size w w'):Aw w' e p n c Ns:=by
 refine⟨h.len,h.cap,h.max,h.nil,fun h0=>?_⟩;obtain⟨b,off,h1,h2,h3⟩:=h.at_ h0
 refine⟨b,off,h1,Eh h2 hb.size,fun i N hN=>?_⟩;obtain⟨q,m,d,h4,h5,h6⟩:=h3 i N hN;exact⟨q,m,d,by rw[hb.cell (p:=⟨b,off+i,none⟩) h2];exact h4,h5.below hb,h6⟩
theorem Aw.none (w:World)(e:Nat):Aw w e none 0 0 []:=⟨rfl,Av _,by omega,fun _=>rfl,fun h=>by omega⟩
structure Fa (w:World) (e:Nat) (p:Option Addr) (n c:Nat) (l:List Ce):Prop where
 len:n=l.length
 cap:n<=c
 max:c<=9223372036854775807
 nil:p=none->c=0
 at_:0<n->∃b off,p=some ⟨b,off,none⟩/\b<w.heap.size/\∀i s,l[i]? = some s->∃q0 m0 d0 q1 m1 d1 q2 m2 d2,
  w.cell? ⟨b,off+i*3,none⟩=some (.slice q0 m0 d0)/\w.cell? ⟨b,off+i*3+1,none⟩=some (.slice q1 m1 d1)/\w.cell? ⟨b,off+i*3+2,none⟩=some (.slice q2 m2 d2) /\
  Ai w q0 m0 d0 s.n/\s.n<Ao e/\Ai w q1 m1 d1 s.base/\s.base<Ao e/\Aw w e q2 m2 d2 s.ps
theorem Fa.below {w w':World}{e:Nat}{p:Option Addr}{n c:Nat}{l:List Ce}(h:Fa w e p n c l)(hb:Below w.heap.size w w'):Fa w' e p n c l:=by
 refine⟨h.len,h.cap,h.max,h.nil,fun h0=>?_⟩;obtain⟨b,off,h1,h2,h3⟩:=h.at_ h0
 refine⟨b,off,h1,Eh h2 hb.size,fun i s hs=>?_⟩;obtain⟨q0,m0,d0,q1,m1,d1,q2,m2,d2,k0,k1,k2,k3,k4,k5,k6,k7⟩:=h3 i s hs;have hc:∀o,w'.cell? ⟨b,o,none⟩=w.cell? ⟨b,o,none⟩:=fun o=>hb.cell (p:=⟨b,o,none⟩) h2
 exact⟨q0,m0,d0,q1,m1,d1,q2,m2,d2,by rw[hc];exact k0,by rw[hc];exact k1,by rw[hc];exact k2,k3.below hb,k4,k5.below hb,k6,k7.below hb⟩
def Ew (s:Ce):Prop:=1024<Ak s.n ∨ 1024<Ak s.base ∨ ∃p∈s.ps,1024<Ak p
open Classical in
def iR:Prop:=∀(w:World) (N e:Nat) (v:Value),Fit e N v w->e<=200 ->
 Calls Tryz.prog 190 #[v] w fun en w'=>en=.returned (.bool (decide (Cy N)))/\Below w.heap.size w w'
theorem Fit.tight {e f N:Nat}{v:Value}{w:World}(h:Fit e N v w)(hN:N<Ao f):Fit f N v w :=
 let ⟨p,n,c,h1,h2,_⟩:=h
 ⟨p,n,c,h1,h2,hN⟩
theorem pP {p n:Nat}(h:0<n)(f:Nat):0<pw p f n:=Nat.pos_of_dvd_of_pos (Wf p f n) h
theorem qN {p n:Nat}(h:0<n)(f:Nat):pw p f n<=n:=Nat.le_of_dvd h (Wf p f n)
structure mS (w wr:World) (e P b5 k Q:Nat) (pp:Option Addr) (np cp:Nat) (pa:Option Addr) (na ca:Nat) (pq:Option Addr) (nq cq:Nat):Prop where
 box0:Af wr w.heap.size (.slice pa na ca)
 box1:Af wr (w.heap.size+1) (.slice pp np cp)
 box2:Af wr (w.heap.size+1+1) (.slice none 0 0)
 box5:Af wr b5 (.slice pq nq cq)
 a:Ai wr pa na ca k
 p:Ai wr pp np cp P
 q:Ai wr pq nq cq Q
 limk:k<Ao e
 limp:P<Ao e
 limq:Q<Ao e
 pos:0<k
 ne:w.heap.size+3<=b5
 bel:Below w.heap.size w wr
theorem mS.later {w wr w1:World}{e P b5 k Q:Nat}{pp:Option Addr}{np cp:Nat}{pa:Option Addr}{na ca:Nat}{pq:Option Addr}{nq cq:Nat}(h:mS w wr e P b5 k Q pp np cp pa na ca pq nq cq)(hb:Below wr.heap.size wr w1):mS w w1 e P b5 k Q pp np cp pa na ca pq nq cq :=
 ⟨h.box0.below hb h.box0.lt,h.box1.below hb h.box1.lt,h.box2.below hb h.box2.lt,h.box5.below hb h.box5.lt,h.a.below hb,h.p.below hb,h.q.below hb,h.limk,h.limp,h.limq,h.pos,h.ne,Ae h.bel hb⟩
structure nI (w wr:World) (e P b5 bq k Q k' Q':Nat) (pp:Option Addr) (np cp:Nat) (pa:Option Addr) (na ca:Nat) (pq:Option Addr) (nq cq:Nat) (q:Option Addr) (m d:Nat) (d4 d5:Bool):Prop where
 box0:Af wr w.heap.size (if d4 then .slice q m d else .slice pa na ca)
 box1:Af wr (w.heap.size+1) (.slice pp np cp)
 box2:Af wr (w.heap.size+1+1) (.slice none 0 0)
 box5:d5=false->Af wr b5 (.slice pq nq cq)
 val5:d5=true->Cl wr b5 Q'
 boxq:Af wr bq (.slice q m d)
 k':Ai wr q m d k'
 p:Ai wr pp np cp P
 q:Ai wr pq nq cq Q
 ne:w.heap.size+3<=b5
 neq:b5<bq
 bel:Below w.heap.size w wr
theorem nI.later {w wr w1:World}{e P b5 bq k Q k' Q':Nat}{pp:Option Addr}{np cp:Nat}{pa:Option Addr}{na ca:Nat}{pq:Option Addr}{nq cq:Nat}{q:Option Addr}{m d:Nat}{d4 d5:Bool}(h:nI w wr e P b5 bq k Q k' Q' pp np cp pa na ca pq nq cq q m d d4 d5)(hb:Below wr.heap.size wr w1):nI w w1 e P b5 bq k Q k' Q' pp np cp pa na ca pq nq cq q m d d4 d5 :=
 ⟨h.box0.below hb h.box0.lt,h.box1.below hb h.box1.lt,h.box2.below hb h.box2.lt,fun a=>(h.box5 a).below hb (h.box5 a).lt,fun a=>(h.val5 a).below hb,h.boxq.below hb h.boxq.lt,h.k'.below hb,h.p.below hb,h.q.below hb,h.ne,h.neq,Ae h.bel hb⟩
theorem nI.store4 {w wr:World}{e P b5 bq k Q k' Q':Nat}{pp:Option Addr}{np cp:Nat}{pa:Option Addr}{na ca:Nat}{pq:Option Addr}{nq cq:Nat}{q:Option Addr}{m d:Nat}{d5:Bool}(h:nI w wr e P b5 bq k Q k' Q' pp np cp pa na ca pq nq cq q m d false d5) :
  nI w (wr.setCell ⟨w.heap.size,0,none⟩ (.slice q m d)) e P b5 bq k Q k' Q' pp np cp pa na ca pq nq cq q m d true d5:=by
 have hb:Af wr w.heap.size (.slice pa na ca):=h.box0;have h1:=h.ne;have h2:=h.neq;exact⟨hb.set _,h.box1.other (by omega) _,h.box2.other (by omega) _,fun a=>(h.box5 a).other (by omega) _,fun a=>(h.val5 a).other hb (by omega) _,h.boxq.other (by omega) _,h.k'.store hb _,h.p.store hb _,h.q.store hb _,h.ne,h.neq,h.bel.setCell (Av _) _⟩
theorem nI.store5 {w wr:World}{e P b5 bq k Q k' Q':Nat}{pp:Option Addr}{np cp:Nat}{pa:Option Addr}{na ca:Nat}{pq:Option Addr}{nq cq:Nat}{q:Option Addr}{m d:Nat}{d4:Bool}{p':Option Addr}{n' c':Nat}(h:nI w wr e P b5 bq k Q k' Q' pp np cp pa na ca pq nq cq q m d d4 false)(hq:Ai wr p' n' c' Q') :
  nI w (wr.setCell ⟨b5,0,none⟩ (.slice p' n' c')) e P b5 bq k Q k' Q' pp np cp pa na ca pq nq cq q m d d4 true:=by
 have hb:=h.box5 rfl;have h1:=h.ne;have h2:=h.neq;exact⟨h.box0.other (by omega) _,h.box1.other (by omega) _,h.box2.other (by omega) _,(fun a=>by cases a),fun _=>⟨p',n',c',hb.set _,hq.store hb _⟩,h.boxq.other (by omega) _,h.k'.store hb _,h.p.store hb _,h.q.store hb _,h.ne,h.neq,h.bel.setCell (by simp;omega) _⟩
theorem fN {w:World}{v u:Value}{e A P:Nat}(h:Fit e A v w)(k:Fit e P u w)(he:e<=300000)(hP:2<=P)(hA:0<A) :
  Calls Tryz.prog 252 #[v,u] w fun en w'=>∃x,en=.returned x/\Fit e (pw P A A) x w'/\Below w.heap.size w w':=by
 obtain⟨pa,na,ca,rfl,h1,h2⟩:=Au h;obtain⟨pp,np,cp,rfl,k1,k2⟩:=Au k;have hbx:=aZ.mk3 w (.slice pa na ca) (.slice pp np cp) (.slice none 0 0);have HBX:=Aa hbx;have HA1:=Aa h1;have HP1:=Aa k1;have HA2:=Aa h2;have HP2:=Aa k2;obtain⟨W,hW⟩:∃W,pw P A A=W:=⟨_,rfl⟩
 have HW:=Aa hW;rw[hW];clear h k h1 h2 k1 k2 hbx hW;go_enter Tryz.func252,Tryz.ntmps252
 go_wp2_with fail
 refine(Da 1 _ (by decide)).mono ?_;rintro en w1 ⟨q1,m1,d1,rfl,hn1,hb1,_⟩;have HN1:=Aa hn1;have HBX1:=Aa (HBX.out.later hb1);clear hb1 hn1;go_wp2
 go_loopg [6,7,8] A (fun k _ _ _ wr=>∃(Q:Nat) (pa:Option Addr) (na ca:Nat) (pq:Option Addr) (nq cq:Nat),Ab (mS w wr e P w1.heap.size k Q pp np cp pa na ca pq nq cq)/\Ab (Q*pw P k k=W))
 case atStart=>
  have hb:Below w1.heap.size w1 (w1.alloc (.cells #[.slice q1 m1 d1] 36)):=Dl;have hx:=HBX1.out.later hb;refine⟨1,pa,na,ca,q1,m1,d1,⟨hx.b0,hx.b1,hx.b2,Af.made w1 _,HA1.out.below hx.bel,HP1.out.below hx.bel,HN1.out.below hb,HA2.out,HP2.out,Nat.lt_of_le_of_lt hA HA2.out,hA,?_,hx.bel⟩,⟨by rw[Nat.one_mul];exact HW.out⟩⟩;have:=HBX1.out.b2.lt;omega
 case round=>
  obtain⟨Q,pa,na,ca,pq,nq,cq,HST,HQ⟩:=hrel;have c0:=HST.out.box0.cell;have c1:=HST.out.box1.cell
  go_wp2_with fail
  refine(Xh (Fit.of HST.out.a HST.out.limk) (Fit.of HST.out.p HST.out.limp) (by omega) (by omega)).mono ?_;rintro en w2 ⟨_,rfl,⟨qv,rv,rfl,hq,hr⟩,hb2⟩;rw[if_neg (by omega)]at hr
  rw[if_neg (by omega)];obtain⟨q,m,d,rfl,q1',q2'⟩:=hq;obtain⟨r,l,f,rfl,r1',r2'⟩:=hr;have HST2:=Aa (HST.out.later hb2);have HQ1:=Aa q1';have HR1:=Aa (Fit.of r1' r2');clear hb2 q1' r1' q2' r2' c0 c1;obtain⟨w3,hw3⟩:∃w3,(w2.alloc (.cells #[.slice q m d] 36)).alloc (.cells #[.slice r l f] 36)=w3:=⟨_,rfl⟩
  have hb3:Below w2.heap.size w2 w3:=by rw[<-hw3];exact((Br _ _).alloc (Av _) _).alloc (by simp) _
  have hbq:Af w3 w2.heap.size (.slice q m d):=by
   rw[<-hw3];exact(Af.made w2 _).below ((Br _ _).alloc (Av _) _) (by simp)
  have hbr:Af w3 (w2.heap.size+1) (.slice r l f):=by
   rw[<-hw3];have:=Af.made (w2.alloc (.cells #[.slice q m d] 36)) (.slice r l f);simpa using this
  have HST3:=Aa (HST2.out.later hb3);have HQ3:=Aa (HQ1.out.below hb3);have HR3:=Aa (HR1.out.below hb3);have HBQ:=Aa hbq;have HLT:Ab (w1.heap.size<w2.heap.size):=⟨HST2.out.box5.lt⟩
  have c3:=hbr.cell;clear hb3 hbq hbr
  by_cases h0:gk%P=0
  .have hz:Ab (decide (gk%P=0)=true):=⟨decide_eq_true h0⟩
   have HQP:Ab (Q*P*pw P (gk/P) (gk/P)=W):=⟨by
    have:=HQ.out
    rwa [Rn hP HST.out.pos,if_pos h0,<-Nat.mul_assoc]at this⟩
   have hk':Ab (0<gk/P/\gk/P<gk):=⟨Nat.div_pos (Nat.le_of_dvd HST.out.pos (Nat.dvd_of_mod_eq_zero h0)) (by omega),Nat.div_lt_self HST.out.pos (by omega)⟩
   have hWA:Ab (W<=A):=⟨by rw[<-HW.out];exact qN hA A⟩
   have hQW:Ab (Q*P<=W):=⟨by
    rw[<-HQP.out];exact Nat.le_mul_of_pos_right _ (pP hk'.out.1 _)⟩
   clear h0
   go_wp2_with fail
   refine(Md HR3.out hz.out).mono ?_;rintro en w4 ⟨_,rfl,rfl,hb4⟩;have HST4:=Aa (HST3.out.later hb4);have HQ4:=Aa (HQ3.out.below hb4);have HB4:=Aa (HBQ.out.below hb4 HBQ.out.lt);clear c3 hb4;go_wp2;obtain⟨Q',hQ'⟩:∃Q',Q*P=Q':=⟨_,rfl⟩
   have HQ':=Aa hQ';rw[hQ']at HQP hQW
   clear hQ';refine Aj (by kernel_rfl) (by kernel_rfl)
    [some (.agg #[.slice q m d]),some (.agg #[.slice pq nq cq]),some (.agg #[.slice pp np cp]),none,none,none]
    [false,false,false,true,true,true] rfl
    (fun w1 w2=>Ap w.heap.size w1 w2)
    (fun D w'=>nI w w' e P w1.heap.size w2.heap.size gk Q (gk/P) Q' pp np cp pa na ca pq nq cq q m d (D 4) (D 5))
    (fun i v w'=>match i with
     | 3=>Dk Q' v w'
     | _=>True)
    ?_ ⟨HST4.out.box0,HST4.out.box1,HST4.out.box2,fun _=>HST4.out.box5,(fun a=>by cases a),HB4.out,HQ4.out.below (Br _ _).drew,HST4.out.p.below (Br _ _).drew,HST4.out.q.below (Br _ _).drew,HST4.out.ne,HLT.out,HST4.out.bel.trans (Br _ _).drew⟩ ?_ ?_
   .intro i v w1 w2 hf hb;split at hf
    .exact Dk.keep hf hb
    .trivial
   .simp only[Bu,Nat.reduceAdd];refine⟨?_,?_,?_,?_,?_,?_,trivial⟩
    all_goals intro D sp w' hD hW hdp hg
    case refine_1=>
     have c3:=hg.boxq.cell;simp[asked,Region.wanted,Oper.gives,execOp,Act.eval,go_sem,c3]
    case refine_2=>
     have h5:D 5=false:=hW 5 (mq (by kernel_rfl));have c3:=(hg.box5 h5).cell;simp[asked,Region.wanted,Oper.gives,execOp,Act.eval,Act.put,go_sem,c3]
    case refine_3=>
     have c3:=hg.box1.cell;simp[asked,Region.wanted,Oper.gives,execOp,Act.eval,Act.put,go_sem,c3]
    case refine_4=>
     (with_reducible refine Ac (w1:=w') (f := 122) (args:=#[.agg #[.slice pq nq cq],.agg #[.slice pp np cp]]) ?_ ?_ ?_)
     .simp only[Region.wanted]
     .simp[Act.eval,Act.put,go_sem]
     .refine(Mk (Fit.of hg.q HST.out.limq) (Fit.of hg.p HST.out.limp) (by omega) (by omega)).mono ?_;rintro en w5 ⟨u,rfl,hu,hb⟩;rw[HQ'.out]at hu
      obtain⟨p',n',c',e',u1,_⟩:=hu;exact⟨u,rfl,Ap.of hb hg.bel.size,⟨p',n',c',e',u1⟩,by simpa using hg.later hb⟩
    case refine_5=>
     rw[hD]at hg
     have hbx0:Af w' w.heap.size (.slice pa na ca):=hg.box0;have g2:=hbx0.cell;have g3:=hbx0.free
     (with_reducible refine Ar (w1:=w'.setCell ⟨w.heap.size,0,none⟩ (.slice q m d)) ?_ ?_ ?_)
     .simp only[Region.wanted]
     .simp[execOp,Act.eval,Act.put,go_sem,g2,g3]
     .exact⟨Ap.store hbx0 (Av _) _,trivial,by simpa using hg.store4⟩
    case refine_6=>
     have hx:∃p n c,sp 3=.agg #[.slice p n c]/\Ai w' p n c Q':=(hdp 3 (mq (by kernel_rfl))).2;rw[hD]at hg
     (with_reducible refine Bp hx fun p hx1=>Bp hx1 fun n hx2=>Bp hx2 fun c hx3=>?_)
     have g1:=hx3.1;have hbx0:=hg.box5 rfl;have g2:=hbx0.cell;have g3:=hbx0.free;have hne:=hg.ne
     (with_reducible refine Ar (w1:=w'.setCell ⟨w1.heap.size,0,none⟩ (.slice p n c)) ?_ ?_ ?_)
     .simp only[Region.wanted]
     .simp[execOp,Act.eval,Act.put,go_sem,g1,g2,g3]
     .exact⟨Ap.store hbx0 (by omega) _,trivial,by simpa using hg.store5 hx3.2⟩
   .intro sp w7 hsp hg;obtain⟨p',n',c',x1,x2⟩:=hg.val5 rfl;have J:Ab (mS w w7 e P w1.heap.size (gk/P) Q' pp np cp q m d p' n' c'):=⟨hg.box0,hg.box1,hg.box2,x1,hg.k',hg.p,x2,Nat.lt_of_le_of_lt (Nat.div_le_self _ _) HST.out.limk,HST.out.limp,by have:=hQW.out;have:=hWA.out;have:=HA2.out;omega,hk'.out.1,hg.ne,hg.bel⟩
    clear hsp hg x1 x2;simp only[An,Nat.reduceAdd];generalize sp 3=u3,sp 4=u4,sp 5=u5 at *
    go_simp
    go_wp2
    go_roundg (gk/P)
    case measure=>exact hk'.out.2
    case rel=>exact⟨Q',q,m,d,p',n',c',J,HQP⟩
  .have HW1:Ab (Q=W):=⟨by
    have:=HQ.out
    rwa [Rn hP HST.out.pos,if_neg h0,Nat.mul_one]at this⟩
   have hz:Ab (decide (gk%P=0)=false):=⟨decide_eq_false h0⟩
   clear h0
   go_wp2_with fail
   refine(Md HR3.out hz.out).mono ?_;rintro en w4 ⟨_,rfl,rfl,hb4⟩;have HST4:=Aa (HST3.out.later hb4);have d5:=HST4.out.box5.cell;have d2:=HST4.out.box2.cell;have f2:=HST4.out.box2.free;have hne:=HST4.out.ne;clear c3 hb4;go_wp2;refine bodyPost_ret (v:=.agg #[.slice pq nq cq]) (by simp[results,Tryz.results252,go_sem,d2]) rfl ⟨_,rfl,?_,?_⟩
   .rw[<-HW1.out];exact Fit.of (HST4.out.q.store HST4.out.box2 _) HST4.out.limq
   .exact HST4.out.bel.setCell (by simp;omega) _
open Go
def Nq (key:List Nat):List Nat:=if 64<key.length then bF key else key
def Fk (key:List Nat):List Nat:=Nq key++List.replicate (64-(Nq key).length) 0
def masked (b:List Nat)(x:Nat):List Nat:=b.map (· ^^^ x)
def cU (key:List Nat):List Nat:=masked (Fk key) 54
def cK (key:List Nat):List Nat:=masked (Fk key) 92
def bP (key m:List Nat):List Nat:=cK key++bF (cU key++m)
def Lk (key m:List Nat):List Nat:=bF (bP key m)
theorem Lf (key:List Nat):(Nq key).length<=64:=by
 unfold Nq;split
 .rw[En];omega
 .omega
theorem Iu (key:List Nat):(Fk key).length=64:=by have:=Lf key;simp[Fk];omega
theorem cS {key:List Nat}(h:Bv key):Bv (Nq key):=by
 unfold Nq;split
 .exact Pr _
 .exact h
theorem Wv {key:List Nat}(h:Bv key):Bv (Fk key):=by
 intro x hx;rcases List.mem_append.1 hx with h1|h1
 .exact cS h x h1
 .have:=(List.mem_replicate.1 h1).2;omega
theorem Gl (b:List Nat)(x:Nat):(masked b x).length=b.length:=by simp[masked]
theorem Wo {b:List Nat}(h:Bv b){x:Nat}(hx:x<256):Bv (masked b x):=by
 intro y hy;obtain⟨z,hz,rfl⟩:=List.mem_map.1 hy;exact Nat.xor_lt_two_pow (n:=8) (h z hz) hx
theorem Lj (key m:List Nat):(Lk key m).length=32:=En _
theorem Sr (key m:List Nat):Bv (Lk key m):=Pr _
def bS (p:Nat):Bool:=decide (2<=p)&&decide (p<65536)&&(List.range 256).all fun d=>decide (d<2)||decide (p<d*d) || !(p%d==0)
theorem Ih {p:Nat}(h:bS p=true):Cy p:=by
 simp only[bS,Bool.and_eq_true,decide_eq_true_eq,List.all_eq_true,Bool.or_eq_true,Bool.not_eq_true',beq_eq_false_iff_ne]at h;obtain⟨⟨h2,hlt⟩,h⟩:=h;refine⟨h2,hlt,fun d h3 h4=>?_⟩;have hd:d<256:=Nat.lt_of_not_le fun hle=>by have:=Nat.mul_le_mul hle hle;omega
 rcases h d (List.mem_range.2 hd) with (h5|h5)|h5
 .omega
 .omega
 .exact h5
theorem eI {p:Nat}(hp:2<=p):∀(f n:Nat),0<n->n<2^f->pw p f n=pw p n n
 | 0,n,h0,h=>by simp at h;omega
 | f+1,n,h0,h=>by
  rw[Rn hp h0,pw];split
  .rename_i hm
   have h4:0<n/p:=Nat.div_pos (Nat.le_of_dvd h0 (Nat.dvd_of_mod_eq_zero hm)) (by omega);have h5:n/p<2^f:=by
    have:n/p<=n/2:=Nat.div_le_div_left hp (by omega);rw[Nat.pow_succ]at h
    omega
   rw[eI hp f (n/p) h4 h5]
  .rfl
def okB (f N base:Nat)(behind ps:List Nat)(i p:Nat):Bool :=
 !(ps.take i).contains p&&(bS p||behind.contains p)&&decide (2<=p)&&(N-1)%p==0&&Nat.gcd ((pm base N f ((N-1)/p)+N-1)%N) N==1
def holdsB (f N base:Nat)(ps behind:List Nat):Bool :=
 decide (2<=N) && !ps.isEmpty&&decide (ps.length<=32)&&decide (N<=2^f)&&(List.range ps.length).all (fun i=>okB f N base behind ps i (ps.getD i 0))&&pm base N f (N-1)==1 &&
  decide (N<ps.foldl (fun a p=>a*pw p f (N-1)) 1*ps.foldl (fun a p=>a*pw p f (N-1)) 1)
theorem Zr {f n:Nat}(h0:0<n)(h:n<2^f):∀(ps:List Nat) (a:Nat),(∀p∈ps,2<=p)->ps.foldl (fun a p=>a*pw p f n) a=ps.foldl (fun a p=>a*pw p n n) a
 | [],_,_=>rfl
 | p::ps,a,hp=>by
  rw[List.foldl_cons,List.foldl_cons,eI (hp p (by simp)) f n h0 h];exact Zr h0 h ps _ fun q hq=>hp q (by simp[hq])
theorem Li {f N base:Nat}{ps behind:List Nat}(h:holdsB f N base ps behind=true):Gw N base ps behind:=by
 simp only[holdsB,Bool.and_eq_true,decide_eq_true_eq,List.all_eq_true,Bool.not_eq_true',beq_iff_eq]at h;obtain⟨⟨⟨⟨⟨⟨h2,hne⟩,h32⟩,hf⟩,hall⟩,hone⟩,hgr⟩:=h;have hlt:N-1<2^f:=by omega
 have each:∀i p,ps[i]? = .some p->mU N base behind ps i p:=fun i p hp=>by
  have hi:=(List.getElem?_eq_some_iff.1 hp).1;have h3:=hall i (List.mem_range.2 hi);rw[Ex,hp,Option.getD_some]at h3
  simp only[okB,Bool.and_eq_true,decide_eq_true_eq,Bool.not_eq_true',beq_iff_eq,Bool.or_eq_true,List.contains_iff_mem]at h3;obtain⟨⟨⟨⟨k1,k2⟩,k3⟩,k4⟩,k5⟩:=h3;refine⟨(fun hm=>by rw[List.contains_iff_mem.2 hm]at k1;cases k1),k2.imp Ih id,k3,k4,?_⟩;rw[<-Kt base N f _ (Nat.lt_of_le_of_lt (Nat.div_le_self _ _) hlt)];exact k5
 have hps:∀p∈ps,2<=p:=fun p hp=>by
  obtain⟨i,hi,e⟩:=List.getElem_of_mem hp;exact(each i p (by rw[List.getElem?_eq_getElem hi,e])).2.2.1
 refine⟨h2,(fun e=>by rw[e]at hne;cases hne),h32,each,?_,?_⟩
 .rw[<-Kt base N f _ hlt];exact hone
 .have:=Zr (f:=f) (n:=N-1) (by omega) hlt ps 1 hps;unfold Tw;rw[<-this];exact hgr
def gP:Nat->Nat
 | 0=>607
 | 1=>655211
 | _=>20752587082923246163
def gQ:Nat->Nat
 | 0=>101
 | 1=>65521
 | _=>1152921504606847009
def gG:Nat->Nat
 | 0=>64
 | 1=>1024
 | _=>262144
def gH:Nat->Nat
 | 0=>597
 | 1=>96520
 | _=>12833098634328171918
def qS:Nat->Nat
 | 0=>2
 | 1=>3
 | _=>9
def Nt:Nat->Nat
 | 0=>6
 | 1=>10
 | _=>18
def Ez:Nat->List Ce
 | 0=>[]
 | 1=>[⟨655211,2,[65521]⟩]
 | _=>[⟨1152921504606847009,13,[2,3,11,683,2971]⟩,⟨20752587082923246163,2,[1152921504606847009]⟩]
theorem lI:Gw 655211 2 [65521] []:=Li (f:=20) (by kernel_rfl)
theorem gW:Gw 1152921504606847009 13 [2,3,11,683,2971] []:=Li (f:=61) (by kernel_rfl)
theorem gV:Gw 20752587082923246163 2 [1152921504606847009] [1152921504606847009]:=Li (f:=65) (by kernel_rfl)
theorem jJ:Cy 607:=Ih (by kernel_rfl)
theorem jK:Cy 101:=Ih (by kernel_rfl)
theorem bT:Cy 65521:=Ih (by kernel_rfl)
def Told (N:Nat)(l:List Ce):Prop:=Cy N ∨ (Cq [] l/\∃s∈l,s.n=N)
theorem Px:∀i,i<3->Cq [] (Ez i)
 | 0,_=>trivial
 | 1,_=>⟨lI,trivial⟩
 | 2,_=>⟨gW,gV,trivial⟩
 | _+3,h=>by omega
theorem oK:∀i,i<3->Told (gP i) (Ez i)
 | 0,_=>.inl jJ
 | 1,_=>.inr ⟨Px 1 (by omega),_,List.mem_singleton.2 rfl,rfl⟩
 | 2,_=>.inr ⟨Px 2 (by omega),_,List.mem_cons_of_mem _ (List.mem_singleton.2 rfl),rfl⟩
 | _+3,h=>by omega
theorem eN:∀i,i<3->Told (gQ i) (Ez i)
 | 0,_=>.inl jK
 | 1,_=>.inl bT
 | 2,_=>.inr ⟨Px 2 (by omega),_,List.mem_cons_self,rfl⟩
 | _+3,h=>by omega
theorem Vh:∀i,i<3->gP i-1=gQ i*Nt i
 | 0,_=>rfl
 | 1,_=>rfl
 | 2,_=>rfl
 | _+3,h=>by omega
theorem Jh:∀i,i<3->64<gQ i/\1<gG i/\gG i<gP i/\1<gH i/\gH i<gP i/\gP i<2^65
 | 0,_=>by decide
 | 1,_=>by decide
 | 2,_=>by decide
 | _+3,h=>by omega
theorem Vi:∀i,i<3->gG i^gQ i%gP i=1
 | 0,_=>by rw[<-Kt (gG 0) (gP 0) 65 (gQ 0) (by decide)];kernel_rfl
 | 1,_=>by rw[<-Kt (gG 1) (gP 1) 65 (gQ 1) (by decide)];kernel_rfl
 | 2,_=>by rw[<-Kt (gG 2) (gP 2) 65 (gQ 2) (by decide)];kernel_rfl
 | _+3,h=>by omega
theorem gU:∀i,i<3->gH i^gQ i%gP i=1
 | 0,_=>by rw[<-Kt (gH 0) (gP 0) 65 (gQ 0) (by decide)];kernel_rfl
 | 1,_=>by rw[<-Kt (gH 1) (gP 1) 65 (gQ 1) (by decide)];kernel_rfl
 | 2,_=>by rw[<-Kt (gH 2) (gP 2) 65 (gQ 2) (by decide)];kernel_rfl
 | _+3,h=>by omega
theorem Wu:Lk [] []=[182,19,103,154,8,20,217,236,119,47,149,215,120,195,95,197,255,22,151,196,147,113,86,83,198,199,18,20,66,146,197,173]:=by kernel_rfl
theorem bL:Lk [182,19,103,154,8,20,217,236,119,47,149,215,120,195,95,197,255,22,151,196,147,113,86,83,198,199,18,20,66,146,197,173] [104,0,1] =
  [22,9,94,96,137,201,132,135,12,215,97,165,119,173,84,193,49]++(Lk [182,19,103,154,8,20,217,236,119,47,149,215,120,195,95,197,255,22,151,196,147,113,86,83,198,199,18,20,66,146,197,173] [104,0,1]).drop 17:=by kernel_rfl
def cL (bs:List Nat):Nat:=bs.foldl (fun n x=>n*256+x) 0
def Su:Nat->List Nat
 | 0=>[22,9,94,96,137,201,132,135,12,215]
 | 1=>[22,9,94,96,137,201,132,135,12,215,97]
 | _=>[22,9,94,96,137,201,132,135,12,215,97,165,119,173,84,193,49]
theorem qU:∀i,i<3->cL (Su i)^Nt i%gP i=gH i
 | 0,_=>by rw[<-Kt (cL (Su 0)) (gP 0) 65 (Nt 0) (by decide)];kernel_rfl
 | 1,_=>by rw[<-Kt (cL (Su 1)) (gP 1) 65 (Nt 1) (by decide)];kernel_rfl
 | 2,_=>by rw[<-Kt (cL (Su 2)) (gP 2) 65 (Nt 2) (by decide)];kernel_rfl
 | _+3,h=>by omega
open Go Go.RowKit
structure Own (w:World) (B:Nat) (v:Value) (bs:List Nat):Prop where
 owns:w.ownsRow B 5 1 v bs.length (bs.map fun(x:Nat)=>Value.int .u8 (x:Int))
theorem Own.elim {w:World}{B:Nat}{v:Value}{bs:List Nat}(h:Own w B v bs) :
  ∃p c,v=.slice p bs.length c/\Ci w .u8 p bs.length c bs/\Ey B p/\(p=none->c=0)/\(∀q,p=some q->q.block<w.heap.size):=by
 obtain⟨h1,h2⟩:=h.owns;rcases h2 with ⟨rfl,h0⟩|⟨g,cap,cur,rfl,hb,hg,hnc,hcm,hcs,ht⟩
 .refine⟨none,0,by rw[h0],⟨rfl,by omega,by omega,fun h=>absurd h (by omega)⟩,Ey.none _,fun _=>rfl,fun q hq=>(by cases hq)⟩
 .have hlt:g<w.heap.size:=(Hy hg).1;have hcm':cap<=9223372036854775807:=by simpa [maxLen]using hcm
  refine⟨some ⟨g,0,none⟩,cap,rfl,⟨rfl,hnc,hcm',fun _=>⟨rfl,hnc,hcm',.inr ⟨g,0,rfl,hlt,fun i x hx=>?_⟩⟩⟩,fun q hq=>(by cases hq;exact hb),fun h=>(by cases h),fun q hq=>(by cases hq;exact hlt)⟩;have hi:i<bs.length:=(List.getElem?_eq_some_iff.1 hx).1;have hx2:(bs.map fun(x:Nat)=>Value.int .u8 (x:Int))[i]? = some (.int .u8 (x:Int)):=by rw[List.getElem?_map,hx];rfl
  rw[<-ht,List.getElem?_take]at hx2
  split at hx2
  .unfold World.cell?
   dsimp only
   rw[hg];simp only[Nat.zero_add];rw[Array.getElem?_toList]at hx2
   exact hx2
  .cases hx2
theorem Own.below {w w':World}{B C:Nat}{v:Value}{bs:List Nat}(h:Own w B v bs)(hb:Below C w w')(hc:∀g,v.ownBlock=some g->g<C):Own w' B v bs:=by
 refine⟨⟨h.owns.1,?_⟩⟩;rcases h.owns.2 with h2|⟨g,cap,cur,rfl,hbg,hg,h3⟩
 .exact .inl h2
 .refine .inr ⟨g,cap,cur,rfl,hbg,?_,h3⟩;rw[hb.block g (hc g rfl)];exact hg
theorem Own.lt {w:World}{B:Nat}{v:Value}{bs:List Nat}(h:Own w B v bs):∀g,v.ownBlock=some g->g<w.heap.size:=by
 intro g hg;rcases h.owns.2 with ⟨rfl,_⟩|⟨g',cap,cur,rfl,hbg,hg',h3⟩
 .cases hg
 .obtain rfl:g'=g:=by simpa [Value.ownBlock]using hg
  exact(Hy hg').1
theorem Own.ge {w:World}{B:Nat}{v:Value}{bs:List Nat}(h:Own w B v bs):∀g,v.ownBlock=some g->B<=g:=by
 intro g hg;rcases h.owns.2 with ⟨rfl,_⟩|⟨g',cap,cur,rfl,hbg,hg',h3⟩
 .cases hg
 .obtain rfl:g'=g:=by simpa [Value.ownBlock]using hg
  exact hbg
theorem Own.belowS {w w':World}{B:Nat}{v:Value}{bs:List Nat}(h:Own w B v bs)(hb:Below w.heap.size w w'):Own w' B v bs:=h.below hb h.lt
theorem Own.mono {w:World}{B B':Nat}{v:Value}{bs:List Nat}(h:Own w B v bs)(hb:B'<=B):Own w B' v bs:=by
 refine⟨⟨h.owns.1,?_⟩⟩;rcases h.owns.2 with h2|⟨g,cap,cur,h1,hbg,h3⟩
 .exact .inl h2
 .exact .inr ⟨g,cap,cur,h1,by omega,h3⟩
theorem grown_below {w w':World}{g:Option Nat}(h:w.grownBy w' g){B:Nat}(hB:B<=w.heap.size)(hg:∀b,g=some b->B<=b):Below B w w' :=
 ⟨h.os,h.tape,h.output,h.size,fun k hk=>h.block k (by omega) (fun e=>by have:=hg k e.symm;omega)⟩
theorem nW {w:World}{B:Nat}{v:Value}{xs:List Nat}(h:Own w B v xs){p:Option Addr}{m c:Nat}{bs:List Nat}(hr:Ci w .u8 p m c bs)(hn:p=none->c=0)(hmax:xs.length+m<=140737488355328)(hB:B<=w.heap.size)(ty:TypeId) :
  ∃v' w',(Builtin.append_ #[60, 60] ty #[v,.slice p m c]).run Tryz.prog w=.ok v' w'/\Own w' B v' (xs++bs)/\w.grownBy w' v.ownBlock:=by
 obtain⟨i,hi,hz,hs,hb⟩:=info_parts Tryz.info_u8;have hl:=hr.len
 cases p with
 | none=>
  obtain rfl:=hn rfl;have hc:=hr.cap;obtain rfl:m=0:=by omega
  have hbs:bs=[]:=List.eq_nil_of_length_eq_zero hl.symm;refine⟨v,w,run_append_owned_none (P:=Tryz.prog) w B 60 ty 5 i 1 Tryz.underlying60 hi v xs.length _ h.owns,?_,⟨rfl,rfl,rfl,Av _,fun _ _ _=>rfl⟩⟩;rw[hbs,List.append_nil];exact h
 | some a=>
  have hmx:xs.length+m<=maxLen:=by simp only[maxLen];omega
  obtain⟨v',w',h1,h2,h3,_⟩:=run_append_own (P:=Tryz.prog) w B 60 ty 5 i (.int .u8 0) 1 1 Tryz.underlying60 hi hz hs hb (by rfl) (by decide) v xs.length _ h.owns a m c (bs.map fun(x:Nat)=>Value.int .u8 (x:Int)) (by simp[hl])
   (fun j u hu=>by
    rw[List.getElem?_map]at hu
    obtain⟨x,hx,rfl⟩:=Option.map_eq_some_iff.1 hu;have h0:0<m:=by have:=(List.getElem?_eq_some_iff.1 hx).1;omega
    obtain⟨b,off,e,h2,h3⟩:=(hr.row h0).pos h0;cases e;rw[add_plain];exact h3 j x hx)
   (fun u hu=>by obtain⟨x,_,rfl⟩:=List.mem_map.1 hu;rfl) hmx (by omega) hB
  refine⟨v',w',h1,⟨?_⟩,h3⟩;rw[<-List.map_append,hl,<-List.length_append]at h2
  exact h2
theorem bH {w:World}{ops:Array Oper}{rest:List Oper}{o:Oper}{a:Act}{Q:Exit->Act->World->Prop}(hgd:o.guard=none)(s x:Operand)(ho:o.op=.call { callee:=.builtin .append,args:=#[s,x],argTypes:=#[60, 60] }){B:Nat}{v:Value}{xs:List Nat}(hs:a.eval s=v)(h:Own w B v xs){p:Option Addr}{m c:Nat}{bs:List Nat}(hx:a.eval x=.slice p m c)(hr:Ci w .u8 p m c bs)(hn:p=none->c=0)(hmax:xs.length+m<=140737488355328)(hB:B<=w.heap.size)(hk:∀v' w',Own w' B v' (xs++bs)->w.grownBy w' v.ownBlock->wpList Tryz.prog ops Q rest (a.put o.dst v') w'):wpList Tryz.prog ops Q (o::rest) a w:=by
 obtain⟨v',w',h1,h2,h3⟩:=nW h hr hn hmax hB o.type;refine wpList_plain hgd fun K hK=>?_
 unfold Oper.wp;simp[execOp,ho,resolve,invoke,builtin,hs,hx,h1,Result.andThen];exact hK _ _ (hk v' w' h2 h3)
inductive aY (lo:Nat) (bs:List Nat):Value->World->Prop where
 | of (p:Option Addr) (c:Nat) (w:World) (h:Ci w .u8 p bs.length c bs) (hn:Ey lo p) (hz:p=none->c=0) (hp:∀q,p=some q->q.block<w.heap.size):aY lo bs (.slice p bs.length c) w
theorem eK (w:World)(bs:List Nat)(hm:bs.length<=9223372036854775807):Ci (w.alloc (.cells (bs.map fun(x:Nat)=>Value.int .u8 (x:Int)).toArray 5)) .u8 (some ⟨w.heap.size,0,none⟩) bs.length bs.length bs:=by
 have h:=Cf.row (w:=w.alloc (.cells (bs.map fun(x:Nat)=>Value.int .u8 (x:Int)).toArray 5)) (g:=w.heap.size) (e := 5) (k:=.u8) (xs:=bs) (heap_alloc_new w _) (n:=bs.length) (c:=bs.length) rfl (Av _) hm;exact⟨rfl,Av _,hm,fun _=>h⟩
theorem La (w:World)(b off:Nat) :
  (Instr.sliceAt 261 (.pointer (some ⟨b,off,none⟩)) none none none).run Tryz.prog w=.ok (.slice (some ⟨b,off,none⟩) 64 64) w:=by
 have hlen:Tryz.prog.arrayLen 261 = 64:=by kernel_rfl
 rw[run_sliceAt_array_all w 261 ⟨b,off,none⟩ Tryz.underlying261,hlen];have hs:(sizeOf (Tryz.prog.elem 261)).run Tryz.prog w=.ok 1 w:=by
  have:Tryz.prog.elem 261 = 5 := by kernel_rfl
  rw[this];simp[go_sem]
 rw[hs];simp[slicedAt,Addr.add]
theorem Ro (b:List Nat)(h:b.length=64):(Tryz.prog.info? 261).map (·.size)=some (b.map fun(x:Nat)=>Value.int .u8 x).toArray.size:=by
 rw[show (b.map fun(x:Nat)=>Value.int .u8 x).toArray.size=64 by simp[h]];kernel_rfl
theorem Sa {kk:List Nat}(_h:kk.length<=64) :
  splice ((List.replicate 64 0).map fun(x:Nat)=>Value.int .u8 x) 0 (kk.map fun(x:Nat)=>Value.int .u8 x)=(kk++List.replicate (64-kk.length) 0).map fun(x:Nat)=>Value.int .u8 x:=by
 unfold splice;rw[List.take_zero,List.nil_append,List.length_map,Nat.zero_add,<-List.map_drop,List.drop_replicate,List.map_append]
theorem fJ {w:World}{p:Option Addr}{n c:Nat}{bs:List Nat}(h:Ci w .u8 p n c bs)(hn:0<n):∃ad,p=some ad/\ad.block<w.heap.size/\∀(j:Nat) (v:Value),(bs.map fun(x:Nat)=>Value.int .u8 (x:Int))[j]? = some v->w.cell? (ad.add j)=some v:=by
 obtain⟨b,off,rfl,hb,h3⟩:=(h.row hn).pos hn;refine⟨_,rfl,hb,fun j v hv=>?_⟩;rw[List.getElem?_map]at hv
 obtain⟨x,hx,rfl⟩:=Option.map_eq_some_iff.1 hv;rw[add_plain];exact h3 j x hx
def box2 (w:World):World:=(w.alloc (.cells (zeros .u8 64) 261)).alloc (.cells (zeros .u8 64) 261)
theorem Ki (w:World):Below w.heap.size w (box2 w):=((Br _ _).alloc (Av _) _).alloc (by simp) _
theorem mF (w:World):Cf (box2 w) (w.heap.size+1) 261 .u8 (List.replicate 64 0):=by
 have:=Cf.zeros (w.alloc (.cells (zeros .u8 64) 261)) 261 .u8 64;rw[show (w.alloc (.cells (zeros .u8 64) 261)).heap.size=w.heap.size+1 by simp]at this
 exact this
theorem mE (w:World):Cf (box2 w) w.heap.size 261 .u8 (List.replicate 64 0):=(Cf.zeros w 261 .u8 64).alloc _
theorem aI {w:World}{p:Option Addr}{n c:Nat}{key:List Nat}(hr:Ci w .u8 p n c key) :
  0<(key.map fun(x:Nat)=>Value.int .u8 (x:Int)).length->∃ad,p=some ad/\∀(j:Nat) (v:Value),(key.map fun(x:Nat)=>Value.int .u8 (x:Int))[j]? = some v->w.cell? (ad.add j)=some v:=fun h=>by
 obtain⟨ad,h1,_,h2⟩:=fJ hr (by have:=hr.len;simpa [this]using h);exact⟨ad,h1,h2⟩
theorem jH (key:List Nat):∀v∈(key.map fun(x:Nat)=>Value.int .u8 (x:Int)),v.oneCell'=true:=fun v hv=>by
 obtain⟨x,_,rfl⟩:=List.mem_map.1 hv;rfl
theorem aR (w:World)(p:Option Addr)(n c:Nat)(key:List Nat)(hT:Tabs w)(hr:Ci w .u8 p n c key)(h8:Bv key) :
  Calls Tryz.prog 231 #[.slice p n c] w fun e w'=>e=.returned (.agg ((Fk key).map fun(x:Nat)=>Value.int .u8 (x:Int)).toArray)/\Below w.heap.size w w':=by
 have hm:=hr.max;have hcap:=hr.cap;have hsl:=La;have HI:=Ag (Ro (Fk key) (Iu key));have H1:=Ag (Ov .u8 (Fk key));have HS:Hid (((List.replicate 64 0).map fun(x:Nat)=>Value.int .u8 x).toArray.size=((Fk key).map fun(x:Nat)=>Value.int .u8 x).toArray.size):=Ag (by simp[Iu]);have HSp:Hid (splice ((List.replicate 64 0).map fun(x:Nat)=>Value.int .u8 x) 0 ((Nq key).map fun(x:Nat)=>Value.int .u8 x)=(Fk key).map fun(x:Nat)=>Value.int .u8 x):=Ag (Sa (kk:=Nq key) (Lf key));have HG:=Ag (mF w);have HW:=Ag (Ki w);have HO:=Ag (mE w);obtain⟨Z,hZ⟩:∃Z,((List.replicate 64 0).map fun(x:Nat)=>Value.int .u8 x)=Z:=⟨_,rfl⟩
 have HZ:=Ag hZ;have HFit:Hid (0+((Nq key).map fun(x:Nat)=>Value.int .u8 (x:Int)).length<=((List.replicate 64 0).map fun(x:Nat)=>Value.int .u8 (x:Int)).length):=Ag (by have:=Lf key;simp;omega);simp only[Cf,hZ]at HG HSp HFit HS HO;clear hZ
 by_cases hn:n<=64
 .have HKK:Hid (Nq key=key):=by
   show Nq key=_;unfold Nq;rw[if_neg (by have:=hr.len;omega)]
  rw[HKK.out]at HSp HFit
  have HSrc:=Aa (aI (hr.below (Ki w)));have HN:Hid ((key.map fun(x:Nat)=>Value.int .u8 (x:Int)).length=Nat.min n 64):=by
   show List.length _=_;rw[List.length_map,<-hr.len];exact(Nat.min_eq_left hn).symm
  generalize Fk key=B at *;go_enter Tryz.func231,Tryz.ntmps231
  go_wp2_with (refine wpList_copy_splice rfl (.tmp 10) (.tmp 11) 60 60 rfl 5 Tryz.underlying60 (by kernel_rfl) (some ⟨w.heap.size+1,0,none⟩) p 64 64 n c rfl rfl (w.heap.size+1) 0 Z 261 HG.out (key.map fun(x:Nat)=>Value.int .u8 (x:Int)) HN.out (fun h=>⟨rfl,HSrc.out h⟩) HFit.out (jH key) (w.heap.size+1) (box2 w) (Br _ _) (Av _) ?_)
  intro w2 hg2 hb2;have hg3:Hid (Cf w2 (w.heap.size+1) 261 .u8 B):=by
   show w2.heap[_]? = _;rw[hg2.out,HSp.out]
  have ho3:Hid (w2.heap[w.heap.size]? = some (.cells Z.toArray 261 (0,0))):=(hb2.block w.heap.size (by omega)).trans HO.out;have hb3:Hid (Below w.heap.size w w2):=HW.out.trans (hb2.mono (by omega));clear hg2 hb2 HSp HFit HSrc HN HO HG HW
  go_wp2_with (first|(refine wpList_load_row rfl 261 _ rfl (w.heap.size+1) rfl 261 (B.map fun(x:Nat)=>Value.int .u8 x).toArray (0,0) _ hg3.out Tryz.underlying261 rfl HI.out ?_)|(refine wpList_store_row rfl 261 _ _ rfl w.heap.size (B.map fun(x:Nat)=>Value.int .u8 x).toArray rfl rfl 261 Z.toArray ho3.out HI.out HS.out H1.out ?_))
  have hend:=setRow_heap w2 w.heap.size Z.toArray (B.map fun(x:Nat)=>Value.int .u8 x).toArray 261 (0,0) ho3.out;exact bodyPost_ret (v:=.agg (B.map fun(x:Nat)=>Value.int .u8 x).toArray) (results_cell_row Tryz.results231 _ _ w.heap.size 261 _ (0,0) _ rfl hend Tryz.underlying261 rfl HI.out) rfl ⟨rfl,below_setRow hb3.out (Av _) _⟩
 .have HKK:Hid (Nq key=bF key):=by
   show Nq key=_;unfold Nq;rw[if_pos (by have:=hr.len;omega)]
  rw[HKK.out]at HSp HFit
  have hz:(box2 w).heap.size=w.heap.size+1+1:=by simp[box2]
  have hP:=jX (box2 w) ⟨p,n,c,key⟩ ⟨hr.below (Ki w),h8⟩;rw[hz]at hP
  have HP:=Ag hP;clear hP;have HT2:=Ag (hT.below (Ki w) hT.size);have HN:Hid (((bF key).map fun(x:Nat)=>Value.int .u8 (x:Int)).length=Nat.min 32 64):=by
   show List.length _=_;rw[List.length_map,En];rfl
  generalize Fk key=B at *;have HW1:Hid (Below (box2 w).heap.size (box2 w) ((box2 w).alloc (.cells #[.slice p n c] 60))):=Ag ((Br _ _).alloc (Av _) _);go_enter Tryz.func231,Tryz.ntmps231
  go_wp2_with fail
  refine aM (w1:=(box2 w).alloc (.cells #[.slice p n c] 60)) (by kernel_rfl) ?_;refine(fE ((box2 w).alloc (.cells #[.slice p n c] 60)) (some ⟨w.heap.size+1+1,0,none⟩) 1 1 [⟨p,n,c,key⟩] (HT2.out.below HW1.out HT2.out.size) HP.out).mono ?_;rintro e w1 ⟨q,rfl,hq,hb1,hk1⟩;rw[Un]at hk1
  dsimp only at hk1
  have hb2:Below (box2 w).heap.size (box2 w) w1:=HW1.out.trans (hb1.mono HW1.out.size);have hrow:Ci w1 .u8 (some ⟨q,0,none⟩) 32 32 (bF key):=⟨(En _).symm,Av _,by omega,fun _=>hk1.row (En _).symm (Av _) (by omega)⟩
  have HSrc:=Aa (aI hrow);have HG1:Hid (w1.heap[w.heap.size+1]? = some (.cells Z.toArray 261 (0,0))):=(hb2.block (w.heap.size+1) (by omega)).trans HG.out;have HO1:Hid (w1.heap[w.heap.size]? = some (.cells Z.toArray 261 (0,0))):=(hb2.block w.heap.size (by omega)).trans HO.out;have HW2:Hid (Below w.heap.size w w1):=HW.out.trans (hb2.mono (by omega));clear hrow hk1 hb1 hb2 HG HO HW HP HT2 HW1 hq
  go_wp2_with (refine wpList_copy_splice rfl (.tmp 10) (.tmp 11) 60 60 rfl 5 Tryz.underlying60 (by kernel_rfl) (some ⟨w.heap.size+1,0,none⟩) (some ⟨q,0,none⟩) 64 64 32 32 rfl rfl (w.heap.size+1) 0 Z 261 HG1.out ((bF key).map fun(x:Nat)=>Value.int .u8 (x:Int)) HN.out (fun h=>⟨rfl,HSrc.out h⟩) HFit.out (jH _) (w.heap.size+1) w1 (Br _ _) (Av _) ?_)
  intro w2 hg2 hb2;have hg3:Hid (Cf w2 (w.heap.size+1) 261 .u8 B):=by
   show w2.heap[_]? = _;rw[hg2.out,HSp.out]
  have ho3:Hid (w2.heap[w.heap.size]? = some (.cells Z.toArray 261 (0,0))):=(hb2.block w.heap.size (by omega)).trans HO1.out;have hb3:Hid (Below w.heap.size w w2):=HW2.out.trans (hb2.mono (by omega));clear hg2 hb2 HSp HFit HSrc HN HO1 HG1 HW2
  go_wp2_with (first|(refine wpList_load_row rfl 261 _ rfl (w.heap.size+1) rfl 261 (B.map fun(x:Nat)=>Value.int .u8 x).toArray (0,0) _ hg3.out Tryz.underlying261 rfl HI.out ?_)|(refine wpList_store_row rfl 261 _ _ rfl w.heap.size (B.map fun(x:Nat)=>Value.int .u8 x).toArray rfl rfl 261 Z.toArray ho3.out HI.out HS.out H1.out ?_))
  have hend:=setRow_heap w2 w.heap.size Z.toArray (B.map fun(x:Nat)=>Value.int .u8 x).toArray 261 (0,0) ho3.out;exact bodyPost_ret (v:=.agg (B.map fun(x:Nat)=>Value.int .u8 x).toArray) (results_cell_row Tryz.results231 _ _ w.heap.size 261 _ (0,0) _ rfl hend Tryz.underlying261 rfl HI.out) rfl ⟨rfl,below_setRow hb3.out (Av _) _⟩
end Go.Proofs.YtnbmfaihlefgfaaGreatDoor
