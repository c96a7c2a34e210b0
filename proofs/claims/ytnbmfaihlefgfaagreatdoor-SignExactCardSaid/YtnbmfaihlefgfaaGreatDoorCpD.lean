/- Whether primes are enough, of the program. -/
import Derived.Test.YtnbmfaihlefgfaaGreatDoorRing
import Derived.Laws.OwnMore
import Derived.Lib.AppendZeros
import Derived.ArgAppend
import Derived.Deep.Cut
import Derived.Deep.LoopGhost
set_option maxRecDepth 1000000
set_option maxHeartbeats 16000000
set_option linter.all false
namespace Go.Proofs.YtnbmfaihlefgfaaGreatDoor
open Go Go.RowKit Go.Proofs.YtnbmfaihlefgfaaGreatDoor.Flow
theorem iA (A E M i:Nat)(b:Bool)(hb:bit E i=b):A^(E/2^i)%M=if b then ((A^(E/2^(i+1))%M*(A^(E/2^(i+1))%M))%M*(A%M))%M else (A^(E/2^(i+1))%M*(A^(E/2^(i+1))%M))%M:=by
 rw[Ht E i,hb];generalize E/2^(i+1)=q;have e:A^(2*q)=A^q*A^q:=by rw[<-Nat.pow_add];congr 1;omega
 cases b with
 | false=>simp only[Bool.toNat_false,Nat.add_zero,Bool.false_eq_true,if_false,e,<-Nat.mul_mod]
 | true=>simp only[Bool.toNat_true,if_true,Nat.pow_succ,e,<-Nat.mul_mod]
theorem aQ {w:World}{v u t:Value}{A E M:Nat}(h:Al A v w)(k:Al E u w)(l:Al M t w)(hA:Ao A<=100000)(hE:Ao E<=100000)(hM:Ao M<=100000)(hM0:0<M) :
  Calls Tryz.prog 135 #[v,u,t] w fun en w'=>∃x,en=.returned x/\Al (A^E%M) x w'/\Below w.heap.size w w':=by
 obtain⟨p,n,c,rfl,h⟩:=h;obtain⟨q,m,d,rfl,k⟩:=k;obtain⟨r,s,e,rfl,l⟩:=l;have hm:=Ch k;have HM:Aa (m=Ao E):=⟨hm⟩
 have HA:=Ab h;have HE:=Ab k;have HL:=Ab l;have hmm:m<=100000:=by omega
 have hblm:Aa (∀x,Ao (x%M)<=100000):=⟨fun x=>Di (Ee (Nat.le_of_lt (Nat.mod_lt x hM0))) hM⟩
 clear h k l hm;go_enter Tryz.func135,Tryz.ntmps135
 go_wp2_with fail
 refine(Fb 1 w (by decide)).mono ?_;rintro en w1 ⟨p1,n1,c1,rfl,hn1,hb1,_⟩;have HL1:=Ab (HL.out.below hb1)
 go_wp2_with fail
 refine(Gv (Al.of hn1) (Al.of HL1.out) (by have:Ao 1<=1:=(Bg 1 1).2 (by decide);omega) (by omega) hM0).mono ?_;rintro en w2 ⟨x2,rfl,hx2,hb2⟩;have HX2:=Ab hx2;have HB2:=Ab (Ae hb1 hb2);clear hn1 hb1 hx2 hb2
 go_wp2_with fail
 refine(Gv (Al.of (HA.out.below HB2.out)) (Al.of (HL.out.below HB2.out)) (by omega) (by omega) hM0).mono ?_;rintro en w3 ⟨x3,rfl,hx3,hb3⟩;have HX3:=Ab hx3;have HX2':=Ab (HX2.out.below hb3);have HB3:=Ab (Ae HB2.out hb3);clear hx3 hb3;go_wp2
 go_loopw [7,8] (fun rv iv wr=>∃j:Nat,j<=m/\iv=.int .i64 ((j:Int)-1)/\Aa (Al (A^(E/2^j)%M) rv wr)/\Aa (Below w3.heap.size w3 wr)) (fun _ iv _=>(intOf iv+1).toNat)
 case atStart=>
  refine⟨m,As _,rfl,⟨?_⟩,⟨Bb _ _⟩⟩;rw[HM.out,Nat.div_eq_of_lt (Ec E),Nat.pow_zero];exact HX2'.out
 case round=>
  obtain⟨j,hj,rfl,HR,HBr⟩:=hrel
  cases j with
  | zero=>
   have HR0:Aa (Al (A^E%M) u7 wr):=⟨by have:=HR.out;rwa [Nat.pow_zero,Nat.div_one]at this⟩
   go_wp2;go_ret;exact⟨_,rfl,HR0.out,Ae HB3.out HBr.out⟩
  | succ j=>
   have e1:(((j+1:Nat):Int)-1)=(j:Int):=by omega
   simp only[e1];have HBr3:=Ab (Ae HB3.out HBr.out);have HEr:=Ab (HE.out.below HBr3.out);have HLr:=Ab (HL.out.below HBr3.out);have HS:Aa _:=⟨fun b hb=>iA A E M j b hb⟩
   clear e1
   go_wp2_with fail
   refine(Kp HR.out HR.out (Al.of HLr.out) (hblm.out _) (hblm.out _) (by omega) hM0).mono ?_;rintro en w4 ⟨x4,rfl,hx4,hb4⟩;have HE4:=Ab (HEr.out.below hb4);obtain⟨b,off,rfl,hbs,hc⟩:=Gi.pos HE4.out (by omega);obtain⟨B,hB⟩:∃B,bit E j=B:=⟨_,rfl⟩
   have hcj:=hc j B (by rw[<-hB];exact Dr (by rw[<-HM.out];omega));have HX4:=Ab hx4;have HB4:=Ab (HBr.out.trans (hb4.mono HBr.out.size));have HPS:=HS.out B hB;have HX34:=Ab ((HX3.out.below HBr.out).below hb4);have HL4:=Ab (HLr.out.below hb4);have HP:=Ab HPS;clear hx4 hb4 hc hB HPS
   cases B with
   | false=>
    go_wp2;go_roundw
    case rel=>exact⟨j,by omega,rfl,⟨by rw[HP.out,if_neg (by simp)];exact HX4.out⟩,HB4⟩
    case measure=>simp[intOf]
   | true=>
    go_wp2_with fail
    refine(Kp HX4.out HX34.out (Al.of HL4.out) (hblm.out _) (hblm.out _) (by omega) hM0).mono ?_;rintro en w5 ⟨x5,rfl,hx5,hb5⟩;have HX5:=Ab hx5;have HB5:=Ab (HB4.out.trans (hb5.mono HB4.out.size));clear hx5 hb5;go_wp2;go_roundw
    case rel=>exact⟨j,by omega,rfl,⟨by rw[HP.out,if_pos trivial];exact HX5.out⟩,HB5⟩
    case measure=>simp[intOf]
def pm (a n:Nat):Nat->Nat->Nat
 | 0,_=>1%n
 | f+1,e=>if e=0 then 1%n else
  let h:=pm a n f (e/2)
  if e%2=1 then h*h%n*a%n else h*h%n
theorem Pd (a n:Nat):∀f e,e<2^f->pm a n f e=a^e%n
 | 0,e,h=>by
  have:e=0:=by simp at h;omega
  subst this;rw[pm,Nat.pow_zero]
 | f+1,e,h=>by
  unfold pm;split
  .rename_i h0;rw[h0,Nat.pow_zero]
  .have ih:=Pd a n f (e/2) (by rw[Nat.pow_succ]at h;omega);have e2:a^(2*(e/2))=a^(e/2)*a^(e/2):=by rw[<-Nat.pow_add];congr 1;omega
   simp only[ih];split
   .rename_i h1
    have:e=2*(e/2)+1:=by omega
    conv=>rhs;rw[this,Nat.pow_succ,e2]
    simp[Nat.mul_mod]
   .rename_i h1
    have:e=2*(e/2):=by omega
    conv=>rhs;rw[this,e2]
    rw[<-Nat.mul_mod]
theorem Gp {P:Program}{o:Oper}{ops:Array Oper}{a:Act}{w:World}{K:Value->World->Prop}(hw:Region.wanted o (yielded ops a.tmps)=false)(hk:K undef w):asked P o ops a w K:=by
 unfold asked;rw[if_neg (by rw[hw];exact Bool.false_ne_true)];exact hk
structure Cp (w:World) (e:Nat) (p:Option Addr) (n c:Nat) (Ns:List Nat):Prop where
 len:n=Ns.length
 cap:n<=c
 max:c<=9223372036854775807
 nil:p=none->c=0
 at_:0<n->∃b off,p=some ⟨b,off,none⟩/\b<w.heap.size/\∀i N,Ns[i]? = some N->∃q m d,w.cell? ⟨b,off+i,none⟩=some (.slice q m d)/\Aj w q m d N/\N<Ar e
theorem Cp.below {w w':World}{e:Nat}{p:Option Addr}{n c:Nat}{Ns:List Nat}(h:Cp w e p n c Ns)(hb:Below w.heap.size w w'):Cp w' e p n c Ns:=by
 refine⟨h.len,h.cap,h.max,h.nil,fun h0=>?_⟩;obtain⟨b,off,h1,h2,h3⟩:=h.at_ h0
 refine⟨b,off,h1,Eg h2 hb.size,fun i N hN=>?_⟩;obtain⟨q,m,d,h4,h5,h6⟩:=h3 i N hN;exact⟨q,m,d,by rw[hb.cell (p:=⟨b,off+i,none⟩) h2];exact h4,h5.below hb,h6⟩
structure Fv (w:World) (e:Nat) (p:Option Addr) (n c:Nat) (l:List Bz):Prop where
 len:n=l.length
 cap:n<=c
 max:c<=9223372036854775807
 nil:p=none->c=0
 at_:0<n->∃b off,p=some ⟨b,off,none⟩/\b<w.heap.size/\∀i s,l[i]? = some s->∃q0 m0 d0 q1 m1 d1 q2 m2 d2,
  w.cell? ⟨b,off+i*3,none⟩=some (.slice q0 m0 d0)/\w.cell? ⟨b,off+i*3+1,none⟩=some (.slice q1 m1 d1)/\w.cell? ⟨b,off+i*3+2,none⟩=some (.slice q2 m2 d2) /\
  Aj w q0 m0 d0 s.n/\s.n<Ar e/\Aj w q1 m1 d1 s.base/\s.base<Ar e/\Cp w e q2 m2 d2 s.ps
theorem Fv.below {w w':World}{e:Nat}{p:Option Addr}{n c:Nat}{l:List Bz}(h:Fv w e p n c l)(hb:Below w.heap.size w w'):Fv w' e p n c l:=by
 refine⟨h.len,h.cap,h.max,h.nil,fun h0=>?_⟩;obtain⟨b,off,h1,h2,h3⟩:=h.at_ h0
 refine⟨b,off,h1,Eg h2 hb.size,fun i s hs=>?_⟩;obtain⟨q0,m0,d0,q1,m1,d1,q2,m2,d2,k0,k1,k2,k3,k4,k5,k6,k7⟩:=h3 i s hs;have hc:∀o,w'.cell? ⟨b,o,none⟩=w.cell? ⟨b,o,none⟩:=fun o=>hb.cell (p:=⟨b,o,none⟩) h2
 exact⟨q0,m0,d0,q1,m1,d1,q2,m2,d2,by rw[hc];exact k0,by rw[hc];exact k1,by rw[hc];exact k2,k3.below hb,k4,k5.below hb,k6,k7.below hb⟩
def Fr (s:Bz):Prop:=1024<Ao s.n ∨ 1024<Ao s.base ∨ ∃p∈s.ps,1024<Ao p
open Classical in
def iU:Prop:=∀(w:World) (N e:Nat) (v:Value),Fit e N v w->e<=200 ->
 Calls Tryz.prog 190 #[v] w fun en w'=>en=.returned (.bool (decide (Dd N)))/\Below w.heap.size w w'
open Classical in
theorem Ky:iU:=by
 intro w N e v hv he;obtain⟨p,n,c,rfl,h1,h2⟩:=hv;have hn:n<1000000:=by have:=h1.len_le h2;omega
 have hbx:=Ef.mk1 w (.slice p n c) 36;have H1:=Ab (h1.below hbx.bel);have HBX:=Ab hbx.bel;clear h1 h2 hbx
 by_cases hb:Ao N<=64
 .by_cases hlow:N<2
  .have hno:Aa (decide (Dd N)=false):=⟨decide_eq_false fun hs=>by have:=hs.1;omega⟩
   have hlow':(N:Int)<2:=by omega
   have HB:=Ab hb;clear hb hlow;go_enter Tryz.func190,Tryz.ntmps190
   go_wp2_with fail
   refine(Kx _ p n c N H1.out hn).mono ?_;rintro en w1 ⟨rfl,hb1⟩;rw[if_pos HB.out,decide_eq_true HB.out];have HB1:=Ab (Ae HBX.out hb1);clear hb1;go_wp2;go_ret;exact⟨by rw[hno.out];rfl,HB1.out⟩
  .by_cases hhigh:65536<=N
   .have hno:Aa (decide (Dd N)=false):=⟨decide_eq_false fun hs=>by have:=hs.2.1;omega⟩
    have hlow':¬(N:Int)<2:=by omega
    have hhigh':(65536:Int)<=N:=by omega
    obtain⟨K,hgK⟩:∃K:Int,(65536:Int)=K:=⟨_,rfl⟩
    rw[hgK]at hhigh'
    have HB:=Ab hb;clear hb hlow hhigh;go_enter Tryz.func190,Tryz.ntmps190
    go_wp2_with fail
    refine(Kx _ p n c N H1.out hn).mono ?_;rintro en w1 ⟨rfl,hb1⟩;rw[if_pos HB.out,decide_eq_true HB.out];have HB1:=Ab (Ae HBX.out hb1);clear hb1
    go_upto_region 2 with fail
    rw[hgK];clear hgK;go_wp2;go_ret;exact⟨by rw[hno.out];rfl,HB1.out⟩
   .have hlow':¬(N:Int)<2:=by omega
    have hhigh':¬(65536:Int)<=N:=by omega
    have HLT:Aa (N<65536):=⟨by omega⟩
    have H2:Aa (2<=N):=⟨by omega⟩
    obtain⟨K,hgK⟩:∃K:Int,(65536:Int)=K:=⟨_,rfl⟩
    rw[hgK]at hhigh'
    have HB:=Ab hb;clear hb hlow hhigh;go_enter Tryz.func190,Tryz.ntmps190
    go_wp2_with fail
    refine(Kx _ p n c N H1.out hn).mono ?_;rintro en w1 ⟨rfl,hb1⟩;rw[if_pos HB.out,decide_eq_true HB.out];have HB1:=Ab (Ae HBX.out hb1);clear hb1
    go_upto_region 2 with fail
    rw[hgK];clear hgK;go_wp2
    go_loopw [5] (fun dv wr=>w1=wr/\∃d:Nat,2<=d/\d<=256/\dv=.int .u64 d/\Aa (∀e,2<=e->e<d->N%e≠0)) (fun dv _=>300-(intOf dv).toNat)
    case atStart=>exact⟨rfl,2,by omega,by omega,rfl,⟨fun e h1 h2=>by omega⟩⟩
    case round=>
     obtain⟨rfl,d,hd2,hd,rfl,HD⟩:=hrel;obtain⟨S,hS⟩:∃S,d*d=S:=⟨_,rfl⟩
     have hS':(d:Int)*d=(S:Nat):=by rw[<-hS];simp
     have hSl:S<=65536:=by rw[<-hS];exact Nat.mul_le_mul hd hd
     have HSl:=Ab hSl;have hSw:IntKind.u64.wrap ((S:Nat):Int)=S:=IntWalk.u64_in _ ⟨by omega,by omega⟩;clear hSl
     by_cases hdd:S<=N
     .have hdlt:d<256:=Nat.lt_of_not_le fun hge=>by
       have:=Nat.mul_le_mul hge hge;have:=HLT.out;omega
      have hmod:(N:Int).tmod d=((N%d:Nat):Int):=by rw[Int.tmod_eq_emod_of_nonneg (by omega)];simp
      obtain⟨R,hR⟩:∃R,N%d=R:=⟨_,rfl⟩
      rw[hR]at hmod
      have hd0:¬(d:Int)=0:=by omega
      have hdd':(S:Int)<=N:=by omega
      rcases Nat.eq_zero_or_pos R with h0|h0
      .have hno:Aa (decide (Dd N)=false):=⟨decide_eq_false fun hs=>hs.2.2 d hd2 (by omega) (by omega)⟩
       subst h0;have hS2:=Ag hS;have hR2:=Ag hR;clear hS hR;go_wp2;go_ret;exact⟨by rw[hno.out];rfl,HB1.out⟩
      .have hR0:((R:Int)==0)=false:=by rw[beq_eq_false_iff_ne];omega
       have HD':Aa (∀e,2<=e->e<d+1->N%e≠0):=⟨fun e h1 h2=>by
        rcases(by omega:e<d ∨ e=d) with h3|rfl
        .exact HD.out e h1 h3
        .omega⟩
       have hS2:=Ag hS;have hR2:=Ag hR;clear hS hR;go_wp2;go_roundw
       case rel=>exact⟨trivial,d+1,by omega,by omega,by go_num,HD'⟩
       case measure=>simp[intOf];omega
     .have hdd':¬(S:Int)<=N:=by omega
      have hyes:Aa (decide (Dd N)=true):=⟨decide_eq_true ⟨H2.out,HLT.out,fun e h1 h2=>HD.out e h1 (Nat.lt_of_not_le fun hge=>by
       have:=Nat.mul_le_mul hge hge;omega)⟩⟩
      have hS2:=Ag hS;clear hS;go_wp2;go_ret;exact⟨by rw[hyes.out];rfl,HB1.out⟩
 .have hno:Aa (decide (Dd N)=false):=⟨decide_eq_false fun hs=>hb ((Bg N 64).2 (Nat.lt_trans hs.2.1 (by decide)))⟩
  have HB:=Ab hb;clear hb;go_enter Tryz.func190,Tryz.ntmps190
  go_wp2_with fail
  refine(Kx _ p n c N H1.out hn).mono ?_;rintro en w1 ⟨rfl,hb1⟩;rw[if_neg HB.out,decide_eq_false HB.out];have HB1:=Ab (Ae HBX.out hb1);clear hb1;go_wp2;go_ret;exact⟨by rw[hno.out];rfl,HB1.out⟩
theorem Fit.tight {e f N:Nat}{v:Value}{w:World}(h:Fit e N v w)(hN:N<Ar f):Fit f N v w :=
 let ⟨p,n,c,h1,h2,_⟩:=h
 ⟨p,n,c,h1,h2,hN⟩
theorem pT {p n:Nat}(h:0<n)(f:Nat):0<pw p f n:=Nat.pos_of_dvd_of_pos (Xh p f n) h
theorem qM {p n:Nat}(h:0<n)(f:Nat):pw p f n<=n:=Nat.le_of_dvd h (Xh p f n)
structure mR (w wr:World) (e P b5 k Q:Nat) (pp:Option Addr) (np cp:Nat) (pa:Option Addr) (na ca:Nat) (pq:Option Addr) (nq cq:Nat):Prop where
 box0:Af wr w.heap.size (.slice pa na ca)
 box1:Af wr (w.heap.size+1) (.slice pp np cp)
 box2:Af wr (w.heap.size+1+1) (.slice none 0 0)
 box5:Af wr b5 (.slice pq nq cq)
 a:Aj wr pa na ca k
 p:Aj wr pp np cp P
 q:Aj wr pq nq cq Q
 limk:k<Ar e
 limp:P<Ar e
 limq:Q<Ar e
 pos:0<k
 ne:w.heap.size+3<=b5
 bel:Below w.heap.size w wr
theorem mR.later {w wr w1:World}{e P b5 k Q:Nat}{pp:Option Addr}{np cp:Nat}{pa:Option Addr}{na ca:Nat}{pq:Option Addr}{nq cq:Nat}(h:mR w wr e P b5 k Q pp np cp pa na ca pq nq cq)(hb:Below wr.heap.size wr w1):mR w w1 e P b5 k Q pp np cp pa na ca pq nq cq :=
 ⟨h.box0.below hb h.box0.lt,h.box1.below hb h.box1.lt,h.box2.below hb h.box2.lt,h.box5.below hb h.box5.lt,h.a.below hb,h.p.below hb,h.q.below hb,h.limk,h.limp,h.limq,h.pos,h.ne,Ae h.bel hb⟩
structure nK (w wr:World) (e P b5 bq k Q k' Q':Nat) (pp:Option Addr) (np cp:Nat) (pa:Option Addr) (na ca:Nat) (pq:Option Addr) (nq cq:Nat) (q:Option Addr) (m d:Nat) (d4 d5:Bool):Prop where
 box0:Af wr w.heap.size (if d4 then .slice q m d else .slice pa na ca)
 box1:Af wr (w.heap.size+1) (.slice pp np cp)
 box2:Af wr (w.heap.size+1+1) (.slice none 0 0)
 box5:d5=false->Af wr b5 (.slice pq nq cq)
 val5:d5=true->Cj wr b5 Q'
 boxq:Af wr bq (.slice q m d)
 k':Aj wr q m d k'
 p:Aj wr pp np cp P
 q:Aj wr pq nq cq Q
 ne:w.heap.size+3<=b5
 neq:b5<bq
 bel:Below w.heap.size w wr
theorem nK.later {w wr w1:World}{e P b5 bq k Q k' Q':Nat}{pp:Option Addr}{np cp:Nat}{pa:Option Addr}{na ca:Nat}{pq:Option Addr}{nq cq:Nat}{q:Option Addr}{m d:Nat}{d4 d5:Bool}(h:nK w wr e P b5 bq k Q k' Q' pp np cp pa na ca pq nq cq q m d d4 d5)(hb:Below wr.heap.size wr w1):nK w w1 e P b5 bq k Q k' Q' pp np cp pa na ca pq nq cq q m d d4 d5 :=
 ⟨h.box0.below hb h.box0.lt,h.box1.below hb h.box1.lt,h.box2.below hb h.box2.lt,fun a=>(h.box5 a).below hb (h.box5 a).lt,fun a=>(h.val5 a).below hb,h.boxq.below hb h.boxq.lt,h.k'.below hb,h.p.below hb,h.q.below hb,h.ne,h.neq,Ae h.bel hb⟩
theorem nK.store4 {w wr:World}{e P b5 bq k Q k' Q':Nat}{pp:Option Addr}{np cp:Nat}{pa:Option Addr}{na ca:Nat}{pq:Option Addr}{nq cq:Nat}{q:Option Addr}{m d:Nat}{d5:Bool}(h:nK w wr e P b5 bq k Q k' Q' pp np cp pa na ca pq nq cq q m d false d5) :
  nK w (wr.setCell ⟨w.heap.size,0,none⟩ (.slice q m d)) e P b5 bq k Q k' Q' pp np cp pa na ca pq nq cq q m d true d5:=by
 have hb:Af wr w.heap.size (.slice pa na ca):=h.box0;have h1:=h.ne;have h2:=h.neq;exact⟨hb.set _,h.box1.other (by omega) _,h.box2.other (by omega) _,fun a=>(h.box5 a).other (by omega) _,fun a=>(h.val5 a).other hb (by omega) _,h.boxq.other (by omega) _,h.k'.store hb _,h.p.store hb _,h.q.store hb _,h.ne,h.neq,h.bel.setCell (As _) _⟩
theorem nK.store5 {w wr:World}{e P b5 bq k Q k' Q':Nat}{pp:Option Addr}{np cp:Nat}{pa:Option Addr}{na ca:Nat}{pq:Option Addr}{nq cq:Nat}{q:Option Addr}{m d:Nat}{d4:Bool}{p':Option Addr}{n' c':Nat}(h:nK w wr e P b5 bq k Q k' Q' pp np cp pa na ca pq nq cq q m d d4 false)(hq:Aj wr p' n' c' Q') :
  nK w (wr.setCell ⟨b5,0,none⟩ (.slice p' n' c')) e P b5 bq k Q k' Q' pp np cp pa na ca pq nq cq q m d d4 true:=by
 have hb:=h.box5 rfl;have h1:=h.ne;have h2:=h.neq;exact⟨h.box0.other (by omega) _,h.box1.other (by omega) _,h.box2.other (by omega) _,(fun a=>by cases a),fun _=>⟨p',n',c',hb.set _,hq.store hb _⟩,h.boxq.other (by omega) _,h.k'.store hb _,h.p.store hb _,h.q.store hb _,h.ne,h.neq,h.bel.setCell (by simp;omega) _⟩
theorem fQ {w:World}{v u:Value}{e A P:Nat}(h:Fit e A v w)(k:Fit e P u w)(he:e<=300000)(hP:2<=P)(hA:0<A) :
  Calls Tryz.prog 252 #[v,u] w fun en w'=>∃x,en=.returned x/\Fit e (pw P A A) x w'/\Below w.heap.size w w':=by
 obtain⟨pa,na,ca,rfl,h1,h2⟩:=Aw h;obtain⟨pp,np,cp,rfl,k1,k2⟩:=Aw k;have hbx:=Yn.mk3 w (.slice pa na ca) (.slice pp np cp) (.slice none 0 0);have HBX:=Ab hbx;have HA1:=Ab h1;have HP1:=Ab k1;have HA2:=Ab h2;have HP2:=Ab k2;obtain⟨W,hW⟩:∃W,pw P A A=W:=⟨_,rfl⟩
 have HW:=Ab hW;rw[hW];clear h k h1 h2 k1 k2 hbx hW;go_enter Tryz.func252,Tryz.ntmps252
 go_wp2_with fail
 refine(Do 1 _ (by decide)).mono ?_;rintro en w1 ⟨q1,m1,d1,rfl,hn1,hb1,_⟩;have HN1:=Ab hn1;have HBX1:=Ab (HBX.out.later hb1);clear hb1 hn1;go_wp2
 go_loopg [6,7,8] A (fun k _ _ _ wr=>∃(Q:Nat) (pa:Option Addr) (na ca:Nat) (pq:Option Addr) (nq cq:Nat),Aa (mR w wr e P w1.heap.size k Q pp np cp pa na ca pq nq cq)/\Aa (Q*pw P k k=W))
 case atStart=>
  have hb:Below w1.heap.size w1 (w1.alloc (.cells #[.slice q1 m1 d1] 36)):=Bx;have hx:=HBX1.out.later hb;refine⟨1,pa,na,ca,q1,m1,d1,⟨hx.b0,hx.b1,hx.b2,Af.made w1 _,HA1.out.below hx.bel,HP1.out.below hx.bel,HN1.out.below hb,HA2.out,HP2.out,Nat.lt_of_le_of_lt hA HA2.out,hA,?_,hx.bel⟩,⟨by rw[Nat.one_mul];exact HW.out⟩⟩;have:=HBX1.out.b2.lt;omega
 case round=>
  obtain⟨Q,pa,na,ca,pq,nq,cq,HST,HQ⟩:=hrel;have c0:=HST.out.box0.cell;have c1:=HST.out.box1.cell
  go_wp2_with fail
  refine(Xx (Fit.of HST.out.a HST.out.limk) (Fit.of HST.out.p HST.out.limp) (by omega) (by omega)).mono ?_;rintro en w2 ⟨_,rfl,⟨qv,rv,rfl,hq,hr⟩,hb2⟩;rw[if_neg (by omega)]at hr
  rw[if_neg (by omega)];obtain⟨q,m,d,rfl,q1',q2'⟩:=hq;obtain⟨r,l,f,rfl,r1',r2'⟩:=hr;have HST2:=Ab (HST.out.later hb2);have HQ1:=Ab q1';have HR1:=Ab (Fit.of r1' r2');clear hb2 q1' r1' q2' r2' c0 c1;obtain⟨w3,hw3⟩:∃w3,(w2.alloc (.cells #[.slice q m d] 36)).alloc (.cells #[.slice r l f] 36)=w3:=⟨_,rfl⟩
  have hb3:Below w2.heap.size w2 w3:=by rw[<-hw3];exact((Bb _ _).alloc (As _) _).alloc (by simp) _
  have hbq:Af w3 w2.heap.size (.slice q m d):=by
   rw[<-hw3];exact(Af.made w2 _).below ((Bb _ _).alloc (As _) _) (by simp)
  have hbr:Af w3 (w2.heap.size+1) (.slice r l f):=by
   rw[<-hw3];have:=Af.made (w2.alloc (.cells #[.slice q m d] 36)) (.slice r l f);simpa using this
  have HST3:=Ab (HST2.out.later hb3);have HQ3:=Ab (HQ1.out.below hb3);have HR3:=Ab (HR1.out.below hb3);have HBQ:=Ab hbq;have HLT:Aa (w1.heap.size<w2.heap.size):=⟨HST2.out.box5.lt⟩
  have c3:=hbr.cell;clear hb3 hbq hbr
  by_cases h0:gk%P=0
  .have hz:Aa (decide (gk%P=0)=true):=⟨decide_eq_true h0⟩
   have HQP:Aa (Q*P*pw P (gk/P) (gk/P)=W):=⟨by
    have:=HQ.out
    rwa [Sa hP HST.out.pos,if_pos h0,<-Nat.mul_assoc]at this⟩
   have hk':Aa (0<gk/P/\gk/P<gk):=⟨Nat.div_pos (Nat.le_of_dvd HST.out.pos (Nat.dvd_of_mod_eq_zero h0)) (by omega),Nat.div_lt_self HST.out.pos (by omega)⟩
   have hWA:Aa (W<=A):=⟨by rw[<-HW.out];exact qM hA A⟩
   have hQW:Aa (Q*P<=W):=⟨by
    rw[<-HQP.out];exact Nat.le_mul_of_pos_right _ (pT hk'.out.1 _)⟩
   clear h0
   go_wp2_with fail
   refine(Dw HR3.out hz.out).mono ?_;rintro en w4 ⟨_,rfl,rfl,hb4⟩;have HST4:=Ab (HST3.out.later hb4);have HQ4:=Ab (HQ3.out.below hb4);have HB4:=Ab (HBQ.out.below hb4 HBQ.out.lt);clear c3 hb4;go_wp2;obtain⟨Q',hQ'⟩:∃Q',Q*P=Q':=⟨_,rfl⟩
   have HQ':=Ab hQ';rw[hQ']at HQP hQW
   clear hQ';refine Ah (by kernel_rfl) (by kernel_rfl)
    [some (.agg #[.slice q m d]),some (.agg #[.slice pq nq cq]),some (.agg #[.slice pp np cp]),none,none,none]
    [false,false,false,true,true,true] rfl
    (fun w1 w2=>Ap w.heap.size w1 w2)
    (fun D w'=>nK w w' e P w1.heap.size w2.heap.size gk Q (gk/P) Q' pp np cp pa na ca pq nq cq q m d (D 4) (D 5))
    (fun i v w'=>match i with
     | 3=>Ds Q' v w'
     | _=>True)
    ?_ ⟨HST4.out.box0,HST4.out.box1,HST4.out.box2,fun _=>HST4.out.box5,(fun a=>by cases a),HB4.out,HQ4.out.below (Bb _ _).drew,HST4.out.p.below (Bb _ _).drew,HST4.out.q.below (Bb _ _).drew,HST4.out.ne,HLT.out,HST4.out.bel.trans (Bb _ _).drew⟩ ?_ ?_
   .intro i v w1 w2 hf hb;split at hf
    .exact Ds.keep hf hb
    .trivial
   .simp only[Ba,Nat.reduceAdd];refine⟨?_,?_,?_,?_,?_,?_,trivial⟩
    all_goals intro D sp w' hD hW hdp hg
    case refine_1=>
     have c3:=hg.boxq.cell;simp[asked,Region.wanted,Oper.gives,execOp,Act.eval,go_sem,c3]
    case refine_2=>
     have h5:D 5=false:=hW 5 (mq (by kernel_rfl));have c3:=(hg.box5 h5).cell;simp[asked,Region.wanted,Oper.gives,execOp,Act.eval,Act.put,go_sem,c3]
    case refine_3=>
     have c3:=hg.box1.cell;simp[asked,Region.wanted,Oper.gives,execOp,Act.eval,Act.put,go_sem,c3]
    case refine_4=>
     (with_reducible refine Ac (w1:=w') (f := 122) (args:=#[.agg #[.slice pq nq cq],.agg #[.slice pp np cp]]) ?_ ?_ ?_)
     .simp only[Region.wanted]
     .simp[Act.eval,Act.put,go_sem]
     .refine(Ni (Fit.of hg.q HST.out.limq) (Fit.of hg.p HST.out.limp) (by omega) (by omega)).mono ?_;rintro en w5 ⟨u,rfl,hu,hb⟩;rw[HQ'.out]at hu
      obtain⟨p',n',c',e',u1,_⟩:=hu;exact⟨u,rfl,Ap.of hb hg.bel.size,⟨p',n',c',e',u1⟩,by simpa using hg.later hb⟩
    case refine_5=>
     rw[hD]at hg
     have hbx0:Af w' w.heap.size (.slice pa na ca):=hg.box0;have g2:=hbx0.cell;have g3:=hbx0.free
     (with_reducible refine Aq (w1:=w'.setCell ⟨w.heap.size,0,none⟩ (.slice q m d)) ?_ ?_ ?_)
     .simp only[Region.wanted]
     .simp[execOp,Act.eval,Act.put,go_sem,g2,g3]
     .exact⟨Ap.store hbx0 (As _) _,trivial,by simpa using hg.store4⟩
    case refine_6=>
     have hx:∃p n c,sp 3=.agg #[.slice p n c]/\Aj w' p n c Q':=(hdp 3 (mq (by kernel_rfl))).2;rw[hD]at hg
     (with_reducible refine Ay hx fun p hx1=>Ay hx1 fun n hx2=>Ay hx2 fun c hx3=>?_)
     have g1:=hx3.1;have hbx0:=hg.box5 rfl;have g2:=hbx0.cell;have g3:=hbx0.free;have hne:=hg.ne
     (with_reducible refine Aq (w1:=w'.setCell ⟨w1.heap.size,0,none⟩ (.slice p n c)) ?_ ?_ ?_)
     .simp only[Region.wanted]
     .simp[execOp,Act.eval,Act.put,go_sem,g1,g2,g3]
     .exact⟨Ap.store hbx0 (by omega) _,trivial,by simpa using hg.store5 hx3.2⟩
   .intro sp w7 hsp hg;obtain⟨p',n',c',x1,x2⟩:=hg.val5 rfl;have J:Aa (mR w w7 e P w1.heap.size (gk/P) Q' pp np cp q m d p' n' c'):=⟨hg.box0,hg.box1,hg.box2,x1,hg.k',hg.p,x2,Nat.lt_of_le_of_lt (Nat.div_le_self _ _) HST.out.limk,HST.out.limp,by have:=hQW.out;have:=hWA.out;have:=HA2.out;omega,hk'.out.1,hg.ne,hg.bel⟩
    clear hsp hg x1 x2;simp only[An,Nat.reduceAdd];generalize sp 3=u3,sp 4=u4,sp 5=u5 at *
    go_simp
    go_wp2
    go_roundg (gk/P)
    case measure=>exact hk'.out.2
    case rel=>exact⟨Q',q,m,d,p',n',c',J,HQP⟩
  .have HW1:Aa (Q=W):=⟨by
    have:=HQ.out
    rwa [Sa hP HST.out.pos,if_neg h0,Nat.mul_one]at this⟩
   have hz:Aa (decide (gk%P=0)=false):=⟨decide_eq_false h0⟩
   clear h0
   go_wp2_with fail
   refine(Dw HR3.out hz.out).mono ?_;rintro en w4 ⟨_,rfl,rfl,hb4⟩;have HST4:=Ab (HST3.out.later hb4);have d5:=HST4.out.box5.cell;have d2:=HST4.out.box2.cell;have f2:=HST4.out.box2.free;have hne:=HST4.out.ne;clear c3 hb4;go_wp2;refine bodyPost_ret (v:=.agg #[.slice pq nq cq]) (by simp[results,Tryz.results252,go_sem,d2]) rfl ⟨_,rfl,?_,?_⟩
   .rw[<-HW1.out];exact Fit.of (HST4.out.q.store HST4.out.box2 _) HST4.out.limq
   .exact HST4.out.bel.setCell (by simp;omega) _
theorem kB {p n:Nat}(hp:2<=p)(h0:0<n):pw p n n=1 ↔ ¬n%p=0:=by
 rw[Sa hp h0]
 by_cases h:n%p=0
 .rw[if_pos h];refine⟨fun e=>?_,fun e=>absurd h e⟩;have:p*pw p (n/p) (n/p)=1:=e;have:=Nat.le_of_dvd (by decide) (show p ∣ 1 from ⟨_,this.symm⟩);omega
 .rw[if_neg h];exact⟨fun _=>h,fun _=>rfl⟩
structure eB (w wr:World) (b5 b6 A Q e f:Nat) (pl:Option Addr) (nl cl:Nat) (po:Option Addr) (no co:Nat) (pq:Option Addr) (nq cq:Nat):Prop where
 box0:Af wr w.heap.size (.slice pl nl cl)
 box5:Af wr b5 (.slice po no co)
 box6:Af wr b6 (.slice pq nq cq)
 less:Aj wr pl nl cl A
 one:Aj wr po no co 1
 q:Aj wr pq nq cq Q
 lim:A<Ar e
 limq:Q<Ar f
 ne5:w.heap.size<b5
 ne6:b5<b6
 bel:Below w.heap.size w wr
theorem eB.later {w wr w1:World}{b5 b6 A Q e f:Nat}{pl:Option Addr}{nl cl:Nat}{po:Option Addr}{no co:Nat}{pq:Option Addr}{nq cq:Nat}(h:eB w wr b5 b6 A Q e f pl nl cl po no co pq nq cq)(hb:Below wr.heap.size wr w1):eB w w1 b5 b6 A Q e f pl nl cl po no co pq nq cq :=
 ⟨h.box0.below hb h.box0.lt,h.box5.below hb h.box5.lt,h.box6.below hb h.box6.lt,h.less.below hb,h.one.below hb,h.q.below hb,h.lim,h.limq,h.ne5,h.ne6,Ae h.bel hb⟩
theorem eB.store {w wr:World}{b5 b6 A Q Q' e f f':Nat}{pl:Option Addr}{nl cl:Nat}{po:Option Addr}{no co:Nat}{pq:Option Addr}{nq cq:Nat}{p':Option Addr}{n' c':Nat}(h:eB w wr b5 b6 A Q e f pl nl cl po no co pq nq cq)(hq:Aj wr p' n' c' Q')(hl:Q'<Ar f') :
  eB w (wr.setCell ⟨b6,0,none⟩ (.slice p' n' c')) b5 b6 A Q' e f' pl nl cl po no co p' n' c':=by
 have h1:=h.ne5;have h2:=h.ne6;exact⟨h.box0.other (by omega) _,h.box5.other (by omega) _,h.box6.set _,h.less.store h.box6 _,h.one.store h.box6 _,hq.store h.box6 _,h.lim,hl,h1,h2,h.bel.setCell (by simp;omega) _⟩
open Classical in
theorem Xv {w:World}{v:Value}{e A:Nat}{pp:Option Addr}{np cp:Nat}{ps:List Nat}(h:Fit e A v w)(hp:Cp w e pp np cp ps)(he:e<=100)(hA:0<A)(hps:∀p∈ps,2<=p)(hnp:np<=1000) :
  Calls Tryz.prog 241 #[.slice pp np cp,v] w fun en w'=>en=.returned (.bool (decide ((∀p∈ps,A%p=0)/\A+1<Ux A ps*Ux A ps)))/\Below w.heap.size w w':=by
 obtain⟨pl,nl,cl,rfl,h1,h2⟩:=Aw h;have HP:=Ab hp;have HLP:=Ab hp.len;have HPS:=Ab hps;obtain⟨ANS,hANS⟩:∃X,decide ((∀p∈ps,A%p=0)/\A+1<Ux A ps*Ux A ps)=X:=⟨_,rfl⟩
 have HANS:=Ab hANS;rw[hANS];have hbx:=Ef.mk1 w (.slice pl nl cl) 36;have HBX:=Ab hbx.bel;have HNB:=Ab (Af.made w (.slice pl nl cl));have HL1:=Ab h1;have HL2:=Ab h2;clear h hp hps hANS hbx h1 h2;go_enter Tryz.func241,Tryz.ntmps241
 go_wp2_with fail
 refine(Do 1 _ (by decide)).mono ?_;rintro en w1 ⟨po,no,co,rfl,hn1,hb1,_⟩;have HN1:=Ab hn1;have HB1:=Ab (Ae HBX.out hb1);have HNB1:=Ab (HNB.out.below hb1 HNB.out.lt);clear hb1 hn1;go_wp2
 go_loopw [8,9,14] (fun _ _ iv wr=>∃(k:Nat) (pq:Option Addr) (nq cq:Nat),k<=np/\iv=.int .i64 k/\Aa (eB w wr w1.heap.size (w1.heap.size+1) A (Ux A (ps.take k)) e (e*k+1) pl nl cl po no co pq nq cq)/\Aa (∀p∈ps.take k,A%p=0)) (fun _ _ iv _=>np-(intOf iv).toNat)
 case atStart=>
  have hb5:Below w1.heap.size w1 ((w1.alloc (.cells #[.slice po no co] 36)).alloc (.cells #[.slice po no co] 36)):=((Bb _ _).alloc (As _) _).alloc (by simp) _;refine⟨0,po,no,co,by omega,rfl,⟨HNB1.out.below hb5 HNB1.out.lt,(Af.made w1 _).below ((Bb _ _).alloc (As _) _) (by simp),?_,(HL1.out.below HB1.out).below hb5,HN1.out.below hb5,HN1.out.below hb5,HL2.out,by rw[Nat.mul_zero];exact(by decide:(1:Nat)<Ar 1),HNB1.out.lt,by omega,Ae HB1.out hb5⟩,⟨fun p hp=>by simp at hp⟩⟩;have:=Af.made (w1.alloc (.cells #[.slice po no co] 36)) (.slice po no co);simpa using this
 case round=>
  obtain⟨k,pq,nq,cq,hk,rfl,HST,HD⟩:=hrel
  by_cases hkn:k<np
  .obtain⟨P,hPk⟩:∃P,ps[k]? = some P:=⟨ps[k]'(by rw[<-HLP.out];exact hkn),List.getElem?_eq_getElem _⟩
   obtain⟨b,off,rfl,hb,hc⟩:=(HP.out.below HST.out.bel).at_ (by omega)
   obtain⟨q,m,d,hx,hnx,hlim⟩:=hc k P hPk;have hkn':(k:Int)<np:=by omega
   have HPk:=Ab hPk;have HP2:Aa (2<=P):=⟨HPS.out P (List.mem_of_getElem? hPk)⟩
   have hba:Below wr.heap.size wr (wr.alloc (.cells #[.slice q m d] 36)):=Bx;have HBP:=Ab (Af.made wr (.slice q m d));obtain⟨wa,hwa⟩:∃wa,wr.alloc (.cells #[.slice q m d] 36)=wa:=⟨_,rfl⟩
   rw[hwa]at hba HBP
   have HSTa:=Ab (HST.out.later hba);have HF:=Ab ((Fit.of hnx hlim).below hba);have HHa:=Ab hba.size;have c0:=HSTa.out.box0.cell;have c8:=HBP.out.cell;clear hc hnx hlim hPk hba
   go_wp2_with fail
   refine(fQ (Fit.of HSTa.out.less HSTa.out.lim) HF.out (by omega) HP2.out hA).mono ?_;rintro en w2 ⟨_,rfl,⟨r,l,f,rfl,hr,hrl⟩,hb2⟩;have HST2:=Ab (HSTa.out.later hb2);have hbb:Below w2.heap.size w2 (w2.alloc (.cells #[.slice r l f] 36)):=Bx;have HBB:=Ab (Af.made w2 (.slice r l f));obtain⟨wb,hwb⟩:∃wb,w2.alloc (.cells #[.slice r l f] 36)=wb:=⟨_,rfl⟩
   rw[hwb]at hbb HBB
   have HSTb:=Ab (HST2.out.later hbb);have HPW:=Ab ((Fit.of hr hrl).below hbb);have c9:=HBB.out.cell;have c5:=HSTb.out.box5.cell;clear hr hrl hb2 hbb c0 c8
   by_cases h0:A%P=0
   .have hK:Aa ((Bo (pw P A A) 1==0)=false):=⟨by
     rw[beq_eq_false_iff_ne];exact fun e=>((kB HP2.out hA).1 (Ce.1 e)) h0⟩
    obtain⟨K,hKe⟩:∃K,Bo (pw P A A) 1=K:=⟨_,rfl⟩
    rw[hKe]at hK
    have HKe:=Ab hKe;clear hKe;have hK':=hK.out;have HD':Aa (∀p∈ps.take (k+1),A%p=0):=⟨by
     have hi:k<ps.length:=(List.getElem?_eq_some_iff.1 HPk.out).1;have e:ps[k]=P:=by have:=HPk.out;rw[List.getElem?_eq_getElem hi]at this;exact Option.some.inj this
     rw[List.take_succ_eq_append_getElem hi,e];intro p hp;rcases List.mem_append.1 hp with hp|hp
     .exact HD.out p hp
     .simp at hp;rw[hp];exact h0⟩
    have HQ':Aa (Ux A (ps.take k)*pw P A A=Ux A (ps.take (k+1))):=⟨by
     have hi:k<ps.length:=(List.getElem?_eq_some_iff.1 HPk.out).1;have e:ps[k]=P:=by have:=HPk.out;rw[List.getElem?_eq_getElem hi]at this;exact Option.some.inj this
     rw[List.take_succ_eq_append_getElem hi,e,Zi]⟩
    have hek:e*k<=100000:=by
     have:=Nat.mul_le_mul he (show k<=1000 by omega);omega
    have HEK:=Ab hek;have HEK':Aa (e*k+1+e=e*(k+1)+1):=⟨by rw[Nat.mul_succ];omega⟩
    clear h0 hek
    go_wp2_with fail
    refine(Bu HPW.out (Fit.of HSTb.out.one (by decide:(1:Nat)<Ar 1)) (by omega) (by omega) HKe.out).mono ?_;rintro en w3 ⟨_,rfl,rfl,hb3⟩;have HST3:=Ab (HSTb.out.later hb3);have HPW3:=Ab (HPW.out.below hb3);have d9:=(HBB.out.below hb3 HBB.out.lt).cell;have d6:=HST3.out.box6.cell;clear hb3 c9 c5
    go_wp2_with fail
    refine(Ni (Fit.of HST3.out.q HST3.out.limq) HPW3.out (by have:=HEK.out;omega) (by omega)).mono ?_;rintro en w4 ⟨_,rfl,⟨r4,l4,f4,rfl,x1,x2⟩,hb4⟩;rw[HQ'.out]at x1 x2
    rw[HEK'.out]at x2
    have HST4:=Ab (HST3.out.later hb4);have HST5:=Ab (HST4.out.store x1 x2);have e6:=HST4.out.box6.cell;have f6:=HST4.out.box6.free;clear hb4 x1 x2 d9 d6;go_wp2;go_roundw
    case rel=>exact⟨k+1,r4,l4,f4,by omega,by go_num,HST5,HD'⟩
    case measure=>simp[intOf];omega
   .have hK:Aa (Bo (pw P A A) 1=0):=⟨Ce.2 ((kB HP2.out hA).2 h0)⟩
    have HF':Aa (ANS=false):=⟨by
     rw[<-HANS.out];exact decide_eq_false fun hh=>h0 (hh.1 P (List.mem_of_getElem? HPk.out))⟩
    clear h0
    go_wp2_with fail
    refine(Bu HPW.out (Fit.of HSTb.out.one (by decide:(1:Nat)<Ar 1)) (by omega) (by omega) hK.out).mono ?_;rintro en w3 ⟨_,rfl,rfl,hb3⟩;have HB3:=Ab (Ae HSTb.out.bel hb3);clear hb3;go_wp2;go_ret;exact⟨by rw[HF'.out];rfl,HB3.out⟩
  .obtain rfl:k=np:=by omega
   have hkn':¬(k:Int)<k:=by omega
   have hta:ps.take k=ps:=List.take_of_length_le (by rw[<-HLP.out];exact As _);rw[hta]at HST HD
   obtain⟨Q,hQ⟩:∃Q,Ux A ps=Q:=⟨_,rfl⟩
   rw[hQ]at HST
   have HQ:=Ab hQ;have hek:e*k<=100000:=by
    have:=Nat.mul_le_mul he hnp;omega
   have HEK:Aa (e*k+1<=900000):=⟨by omega⟩
   have HEK2:Aa (e*k+1+(e*k+1)<=900000):=⟨by omega⟩
   obtain⟨K,hK⟩:∃K,Bo (Q*Q) (A+1)=K:=⟨_,rfl⟩
   obtain⟨DD,hDD⟩:∃DD,decide (0<K)=DD:=⟨_,rfl⟩
   have HK:=Ab hK;have HA:Aa (ANS=DD):=⟨by
    rw[<-HANS.out,<-hDD,<-hK,hQ];exact decide_eq_decide.2 ⟨fun h=>Je.2 h.2,fun h=>⟨HD.out,Je.1 h⟩⟩⟩
   have HDDh:=Ab hDD;clear hta hQ hek hK hDD;go_wp2;have hDD:=HDDh.out;refine Ah (by kernel_rfl) (by kernel_rfl)
    [some (.agg #[.slice pq nq cq]),some (.agg #[.slice pq nq cq]),none,some (.agg #[.slice pl nl cl]),some (.agg #[.slice po no co]),none,none,some (.bool DD),some (.bool DD)]
    [false,false,true,false,false,true,true,false,false] rfl
    (fun w1 w2=>Below w1.heap.size w1 w2)
    (fun _ w'=>Below wr.heap.size wr w')
    (fun i v w'=>match i with
     | 2=>Fit (e*k+1+(e*k+1)) (Q*Q) v w'
     | 5=>Fit (e+1+1) (A+1) v w'
     | 6=>v=.int .i64 K
     | _=>True)
    ?_ (Bb _ _).drew ?_ ?_
   .intro i v w1 w2 hf hb;split at hf
    .exact hf.below hb
    .exact hf.below hb
    .exact hf
    .trivial
   .simp only[Ba,Nat.reduceAdd];refine⟨?_,?_,?_,?_,?_,?_,?_,?_,?_,trivial⟩
    all_goals intro D sp w' hD hW hdp hbx'
    case refine_1|refine_2=>
     have c6:=(HST.out.later hbx').box6.cell
     with_reducible refine Ad ?_ ?_
     all_goals simp[Region.wanted,yielded,execOp,Act.eval,Act.put,go_sem,c6]
    case refine_3=>
     (with_reducible refine Ac (w1:=w') (f := 122) (args:=#[.agg #[.slice pq nq cq],.agg #[.slice pq nq cq]]) ?_ ?_ ?_)
     .simp only[Region.wanted]
     .simp[Act.eval,Act.put,go_sem]
     .refine(Ni (Fit.of (HST.out.later hbx').q HST.out.limq) (Fit.of (HST.out.later hbx').q HST.out.limq) HEK.out HEK.out).mono ?_;rintro en w5 ⟨u,rfl,hu,hb⟩;exact⟨u,rfl,hb,hu,Ae hbx' hb⟩
    case refine_4=>
     have c0:=(HST.out.later hbx').box0.cell
     with_reducible refine Ad ?_ ?_
     all_goals simp[Region.wanted,yielded,execOp,Act.eval,Act.put,go_sem,c0]
    case refine_5=>
     have c5:=(HST.out.later hbx').box5.cell
     with_reducible refine Ad ?_ ?_
     all_goals simp[Region.wanted,yielded,execOp,Act.eval,Act.put,go_sem,c5]
    case refine_6=>
     (with_reducible refine Ac (w1:=w') (f := 121) (args:=#[.agg #[.slice pl nl cl],.agg #[.slice po no co]]) ?_ ?_ ?_)
     .simp only[Region.wanted]
     .simp[Act.eval,Act.put,go_sem]
     .refine(Nr (Fit.of (HST.out.later hbx').less HST.out.lim) (Fit.of (HST.out.later hbx').one (by decide:(1:Nat)<Ar 1)) (by omega) (by omega)).mono ?_;rintro en w5 ⟨u,rfl,hu,hb⟩;exact⟨u,rfl,hb,hu,Ae hbx' hb⟩
    case refine_7=>
     have k2:Fit (e*k+1+(e*k+1)) (Q*Q) (sp 2) w':=(hdp 2 (mq (by kernel_rfl))).2;have k5:Fit (e+1+1) (A+1) (sp 5) w':=(hdp 5 (mq (by kernel_rfl))).2
     (with_reducible refine Ac (w1:=w') (f := 34) (args:=#[sp 2,sp 5]) ?_ ?_ ?_)
     .simp only[Region.wanted]
     .simp[Act.eval,Act.put,go_sem]
     .refine(Bu k2 k5 HEK2.out (by omega) HK.out).mono ?_;rintro en w5 ⟨u,rfl,hu,hb⟩;exact⟨u,rfl,hb,hu,Ae hbx' hb⟩
    case refine_8=>
     have k6:(sp 6)=.int .i64 K:=(hdp 6 (mq (by kernel_rfl))).2
     with_reducible refine Ad ?_ ?_
     all_goals simp[Region.wanted,yielded,execOp,Act.eval,Act.put,go_sem,k6,hDD]
    all_goals ((with_reducible refine Ad ?_ ?_);all_goals first|(simp only[Region.wanted];done)|simp[Region.wanted,yielded,execOp,Act.eval,Act.put,go_sem])
   .intro sp w7 hsp hbx';have HBe:=Ab (Ae HST.out.bel hbx');clear hsp hbx' hDD;simp only[An,Nat.reduceAdd];generalize sp 2=y2,sp 5=y5,sp 6=y6 at *
    go_simp
    go_wp2;go_ret;exact⟨by rw[HA.out];rfl,HBe.out⟩
end Go.Proofs.YtnbmfaihlefgfaaGreatDoor
