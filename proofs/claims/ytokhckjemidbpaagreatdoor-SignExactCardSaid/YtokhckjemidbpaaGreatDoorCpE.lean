/- Pocklington's conditions, of the program. -/
import Derived.Laws.OwnMore
import Derived.Lib.AppendZeros
import Derived.ArgAppend
import Derived.Deep.Slices
import Derived.ChangeSame
import Derived.ChangeSlices
import Derived.ChangeArms
import Derived.Deep.LoopGhost
import Derived.Test.YtokhckjemidbpaaGreatDoorExp
set_option maxRecDepth 1000000
set_option maxHeartbeats 16000000
set_option linter.all false
namespace Go.Proofs.YtokhckjemidbpaaGreatDoor
open Go Go.RowKit Go.Proofs.YtokhckjemidbpaaGreatDoor.Flow
theorem iA (A E M i:Nat)(b:Bool)(hb:bit E i=b):A^(E/2^i)%M=if b then ((A^(E/2^(i+1))%M*(A^(E/2^(i+1))%M))%M*(A%M))%M else (A^(E/2^(i+1))%M*(A^(E/2^(i+1))%M))%M:=by
 rw[Ht E i,hb];generalize E/2^(i+1)=q;have e:A^(2*q)=A^q*A^q:=by rw[<-Nat.pow_add];congr 1;omega
 cases b with
 | false=>simp only[Bool.toNat_false,Nat.add_zero,Bool.false_eq_true,if_false,e,<-Nat.mul_mod]
 | true=>simp only[Bool.toNat_true,if_true,Nat.pow_succ,e,<-Nat.mul_mod]
theorem aQ {w:World}{v u t:Value}{A E M:Nat}(h:Al A v w)(k:Al E u w)(l:Al M t w)(hA:Ao A<=100000)(hE:Ao E<=100000)(hM:Ao M<=100000)(hM0:0<M) :
  Calls Tryz.prog 138 #[v,u,t] w fun en w'=>∃x,en=.returned x/\Al (A^E%M) x w'/\Below w.heap.size w w':=by
 obtain⟨p,n,c,rfl,h⟩:=h;obtain⟨q,m,d,rfl,k⟩:=k;obtain⟨r,s,e,rfl,l⟩:=l;have hm:=Ch k;have HM:Aa (m=Ao E):=⟨hm⟩
 have HA:=Ab h;have HE:=Ab k;have HL:=Ab l;have hmm:m<=100000:=by omega
 have hblm:Aa (∀x,Ao (x%M)<=100000):=⟨fun x=>Dn (Ee (Nat.le_of_lt (Nat.mod_lt x hM0))) hM⟩
 clear h k l hm;go_enter Tryz.func138,Tryz.ntmps138
 go_wp2_with fail
 refine(Fb 1 w (by decide)).mono ?_;rintro en w1 ⟨p1,n1,c1,rfl,hn1,hb1,_⟩;have HL1:=Ab (HL.out.below hb1)
 go_wp2_with fail
 refine(Gv (Al.of hn1) (Al.of HL1.out) (by have:Ao 1<=1:=(Bg 1 1).2 (by decide);omega) (by omega) hM0).mono ?_;rintro en w2 ⟨x2,rfl,hx2,hb2⟩;have HX2:=Ab hx2;have HB2:=Ab (Ae hb1 hb2);clear hn1 hb1 hx2 hb2
 go_wp2_with fail
 refine(Gv (Al.of (HA.out.below HB2.out)) (Al.of (HL.out.below HB2.out)) (by omega) (by omega) hM0).mono ?_;rintro en w3 ⟨x3,rfl,hx3,hb3⟩;have HX3:=Ab hx3;have HX2':=Ab (HX2.out.below hb3);have HB3:=Ab (Ae HB2.out hb3);clear hx3 hb3;go_wp2
 go_loopw [7,8] (fun rv iv wr=>∃j:Nat,j<=m/\iv=.int .i64 ((j:Int)-1)/\Aa (Al (A^(E/2^j)%M) rv wr)/\Aa (Below w3.heap.size w3 wr)) (fun _ iv _=>(intOf iv+1).toNat)
 case atStart=>
  refine⟨m,As _,rfl,⟨?_⟩,⟨Bb _ _⟩⟩;rw[HM.out,Nat.div_eq_of_lt (Ec E),Nat.pow_zero];exact HX2'.out
 case round=>
  obtain⟨j,hj,rfl,HR,HBr⟩:=hrel
  cases j with
  | zero=>
   have HR0:Aa (Al (A^E%M) u7 wr):=⟨by have:=HR.out;rwa [Nat.pow_zero,Nat.div_one]at this⟩
   go_wp2;go_ret;exact⟨_,rfl,HR0.out,Ae HB3.out HBr.out⟩
  | succ j=>
   have e1:(((j+1:Nat):Int)-1)=(j:Int):=by omega
   simp only[e1];have HBr3:=Ab (Ae HB3.out HBr.out);have HEr:=Ab (HE.out.below HBr3.out);have HLr:=Ab (HL.out.below HBr3.out);have HS:Aa _:=⟨fun b hb=>iA A E M j b hb⟩
   clear e1
   go_wp2_with fail
   refine(Kp HR.out HR.out (Al.of HLr.out) (hblm.out _) (hblm.out _) (by omega) hM0).mono ?_;rintro en w4 ⟨x4,rfl,hx4,hb4⟩;have HE4:=Ab (HEr.out.below hb4);obtain⟨b,off,rfl,hbs,hc⟩:=Gi.pos HE4.out (by omega);obtain⟨B,hB⟩:∃B,bit E j=B:=⟨_,rfl⟩
   have hcj:=hc j B (by rw[<-hB];exact Dq (by rw[<-HM.out];omega));have HX4:=Ab hx4;have HB4:=Ab (HBr.out.trans (hb4.mono HBr.out.size));have HPS:=HS.out B hB;have HX34:=Ab ((HX3.out.below HBr.out).below hb4);have HL4:=Ab (HLr.out.below hb4);have HP:=Ab HPS;clear hx4 hb4 hc hB HPS
   cases B with
   | false=>
    go_wp2;go_roundw
    case rel=>exact⟨j,by omega,rfl,⟨by rw[HP.out,if_neg (by simp)];exact HX4.out⟩,HB4⟩
    case measure=>simp[intOf]
   | true=>
    go_wp2_with fail
    refine(Kp HX4.out HX34.out (Al.of HL4.out) (hblm.out _) (hblm.out _) (by omega) hM0).mono ?_;rintro en w5 ⟨x5,rfl,hx5,hb5⟩;have HX5:=Ab hx5;have HB5:=Ab (HB4.out.trans (hb5.mono HB4.out.size));clear hx5 hb5;go_wp2;go_roundw
    case rel=>exact⟨j,by omega,rfl,⟨by rw[HP.out,if_pos trivial];exact HX5.out⟩,HB5⟩
    case measure=>simp[intOf]
def pm (a n:Nat):Nat->Nat->Nat
 | 0,_=>1%n
 | f+1,e=>if e=0 then 1%n else
  let h:=pm a n f (e/2)
  if e%2=1 then h*h%n*a%n else h*h%n
theorem Pd (a n:Nat):∀f e,e<2^f->pm a n f e=a^e%n
 | 0,e,h=>by
  have:e=0:=by simp at h;omega
  subst this;rw[pm,Nat.pow_zero]
 | f+1,e,h=>by
  unfold pm;split
  .rename_i h0;rw[h0,Nat.pow_zero]
  .have ih:=Pd a n f (e/2) (by rw[Nat.pow_succ]at h;omega);have e2:a^(2*(e/2))=a^(e/2)*a^(e/2):=by rw[<-Nat.pow_add];congr 1;omega
   simp only[ih];split
   .rename_i h1
    have:e=2*(e/2)+1:=by omega
    conv=>rhs;rw[this,Nat.pow_succ,e2]
    simp[Nat.mul_mod]
   .rename_i h1
    have:e=2*(e/2):=by omega
    conv=>rhs;rw[this,e2]
    rw[<-Nat.mul_mod]
theorem Gp {P:Program}{o:Oper}{ops:Array Oper}{a:Act}{w:World}{K:Value->World->Prop}(hw:Region.wanted o (yielded ops a.tmps)=false)(hk:K undef w):asked P o ops a w K:=by
 unfold asked;rw[if_neg (by rw[hw];exact Bool.false_ne_true)];exact hk
structure Cp (w:World) (e:Nat) (p:Option Addr) (n c:Nat) (Ns:List Nat):Prop where
 len:n=Ns.length
 cap:n<=c
 max:c<=9223372036854775807
 nil:p=none->c=0
 at_:0<n->∃b off,p=some ⟨b,off,none⟩/\b<w.heap.size/\∀i N,Ns[i]? = some N->∃q m d,w.cell? ⟨b,off+i,none⟩=some (.slice q m d)/\Aj w q m d N/\N<Ar e
theorem Cp.below {w w':World}{e:Nat}{p:Option Addr}{n c:Nat}{Ns:List Nat}(h:Cp w e p n c Ns)(hb:Below w.heap.size w w'):Cp w' e p n c Ns:=by
 refine⟨h.len,h.cap,h.max,h.nil,fun h0=>?_⟩;obtain⟨b,off,h1,h2,h3⟩:=h.at_ h0
 refine⟨b,off,h1,Ej h2 hb.size,fun i N hN=>?_⟩;obtain⟨q,m,d,h4,h5,h6⟩:=h3 i N hN;exact⟨q,m,d,by rw[hb.cell (p:=⟨b,off+i,none⟩) h2];exact h4,h5.below hb,h6⟩
structure Fv (w:World) (e:Nat) (p:Option Addr) (n c:Nat) (l:List Bz):Prop where
 len:n=l.length
 cap:n<=c
 max:c<=9223372036854775807
 nil:p=none->c=0
 at_:0<n->∃b off,p=some ⟨b,off,none⟩/\b<w.heap.size/\∀i s,l[i]? = some s->∃q0 m0 d0 q1 m1 d1 q2 m2 d2,
  w.cell? ⟨b,off+i*3,none⟩=some (.slice q0 m0 d0)/\w.cell? ⟨b,off+i*3+1,none⟩=some (.slice q1 m1 d1)/\w.cell? ⟨b,off+i*3+2,none⟩=some (.slice q2 m2 d2) /\
  Aj w q0 m0 d0 s.n/\s.n<Ar e/\Aj w q1 m1 d1 s.base/\s.base<Ar e/\Cp w e q2 m2 d2 s.ps
theorem Fv.below {w w':World}{e:Nat}{p:Option Addr}{n c:Nat}{l:List Bz}(h:Fv w e p n c l)(hb:Below w.heap.size w w'):Fv w' e p n c l:=by
 refine⟨h.len,h.cap,h.max,h.nil,fun h0=>?_⟩;obtain⟨b,off,h1,h2,h3⟩:=h.at_ h0
 refine⟨b,off,h1,Ej h2 hb.size,fun i s hs=>?_⟩;obtain⟨q0,m0,d0,q1,m1,d1,q2,m2,d2,k0,k1,k2,k3,k4,k5,k6,k7⟩:=h3 i s hs;have hc:∀o,w'.cell? ⟨b,o,none⟩=w.cell? ⟨b,o,none⟩:=fun o=>hb.cell (p:=⟨b,o,none⟩) h2
 exact⟨q0,m0,d0,q1,m1,d1,q2,m2,d2,by rw[hc];exact k0,by rw[hc];exact k1,by rw[hc];exact k2,k3.below hb,k4,k5.below hb,k6,k7.below hb⟩
def Fr (s:Bz):Prop:=1024<Ao s.n ∨ 1024<Ao s.base ∨ ∃p∈s.ps,1024<Ao p
open Classical in
def iU:Prop:=∀(w:World) (N e:Nat) (v:Value),Fit e N v w->e<=200 ->
 Calls Tryz.prog 178 #[v] w fun en w'=>en=.returned (.bool (decide (Dd N)))/\Below w.heap.size w w'
def pB (n:Nat):Prop:=n<18446744073709551616
open Go Go.RowKit Go.Deep Go.ChangeShapes Go.WideShapes
theorem pT {w:World}{a:Option Addr}{len cap:Nat}{zs:List Int}(h:(a=none/\len=0/\cap=0/\zs=[]) ∨ ∃x,a=some x/\len<=cap/\cap<=maxLen/\zs.length=cap/\(∀i,i<zs.length->w.cell? (x.add i)=some (.int .u64 (zs.getD i 0)))/\∀n∈zs,(Lit.int .u64 n).wf=true) :
  Bd w .u64 a len cap (bytesIn zs len)/\∀x∈bytesIn zs len,pB x:=by
 rcases h with ⟨rfl,rfl,rfl,rfl⟩|⟨x,rfl,hl,hm,hz,hc,hw⟩
 .exact⟨⟨by simp[bytesIn],As _,by omega,fun h=>absurd h (by omega)⟩,by simp[bytesIn]⟩
 .have hm':cap<=9223372036854775807:=by simpa [maxLen]using hm
  have hlen:len=(bytesIn zs len).length:=by simp[bytesIn];omega
  refine⟨⟨hlen,hl,hm',fun h0=>?_⟩,?_⟩
  .obtain⟨b,off,spot⟩:=x;have h1:=hc 0 (by omega);have hspot:spot=none:=by simpa [Addr.add]using World.cell?_spot h1
   subst hspot;have hadd:∀i,(⟨b,off,none⟩:Addr).add i=⟨b,off+i,none⟩:=add_plain b off;refine⟨hlen,hl,hm',.inr ⟨b,off,rfl,?_,fun i y hy=>?_⟩⟩
   .rw[hadd]at h1
    unfold World.cell? at h1;rcases Nat.lt_or_ge b w.heap.size with k|k
    .exact k
    .simp[Array.getElem?_eq_none k]at h1
   .simp only[bytesIn,List.getElem?_map,List.getElem?_take]at hy;split at hy
    .rename_i hi
     have hi2:i<zs.length:=by omega
     rw[List.getElem?_eq_getElem hi2]at hy
     simp only[Option.map_some,Option.some.injEq]at hy;have:=wf_u64 (hw zs[i] (List.getElem_mem _));rw[<-hadd,hc i hi2,<-hy,Du,List.getElem?_eq_getElem hi2];simp only[Option.getD_some]
     congr 2
     omega
    .simp at hy
  .intro y hy;simp only[bytesIn,List.mem_map]at hy;obtain⟨z,hz',rfl⟩:=hy;have:=wf_u64 (hw z (List.mem_of_mem_take hz'));unfold pB;omega
instance:Inhabited Bz:=⟨⟨0,0,[]⟩⟩
structure Ij (w w':World):Prop where
 size:w'.heap.size=w.heap.size
 cell:∀a v,w.cell? a=some v->(∀p n c,v≠.slice p n c)->w'.cell? a=some v
theorem Ij.trans {a b c:World}(h:Ij a b)(k:Ij b c):Ij a c:=⟨k.size.trans h.size,fun x v hx hn=>k.cell x v (h.cell x v hx hn) hn⟩
theorem Ij.set {w:World}{a:Addr}{p:Option Addr}{n c:Nat}(h:w.cell? a=some (.slice p n c))(u:Value):Ij w (w.setCell a u) :=
 ⟨by simp,fun x v hx hn=>by
  rw[World.cell?_setCell_other w a x u (fun e=>by subst e;rw[h]at hx;cases hx;exact hn _ _ _ rfl)];exact hx⟩
structure pD (At:World->Option Addr->Nat->Nat->Nat->Prop):Prop where
 below:∀ {w w' p n c N},At w p n c N->Below w.heap.size w w'->At w' p n c N
 kept:∀ {w w' p n c N},At w p n c N->Ij w w'->At w' p n c N
theorem Pr:pD Bi:=⟨fun h hb=>h.below hb,fun {w w' p n c N} h hk=>by
 refine⟨h.len,h.cap,h.max,?_⟩;rcases h.at_ with k|⟨b,off,k1,k2,k3⟩
 .exact .inl k
 .exact .inr ⟨b,off,k1,by rw[hk.size];exact k2,fun i x hx=>hk.cell _ _ (k3 i x hx) (fun _ _ _ e=>by cases e)⟩⟩
structure Qx (t:TypeId) (w:World) (b:Nat) (v0 v1 v2:Value):Prop where
 at_:w.heap[b]? = some (.cells #[v0,v1,v2] t (0,0))
theorem Qx.lt {t:TypeId}{w:World}{b:Nat}{v0 v1 v2:Value}(h:Qx t w b v0 v1 v2):b<w.heap.size:=(Kv h.at_).1
theorem Qx.below {t:TypeId}{w w':World}{B b:Nat}{v0 v1 v2:Value}(h:Qx t w b v0 v1 v2)(hb:Below B w w')(hB:b<B):Qx t w' b v0 v1 v2:=⟨by rw[hb.block b hB];exact h.at_⟩
theorem Qx.cells {t:TypeId}{w:World}{b:Nat}{v0 v1 v2:Value}(h:Qx t w b v0 v1 v2):w.cell? ⟨b,0,none⟩=some v0/\w.cell? ⟨b,1,none⟩=some v1/\w.cell? ⟨b,2,none⟩=some v2:=by
 have:=h.at_
 simp[World.cell?,this]
theorem Qx.made (t:TypeId)(w:World)(v0 v1 v2:Value):Qx t (w.alloc (.cells #[v0,v1,v2] t)) w.heap.size v0 v1 v2:=⟨heap_alloc_new w _⟩
section
variable {At:World->Option Addr->Nat->Nat->Nat->Prop} {mk:Option Addr->Nat->Nat->Value} {t:TypeId} {w0:World} {N B:Nat} {d2 d5 d6 d7:Bool} {v2 v5 v6 v7:Value} {w:World}
end
theorem Fit.tight {e f N:Nat}{v:Value}{w:World}(h:Fit e N v w)(hN:N<Ar f):Fit f N v w :=
 let ⟨p,n,c,h1,h2,_⟩:=h
 ⟨p,n,c,h1,h2,hN⟩
theorem pV {p n:Nat}(h:0<n)(f:Nat):0<pw p f n:=Nat.pos_of_dvd_of_pos (Xh p f n) h
theorem qN {p n:Nat}(h:0<n)(f:Nat):pw p f n<=n:=Nat.le_of_dvd h (Xh p f n)
structure mR (w wr:World) (e P b5 k Q:Nat) (pp:Option Addr) (np cp:Nat) (pa:Option Addr) (na ca:Nat) (pq:Option Addr) (nq cq:Nat):Prop where
 box0:Af wr w.heap.size (.slice pa na ca)
 box1:Af wr (w.heap.size+1) (.slice pp np cp)
 box2:Af wr (w.heap.size+1+1) (.slice none 0 0)
 box5:Af wr b5 (.slice pq nq cq)
 a:Aj wr pa na ca k
 p:Aj wr pp np cp P
 q:Aj wr pq nq cq Q
 limk:k<Ar e
 limp:P<Ar e
 limq:Q<Ar e
 pos:0<k
 ne:w.heap.size+3<=b5
 bel:Below w.heap.size w wr
theorem mR.later {w wr w1:World}{e P b5 k Q:Nat}{pp:Option Addr}{np cp:Nat}{pa:Option Addr}{na ca:Nat}{pq:Option Addr}{nq cq:Nat}(h:mR w wr e P b5 k Q pp np cp pa na ca pq nq cq)(hb:Below wr.heap.size wr w1):mR w w1 e P b5 k Q pp np cp pa na ca pq nq cq :=
 ⟨h.box0.below hb h.box0.lt,h.box1.below hb h.box1.lt,h.box2.below hb h.box2.lt,h.box5.below hb h.box5.lt,h.a.below hb,h.p.below hb,h.q.below hb,h.limk,h.limp,h.limq,h.pos,h.ne,Ae h.bel hb⟩
structure nK (w wr:World) (e P b5 bq k Q k' Q':Nat) (pp:Option Addr) (np cp:Nat) (pa:Option Addr) (na ca:Nat) (pq:Option Addr) (nq cq:Nat) (q:Option Addr) (m d:Nat) (d4 d5:Bool):Prop where
 box0:Af wr w.heap.size (if d4 then .slice q m d else .slice pa na ca)
 box1:Af wr (w.heap.size+1) (.slice pp np cp)
 box2:Af wr (w.heap.size+1+1) (.slice none 0 0)
 box5:d5=false->Af wr b5 (.slice pq nq cq)
 val5:d5=true->Cj wr b5 Q'
 boxq:Af wr bq (.slice q m d)
 k':Aj wr q m d k'
 p:Aj wr pp np cp P
 q:Aj wr pq nq cq Q
 ne:w.heap.size+3<=b5
 neq:b5<bq
 bel:Below w.heap.size w wr
theorem nK.later {w wr w1:World}{e P b5 bq k Q k' Q':Nat}{pp:Option Addr}{np cp:Nat}{pa:Option Addr}{na ca:Nat}{pq:Option Addr}{nq cq:Nat}{q:Option Addr}{m d:Nat}{d4 d5:Bool}(h:nK w wr e P b5 bq k Q k' Q' pp np cp pa na ca pq nq cq q m d d4 d5)(hb:Below wr.heap.size wr w1):nK w w1 e P b5 bq k Q k' Q' pp np cp pa na ca pq nq cq q m d d4 d5 :=
 ⟨h.box0.below hb h.box0.lt,h.box1.below hb h.box1.lt,h.box2.below hb h.box2.lt,fun a=>(h.box5 a).below hb (h.box5 a).lt,fun a=>(h.val5 a).below hb,h.boxq.below hb h.boxq.lt,h.k'.below hb,h.p.below hb,h.q.below hb,h.ne,h.neq,Ae h.bel hb⟩
theorem nK.store4 {w wr:World}{e P b5 bq k Q k' Q':Nat}{pp:Option Addr}{np cp:Nat}{pa:Option Addr}{na ca:Nat}{pq:Option Addr}{nq cq:Nat}{q:Option Addr}{m d:Nat}{d5:Bool}(h:nK w wr e P b5 bq k Q k' Q' pp np cp pa na ca pq nq cq q m d false d5) :
  nK w (wr.setCell ⟨w.heap.size,0,none⟩ (.slice q m d)) e P b5 bq k Q k' Q' pp np cp pa na ca pq nq cq q m d true d5:=by
 have hb:Af wr w.heap.size (.slice pa na ca):=h.box0;have h1:=h.ne;have h2:=h.neq;exact⟨hb.set _,h.box1.other (by omega) _,h.box2.other (by omega) _,fun a=>(h.box5 a).other (by omega) _,fun a=>(h.val5 a).other hb (by omega) _,h.boxq.other (by omega) _,h.k'.store hb _,h.p.store hb _,h.q.store hb _,h.ne,h.neq,h.bel.setCell (As _) _⟩
theorem nK.store5 {w wr:World}{e P b5 bq k Q k' Q':Nat}{pp:Option Addr}{np cp:Nat}{pa:Option Addr}{na ca:Nat}{pq:Option Addr}{nq cq:Nat}{q:Option Addr}{m d:Nat}{d4:Bool}{p':Option Addr}{n' c':Nat}(h:nK w wr e P b5 bq k Q k' Q' pp np cp pa na ca pq nq cq q m d d4 false)(hq:Aj wr p' n' c' Q') :
  nK w (wr.setCell ⟨b5,0,none⟩ (.slice p' n' c')) e P b5 bq k Q k' Q' pp np cp pa na ca pq nq cq q m d d4 true:=by
 have hb:=h.box5 rfl;have h1:=h.ne;have h2:=h.neq;exact⟨h.box0.other (by omega) _,h.box1.other (by omega) _,h.box2.other (by omega) _,(fun a=>by cases a),fun _=>⟨p',n',c',hb.set _,hq.store hb _⟩,h.boxq.other (by omega) _,h.k'.store hb _,h.p.store hb _,h.q.store hb _,h.ne,h.neq,h.bel.setCell (by simp;omega) _⟩
theorem fQ {w:World}{v u:Value}{e A P:Nat}(h:Fit e A v w)(k:Fit e P u w)(he:e<=300000)(hP:2<=P)(hA:0<A) :
  Calls Tryz.prog 250 #[v,u] w fun en w'=>∃x,en=.returned x/\Fit e (pw P A A) x w'/\Below w.heap.size w w':=by
 obtain⟨pa,na,ca,rfl,h1,h2⟩:=Aw h;obtain⟨pp,np,cp,rfl,k1,k2⟩:=Aw k;have hbx:=Yn.mk3 w (.slice pa na ca) (.slice pp np cp) (.slice none 0 0);have HBX:=Ab hbx;have HA1:=Ab h1;have HP1:=Ab k1;have HA2:=Ab h2;have HP2:=Ab k2;obtain⟨W,hW⟩:∃W,pw P A A=W:=⟨_,rfl⟩
 have HW:=Ab hW;rw[hW];clear h k h1 h2 k1 k2 hbx hW;go_enter Tryz.func250,Tryz.ntmps250
 go_wp2_with fail
 refine(Do 1 _ (by decide)).mono ?_;rintro en w1 ⟨q1,m1,d1,rfl,hn1,hb1,_⟩;have HN1:=Ab hn1;have HBX1:=Ab (HBX.out.later hb1);clear hb1 hn1;go_wp2
 go_loopg [6,7,8] A (fun k _ _ _ wr=>∃(Q:Nat) (pa:Option Addr) (na ca:Nat) (pq:Option Addr) (nq cq:Nat),Aa (mR w wr e P w1.heap.size k Q pp np cp pa na ca pq nq cq)/\Aa (Q*pw P k k=W))
 case atStart=>
  have hb:Below w1.heap.size w1 (w1.alloc (.cells #[.slice q1 m1 d1] 37)):=Bx;have hx:=HBX1.out.later hb;refine⟨1,pa,na,ca,q1,m1,d1,⟨hx.b0,hx.b1,hx.b2,Af.made w1 _,HA1.out.below hx.bel,HP1.out.below hx.bel,HN1.out.below hb,HA2.out,HP2.out,Nat.lt_of_le_of_lt hA HA2.out,hA,?_,hx.bel⟩,⟨by rw[Nat.one_mul];exact HW.out⟩⟩;have:=HBX1.out.b2.lt;omega
 case round=>
  obtain⟨Q,pa,na,ca,pq,nq,cq,HST,HQ⟩:=hrel;have c0:=HST.out.box0.cell;have c1:=HST.out.box1.cell
  go_wp2_with fail
  refine(Xx (Fit.of HST.out.a HST.out.limk) (Fit.of HST.out.p HST.out.limp) (by omega) (by omega)).mono ?_;rintro en w2 ⟨_,rfl,⟨qv,rv,rfl,hq,hr⟩,hb2⟩;rw[if_neg (by omega)]at hr
  rw[if_neg (by omega)];obtain⟨q,m,d,rfl,q1',q2'⟩:=hq;obtain⟨r,l,f,rfl,r1',r2'⟩:=hr;have HST2:=Ab (HST.out.later hb2);have HQ1:=Ab q1';have HR1:=Ab (Fit.of r1' r2');clear hb2 q1' r1' q2' r2' c0 c1;obtain⟨w3,hw3⟩:∃w3,(w2.alloc (.cells #[.slice q m d] 37)).alloc (.cells #[.slice r l f] 37)=w3:=⟨_,rfl⟩
  have hb3:Below w2.heap.size w2 w3:=by rw[<-hw3];exact((Bb _ _).alloc (As _) _).alloc (by simp) _
  have hbq:Af w3 w2.heap.size (.slice q m d):=by
   rw[<-hw3];exact(Af.made w2 _).below ((Bb _ _).alloc (As _) _) (by simp)
  have hbr:Af w3 (w2.heap.size+1) (.slice r l f):=by
   rw[<-hw3];have:=Af.made (w2.alloc (.cells #[.slice q m d] 37)) (.slice r l f);simpa using this
  have HST3:=Ab (HST2.out.later hb3);have HQ3:=Ab (HQ1.out.below hb3);have HR3:=Ab (HR1.out.below hb3);have HBQ:=Ab hbq;have HLT:Aa (w1.heap.size<w2.heap.size):=⟨HST2.out.box5.lt⟩
  have c3:=hbr.cell;clear hb3 hbq hbr
  by_cases h0:gk%P=0
  .have hz:Aa (decide (gk%P=0)=true):=⟨decide_eq_true h0⟩
   have HQP:Aa (Q*P*pw P (gk/P) (gk/P)=W):=⟨by
    have:=HQ.out
    rwa [Sa hP HST.out.pos,if_pos h0,<-Nat.mul_assoc]at this⟩
   have hk':Aa (0<gk/P/\gk/P<gk):=⟨Nat.div_pos (Nat.le_of_dvd HST.out.pos (Nat.dvd_of_mod_eq_zero h0)) (by omega),Nat.div_lt_self HST.out.pos (by omega)⟩
   have hWA:Aa (W<=A):=⟨by rw[<-HW.out];exact qN hA A⟩
   have hQW:Aa (Q*P<=W):=⟨by
    rw[<-HQP.out];exact Nat.le_mul_of_pos_right _ (pV hk'.out.1 _)⟩
   clear h0
   go_wp2_with fail
   refine(Dw HR3.out hz.out).mono ?_;rintro en w4 ⟨_,rfl,rfl,hb4⟩;have HST4:=Ab (HST3.out.later hb4);have HQ4:=Ab (HQ3.out.below hb4);have HB4:=Ab (HBQ.out.below hb4 HBQ.out.lt);clear c3 hb4;go_wp2;obtain⟨Q',hQ'⟩:∃Q',Q*P=Q':=⟨_,rfl⟩
   have HQ':=Ab hQ';rw[hQ']at HQP hQW
   clear hQ';refine Ah (by kernel_rfl) (by kernel_rfl)
    [some (.agg #[.slice q m d]),some (.agg #[.slice pq nq cq]),some (.agg #[.slice pp np cp]),none,none,none]
    [false,false,false,true,true,true] rfl
    (fun w1 w2=>Ap w.heap.size w1 w2)
    (fun D w'=>nK w w' e P w1.heap.size w2.heap.size gk Q (gk/P) Q' pp np cp pa na ca pq nq cq q m d (D 4) (D 5))
    (fun i v w'=>match i with
     | 3=>Dr Q' v w'
     | _=>True)
    ?_ ⟨HST4.out.box0,HST4.out.box1,HST4.out.box2,fun _=>HST4.out.box5,(fun a=>by cases a),HB4.out,HQ4.out.below (Bb _ _).drew,HST4.out.p.below (Bb _ _).drew,HST4.out.q.below (Bb _ _).drew,HST4.out.ne,HLT.out,HST4.out.bel.trans (Bb _ _).drew⟩ ?_ ?_
   .intro i v w1 w2 hf hb;split at hf
    .exact Dr.keep hf hb
    .trivial
   .simp only[Ba,Nat.reduceAdd];refine⟨?_,?_,?_,?_,?_,?_,trivial⟩
    all_goals intro D sp w' hD hW hdp hg
    case refine_1=>
     have c3:=hg.boxq.cell;simp[asked,Region.wanted,Oper.gives,execOp,Act.eval,go_sem,c3]
    case refine_2=>
     have h5:D 5=false:=hW 5 (mq (by kernel_rfl));have c3:=(hg.box5 h5).cell;simp[asked,Region.wanted,Oper.gives,execOp,Act.eval,Act.put,go_sem,c3]
    case refine_3=>
     have c3:=hg.box1.cell;simp[asked,Region.wanted,Oper.gives,execOp,Act.eval,Act.put,go_sem,c3]
    case refine_4=>
     (with_reducible refine Ac (w1:=w') (f := 95) (args:=#[.agg #[.slice pq nq cq],.agg #[.slice pp np cp]]) ?_ ?_ ?_)
     .simp only[Region.wanted]
     .simp[Act.eval,Act.put,go_sem]
     .refine(Ni (Fit.of hg.q HST.out.limq) (Fit.of hg.p HST.out.limp) (by omega) (by omega)).mono ?_;rintro en w5 ⟨u,rfl,hu,hb⟩;rw[HQ'.out]at hu
      obtain⟨p',n',c',e',u1,_⟩:=hu;exact⟨u,rfl,Ap.of hb hg.bel.size,⟨p',n',c',e',u1⟩,by simpa using hg.later hb⟩
    case refine_5=>
     rw[hD]at hg
     have hbx0:Af w' w.heap.size (.slice pa na ca):=hg.box0;have g2:=hbx0.cell;have g3:=hbx0.free
     (with_reducible refine Aq (w1:=w'.setCell ⟨w.heap.size,0,none⟩ (.slice q m d)) ?_ ?_ ?_)
     .simp only[Region.wanted]
     .simp[execOp,Act.eval,Act.put,go_sem,g2,g3]
     .exact⟨Ap.store hbx0 (As _) _,trivial,by simpa using hg.store4⟩
    case refine_6=>
     have hx:∃p n c,sp 3=.agg #[.slice p n c]/\Aj w' p n c Q':=(hdp 3 (mq (by kernel_rfl))).2;rw[hD]at hg
     (with_reducible refine Ay hx fun p hx1=>Ay hx1 fun n hx2=>Ay hx2 fun c hx3=>?_)
     have g1:=hx3.1;have hbx0:=hg.box5 rfl;have g2:=hbx0.cell;have g3:=hbx0.free;have hne:=hg.ne
     (with_reducible refine Aq (w1:=w'.setCell ⟨w1.heap.size,0,none⟩ (.slice p n c)) ?_ ?_ ?_)
     .simp only[Region.wanted]
     .simp[execOp,Act.eval,Act.put,go_sem,g1,g2,g3]
     .exact⟨Ap.store hbx0 (by omega) _,trivial,by simpa using hg.store5 hx3.2⟩
   .intro sp w7 hsp hg;obtain⟨p',n',c',x1,x2⟩:=hg.val5 rfl;have J:Aa (mR w w7 e P w1.heap.size (gk/P) Q' pp np cp q m d p' n' c'):=⟨hg.box0,hg.box1,hg.box2,x1,hg.k',hg.p,x2,Nat.lt_of_le_of_lt (Nat.div_le_self _ _) HST.out.limk,HST.out.limp,by have:=hQW.out;have:=hWA.out;have:=HA2.out;omega,hk'.out.1,hg.ne,hg.bel⟩
    clear hsp hg x1 x2;simp only[An,Nat.reduceAdd];generalize sp 3=u3,sp 4=u4,sp 5=u5 at *
    go_simp
    go_wp2
    go_roundg (gk/P)
    case measure=>exact hk'.out.2
    case rel=>exact⟨Q',q,m,d,p',n',c',J,HQP⟩
  .have HW1:Aa (Q=W):=⟨by
    have:=HQ.out
    rwa [Sa hP HST.out.pos,if_neg h0,Nat.mul_one]at this⟩
   have hz:Aa (decide (gk%P=0)=false):=⟨decide_eq_false h0⟩
   clear h0
   go_wp2_with fail
   refine(Dw HR3.out hz.out).mono ?_;rintro en w4 ⟨_,rfl,rfl,hb4⟩;have HST4:=Ab (HST3.out.later hb4);have d5:=HST4.out.box5.cell;have d2:=HST4.out.box2.cell;have f2:=HST4.out.box2.free;have hne:=HST4.out.ne;clear c3 hb4;go_wp2;refine bodyPost_ret (v:=.agg #[.slice pq nq cq]) (by simp[results,Tryz.results250,go_sem,d2]) rfl ⟨_,rfl,?_,?_⟩
   .rw[<-HW1.out];exact Fit.of (HST4.out.q.store HST4.out.box2 _) HST4.out.limq
   .exact HST4.out.bel.setCell (by simp;omega) _
theorem oN {w:World}{v u:Value}{e f N M:Nat}(h:Fit e N v w)(k:Fit f M u w)(he:e<=300000)(hf:f<=300000)(hM:0<M) :
  Calls Tryz.prog 251 #[v,u] w fun en w'=>∃x,en=.returned x/\Fit f (Nat.gcd N M) x w'/\Below w.heap.size w w':=by
 obtain⟨pa,na,ca,rfl,h1,h2⟩:=Aw h;obtain⟨pb,nb,cb,rfl,k1,k2⟩:=Aw k;refine(gX w pa na ca N pb nb cb M (e+f) h1 k1 (Ej h2 (Dk (by omega))) (Ej k2 (Dk (by omega))) (by omega)).mono ?_;rintro en w' ⟨p,n,c,rfl,hn,hb,_⟩;exact⟨_,rfl,Fit.of hn (Nat.lt_of_le_of_lt (Nat.le_of_dvd hM (Nat.gcd_dvd_right N M)) k2),hb⟩
structure mS (w wr:World) (b9 r N Bs A e f:Nat) (pb:Option Addr) (nb cb:Nat) (pl:Option Addr) (nl cl:Nat) (po:Option Addr) (no co:Nat):Prop where
 box0:Af wr w.heap.size (.slice pb nb cb)
 box1:Af wr (w.heap.size+1) (.slice pl nl cl)
 box9:Af wr b9 (.slice po no co)
 base:Aj wr pb nb cb Bs
 less:Aj wr pl nl cl A
 one:Aj wr po no co 1
 limb:Bs<Ar e
 lim:A<Ar e
 ring:Ring wr r N f
 bel:Below w.heap.size w wr
theorem mS.later {w wr w1:World}{b9 r N Bs A e f:Nat}{pb:Option Addr}{nb cb:Nat}{pl:Option Addr}{nl cl:Nat}{po:Option Addr}{no co:Nat}(h:mS w wr b9 r N Bs A e f pb nb cb pl nl cl po no co)(hb:Below wr.heap.size wr w1):mS w w1 b9 r N Bs A e f pb nb cb pl nl cl po no co :=
 ⟨h.box0.below hb h.box0.lt,h.box1.below hb h.box1.lt,h.box9.below hb h.box9.lt,h.base.below hb,h.less.below hb,h.one.below hb,h.limb,h.lim,h.ring.below hb,Ae h.bel hb⟩
theorem jL {X N:Nat}(hN:2<=N):Ly (X%N) 1 N=(X%N+N-1)%N:=by
 rw[Wy hN,Nat.mod_mod,Nat.mod_eq_of_lt (show 1<N by omega)]
open Classical in
theorem Zj {w:World}{v u:Value}{r e f N Bs A:Nat}{pp:Option Addr}{np cp:Nat}{ps:List Nat}(hR:Ring w r N f)(h:Fit e Bs v w)(k:Fit e A u w)(hp:Cp w e pp np cp ps)(he:e<=100)(hps:∀p∈ps,2<=p) :
  Calls Tryz.prog 240 #[.slice pp np cp,v,u,.pointer (some ⟨r,0,none⟩)] w fun en w'=>en=.returned (.bool (decide (Bs^A%N=1/\∀p∈ps,Nat.gcd ((Bs^(A/p)%N+N-1)%N) N=1)))/\Below w.heap.size w w':=by
 obtain⟨pb,nb,cb,rfl,h1,h2⟩:=Aw h;obtain⟨pl,nl,cl,rfl,k1,k2⟩:=Aw k;have hN2:=hR.two;have hff:=hR.few;have hNmax:np<=9223372036854775807:=Dn hp.cap hp.max;have HP:=Ab hp;have HLP:=Ab hp.len;have HPS:=Ab hps;obtain⟨ANS,hANS⟩:∃X,decide (Bs^A%N=1/\∀p∈ps,Nat.gcd ((Bs^(A/p)%N+N-1)%N) N=1)=X:=⟨_,rfl⟩
 have HANS:=Ab hANS;rw[hANS];have hbx:=Ig.mk2 w (.slice pb nb cb) (.slice pl nl cl) 37 37;have HBX:=Ab hbx.bel;have HNB0:=Ab ((Af.made w (.slice pb nb cb)).below ((Bb _ _).alloc (As _) (.cells #[.slice pl nl cl] 37)) (by simp));have HNB1:=Ab (show Af _ (w.heap.size+1) _ by simpa using Af.made (w.alloc (.cells #[.slice pb nb cb] 37)) (.slice pl nl cl));have HR:=Ab hR;have HB1:=Ab h1;have HB2:=Ab h2;have HL1:=Ab k1;have HL2:=Ab k2;clear h k hp hps hANS hbx h1 h2 k1 k2 hR;go_enter Tryz.func240,Tryz.ntmps240
 go_wp2_with fail
 refine(Do 1 _ (by decide)).mono ?_;rintro en w1 ⟨po,no,co,rfl,hn1,hb1,_⟩;have hba:Below w1.heap.size w1 (w1.alloc (.cells #[.slice po no co] 37)):=Bx;have HB9:=Ab (Af.made w1 (.slice po no co));obtain⟨wa,hwa⟩:∃wa,w1.alloc (.cells #[.slice po no co] 37)=wa:=⟨_,rfl⟩
 rw[hwa]at hba HB9
 have hb1a:=Ae hb1 hba;have hbwa:=Ae HBX.out hb1a;have HST:Aa (mS w wa w1.heap.size r N Bs A e f pb nb cb pl nl cl po no co):=⟨⟨HNB0.out.below hb1a HNB0.out.lt,HNB1.out.below hb1a HNB1.out.lt,HB9.out,HB1.out.below hbwa,HL1.out.below hbwa,hn1.below hba,HB2.out,HL2.out,HR.out.below hbwa,hbwa⟩⟩
 clear hba hb1 hn1 hb1a hbwa;obtain⟨X,hX⟩:∃X,Bs^A%N=X:=⟨_,rfl⟩
 have HX:=Ab hX;clear hX;obtain⟨K,hK⟩:∃K,Bo X 1=K:=⟨_,rfl⟩
 obtain⟨DD,hDD⟩:∃DD,(K != 0)=DD:=⟨_,rfl⟩
 have HK:=Ab hK;have HDDh:=Ab hDD;clear hK hDD;go_wp2;have hDD:=HDDh.out;refine Ah (by kernel_rfl) (by kernel_rfl)
  [some (.pointer (some ⟨r,0,none⟩)),some (.agg #[.slice pb nb cb]),some (.agg #[.slice pl nl cl]),none,some (.agg #[.slice po no co]),none,some (.bool DD)]
  [false,false,false,true,false,true,false] rfl
  (fun w1 w2=>Below w1.heap.size w1 w2)
  (fun _ w'=>Below wa.heap.size wa w')
  (fun i v w'=>match i with
   | 3=>Fit f X v w'
   | 5=>v=.int .i64 K
   | _=>True)
  ?_ (Bb _ _).drew ?_ ?_
 .intro i v w1 w2 hf hb;split at hf
  .exact hf.below hb
  .exact hf
  .trivial
 .simp only[Ba,Nat.reduceAdd];refine⟨?_,?_,?_,?_,?_,?_,?_,trivial⟩
  all_goals intro D sp w' hD hW hdp hbx'
  case refine_2=>
   have c0:=(HST.out.later hbx').box0.cell
   with_reducible refine Ad ?_ ?_
   all_goals simp[Region.wanted,yielded,execOp,Act.eval,Act.put,go_sem,c0]
  case refine_3=>
   have c0:=(HST.out.later hbx').box1.cell
   with_reducible refine Ad ?_ ?_
   all_goals simp[Region.wanted,yielded,execOp,Act.eval,Act.put,go_sem,c0]
  case refine_4=>
   (with_reducible refine Ac (w1:=w') (f := 82) (args:=#[.pointer (some ⟨r,0,none⟩),.agg #[.slice pb nb cb],.agg #[.slice pl nl cl]]) ?_ ?_ ?_)
   .simp only[Region.wanted]
   .simp[Act.eval,Act.put,go_sem]
   .refine(Ki (HST.out.later hbx').ring (Fit.of (HST.out.later hbx').base HST.out.limb) (Fit.of (HST.out.later hbx').less HST.out.lim) (by omega) (by omega)).mono ?_;rintro en w5 ⟨u,rfl,hu,hb⟩;rw[HX.out]at hu
    exact⟨u,rfl,hb,hu,Ae hbx' hb⟩
  case refine_5=>
   have c0:=(HST.out.later hbx').box9.cell
   with_reducible refine Ad ?_ ?_
   all_goals simp[Region.wanted,yielded,execOp,Act.eval,Act.put,go_sem,c0]
  case refine_6=>
   have k3:Fit f X (sp 3) w':=(hdp 3 (mq (by kernel_rfl))).2
   (with_reducible refine Ac (w1:=w') (f := 24) (args:=#[sp 3,.agg #[.slice po no co]]) ?_ ?_ ?_)
   .simp only[Region.wanted]
   .simp[Act.eval,Act.put,go_sem]
   .refine(Bu k3 (Fit.of (HST.out.later hbx').one (by decide:(1:Nat)<Ar 1)) (by omega) (by omega) HK.out).mono ?_;rintro en w5 ⟨u,rfl,hu,hb⟩;exact⟨u,rfl,hb,hu,Ae hbx' hb⟩
  case refine_7=>
   have k5:(sp 5)=.int .i64 K:=(hdp 5 (mq (by kernel_rfl))).2
   with_reducible refine Ad ?_ ?_
   all_goals simp[Region.wanted,yielded,execOp,Act.eval,Act.put,go_sem,k5,hDD]
  all_goals ((with_reducible refine Ad ?_ ?_);all_goals first|(simp only[Region.wanted];done)|simp[Region.wanted,yielded,execOp,Act.eval,Act.put,go_sem])
 .intro sp w2 hsp hbx';have HST2:=Ab (HST.out.later hbx');clear hsp hbx' hDD;simp only[An,Nat.reduceAdd];generalize sp 3=y3,sp 5=y5 at *
  go_simp
  cases DD with
  | true=>
   have HF:Aa (ANS=false):=⟨by
    rw[<-HANS.out];refine decide_eq_false fun hh=>?_
    have h1:=HDDh.out;rw[<-HK.out,<-HX.out,hh.1]at h1
    exact absurd h1 (by decide)⟩
   go_wp2;go_ret;exact⟨by rw[HF.out];rfl,HST2.out.bel⟩
  | false=>
   have hX1:Aa (Bs^A%N=1):=⟨by
    rw[HX.out];have h1:=HDDh.out;rw[<-HK.out]at h1
    exact Ce.1 (by simpa using h1)⟩
   go_wp2
   go_loopw [11,12,13,14,15,26] (fun _ _ _ _ _ iv wr=>∃(k:Nat),k<=np/\iv=.int .i64 k/\Aa (mS w wr w1.heap.size r N Bs A e f pb nb cb pl nl cl po no co)/\Aa (∀p∈ps.take k,Nat.gcd ((Bs^(A/p)%N+N-1)%N) N=1)) (fun _ _ _ _ _ iv _=>np-(intOf iv).toNat)
   case atStart=>exact⟨0,by omega,rfl,HST2,⟨fun p hp=>by simp at hp⟩⟩
   case round=>
    obtain⟨k,hk,rfl,HS,HD⟩:=hrel
    by_cases hkn:k<np
    .obtain⟨P,hPk⟩:∃P,ps[k]? = some P:=⟨ps[k]'(by rw[<-HLP.out];exact hkn),List.getElem?_eq_getElem _⟩
     obtain⟨b,off,rfl,hb,hc⟩:=(HP.out.below HS.out.bel).at_ (by omega)
     obtain⟨q,m,d,hx,hnx,hlim⟩:=hc k P hPk;have hkn':(k:Int)<np:=by omega
     have HPk:=Ab hPk;have HP2:Aa (2<=P):=⟨HPS.out P (List.mem_of_getElem? hPk)⟩
     have hba:Below wr.heap.size wr (wr.alloc (.cells #[.slice q m d] 37)):=Bx;have HBP:=Ab (Af.made wr (.slice q m d));obtain⟨wb,hwb⟩:∃wb,wr.alloc (.cells #[.slice q m d] 37)=wb:=⟨_,rfl⟩
     rw[hwb]at hba HBP
     have HSb:=Ab (HS.out.later hba);have HF:=Ab ((Fit.of hnx hlim).below hba);have c0:=HSb.out.box1.cell;have c8:=HBP.out.cell;clear hc hnx hlim hPk hba
     go_wp2_with fail
     refine(Xx (Fit.of HSb.out.less HSb.out.lim) HF.out (by omega) (by omega)).mono ?_;rintro en w3 ⟨_,rfl,⟨qv,rv,rfl,hq,hr⟩,hb3⟩;rw[if_neg (by have:=HP2.out;omega)];obtain⟨q3,m3,d3,rfl,q3a,q3b⟩:=hq;obtain⟨r3,l3,f3,rfl,r3a,r3b⟩:=hr;have HS3:=Ab (HSb.out.later hb3);have hbd:Below w3.heap.size w3 ((w3.alloc (.cells #[.slice q3 m3 d3] 37)).alloc (.cells #[.slice r3 l3 f3] 37)):=((Bb _ _).alloc (As _) _).alloc (by simp) _;have HBQ:=Ab ((Af.made w3 (.slice q3 m3 d3)).below ((Bb _ _).alloc (As _) (.cells #[.slice r3 l3 f3] 37)) (by simp));obtain⟨wd,hwd⟩:∃wd,(w3.alloc (.cells #[.slice q3 m3 d3] 37)).alloc (.cells #[.slice r3 l3 f3] 37)=wd:=⟨_,rfl⟩
     rw[hwd]at hbd HBQ
     have HS4:=Ab (HS3.out.later hbd);have HQ4:=Ab (q3a.below hbd);have HQl:=Ab q3b;clear hb3 q3a q3b r3a r3b hbd c0 c8;obtain⟨X2,hX2⟩:∃X2,Bs^(A/P)%N=X2:=⟨_,rfl⟩
     obtain⟨Y,hY⟩:∃Y,Ly X2 1 N=Y:=⟨_,rfl⟩
     have HX2:=Ab hX2;have HY:=Ab hY;clear hX2 hY;go_wp2;refine Am (by kernel_rfl) (by kernel_rfl)
      [some (.pointer (some ⟨r,0,none⟩)),some (.pointer (some ⟨r,0,none⟩)),some (.agg #[.slice pb nb cb]),some (.agg #[.slice q3 m3 d3]),none,some (.agg #[.slice po no co]),none,none,none]
      [false,false,false,false,true,false,true,true,true] rfl
      (fun w1 w2=>Ap wd.heap.size w1 w2)
      (fun D sp w'=>Below wd.heap.size wd w'/\(D 7=true->Lt (sp 7) wd.heap.size Y (D 8) w'))
      (fun i v w'=>match i with
       | 4=>Fit f X2 v w'
       | 6=>Fit f Y v w'
       | _=>True)
      ?_ ⟨(Bb _ _).drew,(fun a=>by cases a)⟩ ?_ ?_
     .intro i v w1 w2 hf hb;split at hf
      .exact Fit.keep hf hb
      .exact Fit.keep hf hb
      .trivial
     .simp only[Bf,Nat.reduceAdd];refine⟨?_,?_,?_,?_,?_,?_,?_,?_,?_,trivial⟩
      case refine_5=>
       intro D sp w' hD hW hdp hg
       (with_reducible refine Ac (w1:=w') (f := 82) (args:=#[.pointer (some ⟨r,0,none⟩),.agg #[.slice pb nb cb],.agg #[.slice q3 m3 d3]]) ?_ ?_ ?_)
       .simp only[Region.wanted]
       .simp[Act.eval,Act.put,go_sem]
       .refine(Ki (HS4.out.later hg.1).ring (Fit.of (HS4.out.later hg.1).base HS4.out.limb) (Fit.of (HQ4.out.below hg.1) HQl.out) (by omega) (by omega)).mono ?_;rintro en w5 ⟨u,rfl,hu,hb⟩;rw[HX2.out]at hu
        exact⟨u,rfl,Ap.of hb hg.1.size,hu,Ae hg.1 hb,by simpa [upd]using fun a=>(hg.2 a).later hb⟩
      case refine_7=>
       intro D sp w' hD hW hdp hg;have k4:Fit f X2 (sp 4) w':=(hdp 4 (mq (by kernel_rfl))).2
       (with_reducible refine Ac (w1:=w') (f := 55) (args:=#[.pointer (some ⟨r,0,none⟩),sp 4,.agg #[.slice po no co]]) ?_ ?_ ?_)
       .simp only[Region.wanted]
       .simp[Act.eval,Act.put,go_sem]
       .refine(cB (HS4.out.later hg.1).ring k4 (Fit.of (HS4.out.later hg.1).one (by decide:(1:Nat)<Ar 1)) (by omega) (by omega)).mono ?_;rintro en w5 ⟨u,rfl,hu,hb⟩;rw[HY.out]at hu
        exact⟨u,rfl,Ap.of hb hg.1.size,hu,Ae hg.1 hb,by simpa [upd]using fun a=>(hg.2 a).later hb⟩
      case refine_8=>
       intro D sp w' hD hW hdp hg;have h8:D 8=false:=hW 8 (mq (by kernel_rfl))
       (with_reducible refine Ai (w1:=w'.alloc (.cells #[.slice none 0 0] 37)) (v:=.pointer (some ⟨w'.heap.size,0,none⟩)) ?_ ?_ ?_)
       .simp only[Region.wanted]
       .simp[execOp,go_sem]
       .have hb:Below w'.heap.size w' (w'.alloc (.cells #[.slice none 0 0] 37)):=Bx;refine⟨Ap.of hb hg.1.size,trivial,Ae hg.1 hb,fun _=>?_⟩;have:=Lt.made w' hg.1.size Y;simpa [upd,h8]using this
      case refine_9=>
       intro D sp w' hD hW hdp hg;have hx:∃p n c,sp 6=.agg #[.slice p n c]/\Aj w' p n c Y/\Y<Ar f:=(hdp 6 (mq (by kernel_rfl))).2;have hy:∃b,sp 7=.pointer (some ⟨b,0,none⟩)/\wd.heap.size<=b/\∃p n c,Af w' b (.slice p n c)/\(D 8=true->Aj w' p n c Y):=hg.2 (hdp 7 (mq (by kernel_rfl))).1
       (with_reducible refine Ay hx fun p hx1=>Ay hx1 fun n hx2=>Ay hx2 fun c hx3=>Ay hy fun bb hy1=>?_)
       have hlo:=hy1.2.1
       (with_reducible refine Ay hy1.2.2 fun p2 hy2=>Ay hy2 fun n2 hy3=>Ay hy3 fun c2 hy4=>?_)
       have g1:=hx3.1;have g2:=hy1.1;have hbx0:=hy4.1;have g3:=hbx0.cell;have g4:=hbx0.free
       (with_reducible refine Aq (w1:=w'.setCell ⟨bb,0,none⟩ (.slice p n c)) ?_ ?_ ?_)
       .simp only[Region.wanted]
       .simp[execOp,Act.eval,Act.put,go_sem,g1,g2,g3,g4]
       .exact⟨Ap.store hbx0 hlo _,trivial,hg.1.setCell hlo _,fun _=>⟨bb,by simpa [upd]using g2,hlo,p,n,c,hbx0.set _,fun _=>hx3.2.1.store hbx0 _⟩⟩
      all_goals
       intro D sp w' hD hW hdp hg;have c0:=(HS4.out.later hg.1).box0.cell;have c1:=(HS4.out.later hg.1).box9.cell;have c2:=(HBQ.out.below hg.1 HBQ.out.lt).cell;simp[asked,Region.wanted,Oper.gives,execOp,Act.eval,Act.put,go_sem,c0,c1,c2]
     .intro sp w5 hsp hg;obtain⟨b5,e7,lo5,p5,n5,c5,x5,v5⟩:=hg.2 rfl;replace v5:=v5 rfl;have HS5:=Ab (HS4.out.later hg.1);have HX5:=Ab x5;have HYl:Aa (Y<Ar f):=⟨by rw[<-HY.out];exact Nat.lt_trans (Wx hN2) HS5.out.ring.lim⟩
      have HV5:=Ab (Fit.of v5 HYl.out);clear hsp hg x5 v5;simp only[An,Nat.reduceAdd];rw[e7];clear e7;generalize sp 4=y4,sp 6=y6,sp 8=y8 at *
      go_simp
      obtain⟨G,hG⟩:∃G,Nat.gcd Y N=G:=⟨_,rfl⟩
      have HG:=Ab hG;obtain⟨K2,hK2⟩:∃K2,Bo G 1=K2:=⟨_,rfl⟩
      obtain⟨D2,hD2⟩:∃D2,(K2 != 0)=D2:=⟨_,rfl⟩
      have HK2:=Ab hK2;have HD2:=Ab hD2;clear hG hK2 hD2;go_wp2;have hD2:=HD2.out;refine Ah (by kernel_rfl) (by kernel_rfl)
       [some (.agg #[.slice p5 n5 c5]),some (.pointer (some ⟨r,0,none⟩)),none,none,some (.agg #[.slice po no co]),none,some (.bool D2)]
       [false,false,true,true,false,true,false] rfl
       (fun w1 w2=>Below w1.heap.size w1 w2)
       (fun _ w'=>Below w5.heap.size w5 w')
       (fun i v w'=>match i with
        | 2=>Fit f N v w'
        | 3=>Fit f G v w'
        | 5=>v=.int .i64 K2
        | _=>True)
       ?_ (Bb _ _).drew ?_ ?_
      .intro i v w1 w2 hf hb;split at hf
       .exact hf.below hb
       .exact hf.below hb
       .exact hf
       .trivial
      .simp only[Ba,Nat.reduceAdd];refine⟨?_,?_,?_,?_,?_,?_,?_,trivial⟩
       all_goals intro D sp w' hD hW hdp hbx'
       case refine_1=>
        have c0:=(HX5.out.below hbx' HX5.out.lt).cell
        with_reducible refine Ad ?_ ?_
        all_goals simp[Region.wanted,yielded,execOp,Act.eval,Act.put,go_sem,c0]
       case refine_3=>
        (with_reducible refine Ac (w1:=w') (f := 57) (args:=#[.pointer (some ⟨r,0,none⟩)]) ?_ ?_ ?_)
        .simp only[Region.wanted]
        .simp[Act.eval,Act.put,go_sem]
        .refine(Fd (HS5.out.later hbx').ring).mono ?_;rintro en w6 ⟨u,rfl,hu,hb⟩;exact⟨u,rfl,hb,hu,Ae hbx' hb⟩
       case refine_4=>
        have k2:Fit f N (sp 2) w':=(hdp 2 (mq (by kernel_rfl))).2
        (with_reducible refine Ac (w1:=w') (f := 251) (args:=#[.agg #[.slice p5 n5 c5],sp 2]) ?_ ?_ ?_)
        .simp only[Region.wanted]
        .simp[Act.eval,Act.put,go_sem]
        .refine(oN (HV5.out.below hbx') k2 (by omega) (by omega) (by omega)).mono ?_;rintro en w6 ⟨u,rfl,hu,hb⟩;rw[HG.out]at hu
         exact⟨u,rfl,hb,hu,Ae hbx' hb⟩
       case refine_5=>
        have c0:=(HS5.out.later hbx').box9.cell
        with_reducible refine Ad ?_ ?_
        all_goals simp[Region.wanted,yielded,execOp,Act.eval,Act.put,go_sem,c0]
       case refine_6=>
        have k3:Fit f G (sp 3) w':=(hdp 3 (mq (by kernel_rfl))).2
        (with_reducible refine Ac (w1:=w') (f := 24) (args:=#[sp 3,.agg #[.slice po no co]]) ?_ ?_ ?_)
        .simp only[Region.wanted]
        .simp[Act.eval,Act.put,go_sem]
        .refine(Bu k3 (Fit.of (HS5.out.later hbx').one (by decide:(1:Nat)<Ar 1)) (by omega) (by omega) HK2.out).mono ?_;rintro en w6 ⟨u,rfl,hu,hb⟩;exact⟨u,rfl,hb,hu,Ae hbx' hb⟩
       case refine_7=>
        have k5:(sp 5)=.int .i64 K2:=(hdp 5 (mq (by kernel_rfl))).2
        with_reducible refine Ad ?_ ?_
        all_goals simp[Region.wanted,yielded,execOp,Act.eval,Act.put,go_sem,k5,hD2]
       all_goals ((with_reducible refine Ad ?_ ?_);all_goals first|(simp only[Region.wanted];done)|simp[Region.wanted,yielded,execOp,Act.eval,Act.put,go_sem])
      .intro sp w6 hsp hbx';have HS6:=Ab (HS5.out.later hbx');clear hsp hbx' hD2;simp only[An,Nat.reduceAdd];generalize sp 2=z2,sp 3=z3,sp 5=z5 at *
       go_simp
       have HGY:Aa (G=Nat.gcd ((Bs^(A/P)%N+N-1)%N) N):=⟨by
        rw[<-HG.out,<-HY.out,<-HX2.out,jL hN2]⟩
       cases D2 with
       | true=>
        have HF:Aa (ANS=false):=⟨by
         rw[<-HANS.out];refine decide_eq_false fun hh=>?_
         have h1:=HD2.out;rw[<-HK2.out,HGY.out,hh.2 P (List.mem_of_getElem? HPk.out)]at h1
         exact absurd h1 (by decide)⟩
        go_wp2;go_ret;exact⟨by rw[HF.out];rfl,HS6.out.bel⟩
       | false=>
        have HD':Aa (∀p∈ps.take (k+1),Nat.gcd ((Bs^(A/p)%N+N-1)%N) N=1):=⟨by
         have hi:k<ps.length:=(List.getElem?_eq_some_iff.1 HPk.out).1;have e:ps[k]=P:=by have:=HPk.out;rw[List.getElem?_eq_getElem hi]at this;exact Option.some.inj this
         rw[List.take_succ_eq_append_getElem hi,e];intro p hp;rcases List.mem_append.1 hp with hp|hp
         .exact HD.out p hp
         .simp at hp;rw[hp,<-HGY.out];have h1:=HD2.out;rw[<-HK2.out]at h1
          exact Ce.1 (by simpa using h1)⟩
        go_wp2;go_roundw
        case rel=>exact⟨k+1,by omega,by go_num,HS6,HD'⟩
        case measure=>simp[intOf];omega
    .obtain rfl:k=np:=by omega
     have hkn':¬(k:Int)<k:=by omega
     have hta:ps.take k=ps:=List.take_of_length_le (by rw[<-HLP.out];exact As _);rw[hta]at HD
     have HF:Aa (ANS=true):=⟨by rw[<-HANS.out];exact decide_eq_true ⟨hX1.out,HD.out⟩⟩
     clear hta;go_wp2;go_ret;exact⟨by rw[HF.out];rfl,HS.out.bel⟩
end Go.Proofs.YtokhckjemidbpaaGreatDoor
