/- The state's bytes; what comes behind the bytes. -/
import Derived.Laws.CopyOwn
import Derived.WalkSmall
import Derived.Test.YthgoeiegdhphjaaGreatDoorRing
import Derived.Laws.OwnMore
import Derived.Lib.AppendZeros
import Derived.ArgAppend
import Derived.Deep.Cut
import Derived.BigRegion
set_option maxRecDepth 1000000
set_option maxHeartbeats 16000000
set_option linter.unusedSimpArgs false
set_option linter.unusedVariables false
namespace Go.Proofs.YthgoeiegdhphjaaGreatDoor
open Go Go.RowKit
structure Aa (p:Prop):Prop where
 out:p
theorem Ac {p:Prop}(h:p):Aa p:=⟨h⟩
structure Ff (p:Prop):Prop where
 out:p
theorem eT {P:Program}{ops:Array Oper}{rest:List Oper}{a:Act}{Q:Exit->Act->World->Prop}{w w':World}(h:w=w')(k:wpList P ops Q rest a w'):wpList P ops Q rest a w:=h ▸ k
structure Cp (g:Nat) (w w':World):Prop where
 os:w'.os=w.os
 tape:w'.tape=w.tape
 output:w'.output=w.output
 size:w.heap.size<=w'.heap.size
 block:∀k,k<w.heap.size->k≠g->w'.heap[k]? = w.heap[k]?
theorem Cp.refl (g:Nat)(w:World):Cp g w w:=⟨rfl,rfl,rfl,Nat.le_refl _,fun _ _ _=>rfl⟩
theorem Cp.trans {g:Nat}{a b c:World}(h:Cp g a b)(k:Cp g b c):Cp g a c :=
 ⟨k.os.trans h.os,k.tape.trans h.tape,k.output.trans h.output,Nat.le_trans h.size k.size,fun i hi hn=>(k.block i (Nat.lt_of_lt_of_le hi h.size) hn).trans (h.block i hi hn)⟩
theorem Cp.of {g:Nat}{w w':World}(h:Below w.heap.size w w'):Cp g w w':=⟨h.os,h.tape,h.output,h.size,fun k hk _=>h.block k hk⟩
theorem Cp.below {g:Nat}{w w':World}(h:Cp g w w'){B:Nat}(hg:B<=g)(hB:B<=w.heap.size):Below B w w' :=
 ⟨h.os,h.tape,h.output,h.size,fun k hk=>h.block k (by omega) (by omega)⟩
theorem Cp.setRow {g:Nat}(w:World)(cs:Array Value):Cp g w (w.setRow g cs):=⟨rfl,rfl,rfl,by simp[World.setRow],fun k _ hn=>setRow_other w g k cs hn⟩
theorem Cp.setCell {g:Nat}(w:World)(o:Nat)(u:Value):Cp g w (w.setCell ⟨g,o,none⟩ u):=⟨rfl,rfl,rfl,by simp[World.setCell],fun k _ hn=>Below.heap_setCell _ _ _ _ hn⟩
theorem Cp.drew {g:Nat}{w w':World}(h:Cp g w w'):Cp g w w'.drew:=⟨h.os,h.tape,h.output,h.size,h.block⟩
theorem Cp.cell {g:Nat}{w w':World}(h:Cp g w w'){p:Addr}(hp:p.block<w.heap.size)(hn:p.block≠g):w'.cell? p=w.cell? p:=World.cell?_of_block (w:=w) (h.block p.block hp hn)
theorem Om {P:Program}{f:FuncId}{args:Array Value}{w w1:World}{Q:Ending->World->Prop}(h:w=w1)(k:Calls P f args w1 Q):Calls P f args w Q:=h ▸ k
theorem Dn {a b c:World}(h:Below a.heap.size a b)(k:Below b.heap.size b c):Below a.heap.size a c:=h.trans (k.mono h.size)
open Go Go.RowKit Go.Proofs.YthgoeiegdhphjaaGreatDoor.Flow
theorem iB (A E M i:Nat)(b:Bool)(hb:bit E i=b):A^(E/2^i)%M=if b then ((A^(E/2^(i+1))%M*(A^(E/2^(i+1))%M))%M*(A%M))%M else (A^(E/2^(i+1))%M*(A^(E/2^(i+1))%M))%M:=by
 rw[Gh E i,hb];generalize E/2^(i+1)=q;have e:A^(2*q)=A^q*A^q:=by rw[<- Nat.pow_add];congr 1;omega
 cases b with
 | false=>simp only[Bool.toNat_false,Nat.add_zero,Bool.false_eq_true,if_false,e,<- Nat.mul_mod]
 | true=>simp only[Bool.toNat_true,if_true,Nat.pow_succ,e,<- Nat.mul_mod]
theorem aH {w:World}{v u t:Value}{A E M:Nat}(h:Ak A v w)(k:Ak E u w)(l:Ak M t w)(hA:Al A<=100000)(hE:Al E<=100000)(hM:Al M<=100000)(hM0:0<M) :
  Calls Tryz.prog 136 #[v,u,t] w fun en w'=>∃x,en=.returned x/\Ak (A^E%M) x w'/\Below w.heap.size w w':=by
 obtain⟨p,n,c,rfl,h⟩:=h;obtain⟨q,m,d,rfl,k⟩:=k;obtain⟨r,s,e,rfl,l⟩:=l;have hm:=Cb k;have HM:Aa (m=Al E):=⟨hm⟩
 have HA:Aa _:=⟨h⟩
 have HE:Aa _:=⟨k⟩
 have HL:Aa _:=⟨l⟩
 have hmm:m<=100000:=by omega
 have hblm:Aa (∀x,Al (x%M)<=100000):=⟨fun x=>Nat.le_trans (Do (Nat.le_of_lt (Nat.mod_lt x hM0))) hM⟩
 clear h k l hm;go_enter Tryz.func136,Tryz.ntmps136
 go_wp2_with fail
 refine(Kp 1 w (by decide)).mono ?_;rintro en w1 ⟨p1,n1,c1,rfl,hn1,hb1,_⟩;have HL1:Aa _:=⟨HL.out.below hb1⟩
 go_wp2_with fail
 refine(Gg (Ak.of hn1) (Ak.of HL1.out) (by have:Al 1<=1:=(Bd 1 1).2 (by decide);omega) (by omega) hM0).mono ?_;rintro en w2 ⟨x2,rfl,hx2,hb2⟩;have HX2:Aa _:=⟨hx2⟩
 have HB2:Aa _:=⟨Ae hb1 hb2⟩
 clear hn1 hb1 hx2 hb2
 go_wp2_with fail
 refine(Gg (Ak.of (HA.out.below HB2.out)) (Ak.of (HL.out.below HB2.out)) (by omega) (by omega) hM0).mono ?_;rintro en w3 ⟨x3,rfl,hx3,hb3⟩;have HX3:Aa _:=⟨hx3⟩
 have HX2':Aa _:=⟨HX2.out.below hb3⟩
 have HB3:Aa _:=⟨Ae HB2.out hb3⟩
 clear hx3 hb3;go_wp2
 go_loopw [7,8] (fun rv iv wr=>∃j:Nat,j<=m/\iv=.int .i64 ((j:Int)-1)/\Aa (Ak (A^(E/2^j)%M) rv wr)/\Aa (Below w3.heap.size w3 wr)) (fun _ iv _=>(intOf iv+1).toNat)
 case atStart =>
  refine⟨m,Nat.le_refl _,rfl,⟨?_⟩,⟨Below.refl _ _⟩⟩;rw[HM.out,Nat.div_eq_of_lt (Dl E),Nat.pow_zero];exact HX2'.out
 case round =>
  obtain⟨j,hj,rfl,HR,HBr⟩:=hrel
  cases j with
  | zero =>
   have HR0:Aa (Ak (A^E%M) u7 wr):=⟨by have:=HR.out;rwa [Nat.pow_zero,Nat.div_one]at this⟩
   go_wp2;go_ret;exact⟨_,rfl,HR0.out,Ae HB3.out HBr.out⟩
  | succ j =>
   have e1:(((j+1:Nat):Int)-1)=(j:Int):=by omega
   simp only[e1];have HBr3:Aa _:=⟨Ae HB3.out HBr.out⟩
   have HEr:Aa _:=⟨HE.out.below HBr3.out⟩
   have HLr:Aa _:=⟨HL.out.below HBr3.out⟩
   have HS:Aa _:=⟨fun b hb=>iB A E M j b hb⟩
   clear e1
   go_wp2_with fail
   refine(Oj HR.out HR.out (Ak.of HLr.out) (hblm.out _) (hblm.out _) (by omega) hM0).mono ?_;rintro en w4 ⟨x4,rfl,hx4,hb4⟩;have HE4:Aa _:=⟨HEr.out.below hb4⟩
   obtain⟨b,off,rfl,hbs,hc⟩:=Eb.pos HE4.out (by omega);obtain⟨B,hB⟩:∃B,bit E j=B:=⟨_,rfl⟩
   have hcj:=hc j B (by rw[<- hB];exact Cz (by rw[<- HM.out];omega));have HX4:Aa _:=⟨hx4⟩
   have HB4:Aa _:=⟨HBr.out.trans (hb4.mono HBr.out.size)⟩
   have HPS:=HS.out B hB;have HX34:Aa _:=⟨(HX3.out.below HBr.out).below hb4⟩
   have HL4:Aa _:=⟨HLr.out.below hb4⟩
   have HP:Aa _:=⟨HPS⟩
   clear hx4 hb4 hc hB HPS
   cases B with
   | false =>
    go_wp2;go_roundw
    case rel=>exact⟨j,by omega,rfl,⟨by rw[HP.out,if_neg (by simp)];exact HX4.out⟩,HB4⟩
    case measure=>simp[intOf]
   | true =>
    go_wp2_with fail
    refine(Oj HX4.out HX34.out (Ak.of HL4.out) (hblm.out _) (hblm.out _) (by omega) hM0).mono ?_;rintro en w5 ⟨x5,rfl,hx5,hb5⟩;have HX5:Aa _:=⟨hx5⟩
    have HB5:Aa _:=⟨HB4.out.trans (hb5.mono HB4.out.size)⟩
    clear hx5 hb5;go_wp2;go_roundw
    case rel=>exact⟨j,by omega,rfl,⟨by rw[HP.out,if_pos trivial];exact HX5.out⟩,HB5⟩
    case measure=>simp[intOf]
def pm (a n:Nat):Nat->Nat->Nat
 | 0,_=>1%n
 | f+1,e=>if e=0 then 1%n else
  let h:=pm a n f (e/2)
  if e%2=1 then h*h%n*a%n else h*h%n
theorem Ki (a n:Nat):∀f e,e<2^f->pm a n f e=a^e%n
 | 0,e,h=>by
  have:e=0:=by simp at h;omega
  subst this;rw[pm,Nat.pow_zero]
 | f+1,e,h=>by
  unfold pm;split
  .rename_i h0;rw[h0,Nat.pow_zero]
  .have ih:=Ki a n f (e/2) (by rw[Nat.pow_succ]at h;omega);have e2:a^(2*(e/2))=a^(e/2)*a^(e/2):=by rw[<- Nat.pow_add];congr 1;omega
   simp only[ih];split
   .rename_i h1
    have:e=2*(e/2)+1:=by omega
    conv=>rhs;rw[this,Nat.pow_succ,e2]
    simp[Nat.mul_mod]
   .rename_i h1
    have:e=2*(e/2):=by omega
    conv=>rhs;rw[this,e2]
    rw[<- Nat.mul_mod]
theorem Fl {P:Program}{o:Oper}{ops:Array Oper}{a:Act}{w:World}{K:Value->World->Prop}(hw:Region.wanted o (yielded ops a.tmps)=false)(hk:K undef w):asked P o ops a w K:=by
 unfold asked;rw[if_neg (by rw[hw];exact Bool.false_ne_true)];exact hk
structure Bz (w:World) (e:Nat) (p:Option Addr) (n c:Nat) (Ns:List Nat):Prop where
 len:n=Ns.length
 cap:n<=c
 max:c<=9223372036854775807
 nil:p=none->c=0
 at_:0<n->∃b off,p=some ⟨b,off,none⟩/\b<w.heap.size/\∀i N,Ns[i]? = some N->∃q m d,w.cell? ⟨b,off+i,none⟩=some (.slice q m d)/\Ah w q m d N/\N<Aq e
theorem Bz.below {w w':World}{e:Nat}{p:Option Addr}{n c:Nat}{Ns:List Nat}(h:Bz w e p n c Ns)(hb:Below w.heap.size w w'):Bz w' e p n c Ns:=by
 refine⟨h.len,h.cap,h.max,h.nil,fun h0=>?_⟩;obtain⟨b,off,h1,h2,h3⟩:=h.at_ h0
 refine⟨b,off,h1,Nat.lt_of_lt_of_le h2 hb.size,fun i N hN=>?_⟩;obtain⟨q,m,d,h4,h5,h6⟩:=h3 i N hN;exact⟨q,m,d,by rw[hb.cell (p:=⟨b,off+i,none⟩) h2];exact h4,h5.below hb,h6⟩
structure Er (w:World) (e:Nat) (p:Option Addr) (n c:Nat) (l:List Bq):Prop where
 len:n=l.length
 cap:n<=c
 max:c<=9223372036854775807
 nil:p=none->c=0
 at_:0<n->∃b off,p=some ⟨b,off,none⟩/\b<w.heap.size/\∀i s,l[i]? = some s->∃q0 m0 d0 q1 m1 d1 q2 m2 d2,
  w.cell? ⟨b,off+i*3,none⟩=some (.slice q0 m0 d0)/\w.cell? ⟨b,off+i*3+1,none⟩=some (.slice q1 m1 d1)/\w.cell? ⟨b,off+i*3+2,none⟩=some (.slice q2 m2 d2) /\
  Ah w q0 m0 d0 s.n/\s.n<Aq e/\Ah w q1 m1 d1 s.base/\s.base<Aq e/\Bz w e q2 m2 d2 s.ps
theorem Er.below {w w':World}{e:Nat}{p:Option Addr}{n c:Nat}{l:List Bq}(h:Er w e p n c l)(hb:Below w.heap.size w w'):Er w' e p n c l:=by
 refine⟨h.len,h.cap,h.max,h.nil,fun h0=>?_⟩;obtain⟨b,off,h1,h2,h3⟩:=h.at_ h0
 refine⟨b,off,h1,Nat.lt_of_lt_of_le h2 hb.size,fun i s hs=>?_⟩;obtain⟨q0,m0,d0,q1,m1,d1,q2,m2,d2,k0,k1,k2,k3,k4,k5,k6,k7⟩:=h3 i s hs;have hc:∀o,w'.cell? ⟨b,o,none⟩=w.cell? ⟨b,o,none⟩:=fun o=>hb.cell (p:=⟨b,o,none⟩) h2
 exact⟨q0,m0,d0,q1,m1,d1,q2,m2,d2,by rw[hc];exact k0,by rw[hc];exact k1,by rw[hc];exact k2,k3.below hb,k4,k5.below hb,k6,k7.below hb⟩
def En (s:Bq):Prop:=1024<Al s.n ∨ 1024<Al s.base ∨ ∃p∈s.ps,1024<Al p
open Classical in
def iW:Prop:=∀(w:World) (N e:Nat) (v:Value),Fit e N v w->e<=200 ->
 Calls Tryz.prog 168 #[v] w fun en w'=>en=.returned (.bool (decide (Cn N)))/\Below w.heap.size w w'
open Classical in
theorem Jo:iW:=by
 intro w N e v hv he;obtain⟨p,n,c,rfl,h1,h2⟩:=hv;have hn:n<1000000:=by have:=h1.len_le h2;omega
 have hbx:=Dh.mk1 w (.slice p n c) 36;have H1:Aa _:=⟨h1.below hbx.bel⟩
 have HBX:Aa _:=⟨hbx.bel⟩
 clear h1 h2 hbx
 by_cases hb:Al N<=64
 .by_cases hlow:N<2
  .have hno:Aa (decide (Cn N)=false):=⟨decide_eq_false fun hs=>by have:=hs.1;omega⟩
   have hlow':(N:Int)<2:=by omega
   have HB:Aa _:=⟨hb⟩
   clear hb hlow;go_enter Tryz.func168,Tryz.ntmps168
   go_wp2_with fail
   refine(Jn _ p n c N H1.out hn).mono ?_;rintro en w1 ⟨rfl,hb1⟩;rw[if_pos HB.out,decide_eq_true HB.out];have HB1:Aa _:=⟨Ae HBX.out hb1⟩
   clear hb1;go_wp2;go_ret;exact⟨by rw[hno.out];rfl,HB1.out⟩
  .by_cases hhigh:65536<=N
   .have hno:Aa (decide (Cn N)=false):=⟨decide_eq_false fun hs=>by have:=hs.2.1;omega⟩
    have hlow':¬(N:Int)<2:=by omega
    have hhigh':(65536:Int)<=N:=by omega
    obtain⟨K,hgK⟩:∃K:Int,(65536:Int)=K:=⟨_,rfl⟩
    rw[hgK]at hhigh'
    have HB:Aa _:=⟨hb⟩
    clear hb hlow hhigh;go_enter Tryz.func168,Tryz.ntmps168
    go_wp2_with fail
    refine(Jn _ p n c N H1.out hn).mono ?_;rintro en w1 ⟨rfl,hb1⟩;rw[if_pos HB.out,decide_eq_true HB.out];have HB1:Aa _:=⟨Ae HBX.out hb1⟩
    clear hb1
    go_upto_region 2 with fail
    rw[hgK];clear hgK;go_wp2;go_ret;exact⟨by rw[hno.out];rfl,HB1.out⟩
   .have hlow':¬(N:Int)<2:=by omega
    have hhigh':¬(65536:Int)<=N:=by omega
    have HLT:Aa (N<65536):=⟨by omega⟩
    have H2:Aa (2<=N):=⟨by omega⟩
    obtain⟨K,hgK⟩:∃K:Int,(65536:Int)=K:=⟨_,rfl⟩
    rw[hgK]at hhigh'
    have HB:Aa _:=⟨hb⟩
    clear hb hlow hhigh;go_enter Tryz.func168,Tryz.ntmps168
    go_wp2_with fail
    refine(Jn _ p n c N H1.out hn).mono ?_;rintro en w1 ⟨rfl,hb1⟩;rw[if_pos HB.out,decide_eq_true HB.out];have HB1:Aa _:=⟨Ae HBX.out hb1⟩
    clear hb1
    go_upto_region 2 with fail
    rw[hgK];clear hgK;go_wp2
    go_loopw [5] (fun dv wr=>w1=wr/\∃d:Nat,2<=d/\d<=256/\dv=.int .u64 d/\Aa (∀e,2<=e->e<d->N%e≠0)) (fun dv _=>300-(intOf dv).toNat)
    case atStart=>exact⟨rfl,2,by omega,by omega,rfl,⟨fun e h1 h2=>by omega⟩⟩
    case round =>
     obtain⟨rfl,d,hd2,hd,rfl,HD⟩:=hrel;obtain⟨S,hS⟩:∃S,d*d=S:=⟨_,rfl⟩
     have hS':(d:Int)*d=(S:Nat):=by rw[<- hS];simp
     have hSl:S<=65536:=by rw[<- hS];exact Nat.mul_le_mul hd hd
     have HSl:Aa _:=⟨hSl⟩
     have hSw:IntKind.u64.wrap ((S:Nat):Int)=S:=IntWalk.u64_in _ ⟨by omega,by omega⟩;clear hSl
     by_cases hdd:S<=N
     .have hdlt:d<256:=Nat.lt_of_not_le fun hge=>by
       have:=Nat.mul_le_mul hge hge;have:=HLT.out;omega
      have hmod:(N:Int).tmod d=((N%d:Nat):Int):=by rw[Int.tmod_eq_emod_of_nonneg (by omega)];simp
      obtain⟨R,hR⟩:∃R,N%d=R:=⟨_,rfl⟩
      rw[hR]at hmod
      have hd0:¬(d:Int)=0:=by omega
      have hdd':(S:Int)<=N:=by omega
      rcases Nat.eq_zero_or_pos R with h0|h0
      .have hno:Aa (decide (Cn N)=false):=⟨decide_eq_false fun hs=>hs.2.2 d hd2 (by omega) (by omega)⟩
       subst h0;have hS2:=Lib.hid hS;have hR2:=Lib.hid hR;clear hS hR;go_wp2;go_ret;exact⟨by rw[hno.out];rfl,HB1.out⟩
      .have hR0:((R:Int)==0)=false:=by rw[beq_eq_false_iff_ne];omega
       have HD':Aa (∀e,2<=e->e<d+1->N%e≠0):=⟨fun e h1 h2=>by
        rcases(by omega:e<d ∨ e=d) with h3|rfl
        .exact HD.out e h1 h3
        .omega⟩
       have hS2:=Lib.hid hS;have hR2:=Lib.hid hR;clear hS hR;go_wp2;go_roundw
       case rel=>exact⟨trivial,d+1,by omega,by omega,by go_num,HD'⟩
       case measure=>simp[intOf];omega
     .have hdd':¬(S:Int)<=N:=by omega
      have hyes:Aa (decide (Cn N)=true):=⟨decide_eq_true ⟨H2.out,HLT.out,fun e h1 h2=>HD.out e h1 (Nat.lt_of_not_le fun hge=>by
       have:=Nat.mul_le_mul hge hge;omega)⟩⟩
      have hS2:=Lib.hid hS;clear hS;go_wp2;go_ret;exact⟨by rw[hyes.out];rfl,HB1.out⟩
 .have hno:Aa (decide (Cn N)=false):=⟨decide_eq_false fun hs=>hb ((Bd N 64).2 (Nat.lt_trans hs.2.1 (by decide)))⟩
  have HB:Aa _:=⟨hb⟩
  clear hb;go_enter Tryz.func168,Tryz.ntmps168
  go_wp2_with fail
  refine(Jn _ p n c N H1.out hn).mono ?_;rintro en w1 ⟨rfl,hb1⟩;rw[if_neg HB.out,decide_eq_false HB.out];have HB1:Aa _:=⟨Ae HBX.out hb1⟩
  clear hb1;go_wp2;go_ret;exact⟨by rw[hno.out];rfl,HB1.out⟩
open Go
def rr (x n:Nat):Nat:=x*2^(32-n)%4294967296 ||| x/2^n
def Bk (x y:Nat):Nat:=(x+y)%4294967296
def pS (x:Nat):Nat:=rr x 7 ^^^ rr x 18 ^^^ x/8
def pR (x:Nat):Nat:=rr x 17 ^^^ rr x 19 ^^^ x/1024
def sE (x:Nat):Nat:=rr x 2 ^^^ rr x 13 ^^^ rr x 22
def sD (x:Nat):Nat:=rr x 6 ^^^ rr x 11 ^^^ rr x 25
def ch (e f g:Nat):Nat:=e &&& f ^^^ (4294967295-e) &&& g
def rX (a b c:Nat):Nat:=a &&& b ^^^ a &&& c ^^^ b &&& c
theorem Di {x n:Nat}(hx:x<4294967296):rr x n<4294967296:=by
 unfold rr;exact Nat.or_lt_two_pow (n:=32) (Nat.mod_lt _ (by omega)) (Nat.lt_of_le_of_lt (Nat.div_le_self _ _) hx)
theorem Ev (x y:Nat):Bk x y<4294967296:=Nat.mod_lt _ (by omega)
theorem Bv {x y:Nat}(hx:x<4294967296)(hy:y<4294967296):x ^^^ y<4294967296:=Nat.xor_lt_two_pow (n:=32) hx hy
theorem Eu {x y:Nat}(hy:y<4294967296):x &&& y<4294967296:=Nat.and_lt_two_pow (n:=32) _ hy
theorem Ez {x y:Nat}(hx:x<4294967296)(hy:y<4294967296):x ||| y<4294967296:=Nat.or_lt_two_pow (n:=32) hx hy
def Nq (ws:List Nat)(t:Nat):Nat:=Bk (Bk (Bk (pR (ws.getD (t-2) 0)) (ws.getD (t-7) 0)) (pS (ws.getD (t-15) 0))) (ws.getD (t-16) 0)
def In (m:List Nat)(t:Nat):Nat:=m.getD (4*t) 0*16777216 ||| m.getD (4*t+1) 0*65536 ||| m.getD (4*t+2) 0*256 ||| m.getD (4*t+3) 0
def Bg (m:List Nat):Nat->List Nat
 | 0=>[]
 | t+1=>Bg m t++[if t<16 then In m t else Nq (Bg m t) t]
theorem Bh (m:List Nat)(t:Nat):(Bg m t).length=t:=by
 induction t with
 | zero=>rfl
 | succ t ih=>simp[Bg,ih]
theorem fA {m:List Nat}(hm:Aw m)(t:Nat):In m t<4294967296:=by
 have h0:=hm.get (4*t);have h1:=hm.get (4*t+1);have h2:=hm.get (4*t+2);have h3:=hm.get (4*t+3);unfold In;exact Ez (Ez (Ez (by omega) (by omega)) (by omega)) (by omega)
theorem Ie {m:List Nat}(hm:Aw m)(t:Nat):Words (Bg m t):=by
 induction t with
 | zero=>exact Words.nil
 | succ t ih =>
  refine ih.snoc ?_;split
  .exact fA hm t
  .exact Ev _ _
structure St where
 a:Nat
 b:Nat
 c:Nat
 d:Nat
 e:Nat
 f:Nat
 g:Nat
 h:Nat
def St.ok (s:St):Prop:=s.a<4294967296/\s.b<4294967296/\s.c<4294967296/\s.d<4294967296/\s.e<4294967296/\s.f<4294967296/\s.g<4294967296/\s.h<4294967296
def St.list (s:St):List Nat:=[s.a,s.b,s.c,s.d,s.e,s.f,s.g,s.h]
def St.of (l:List Nat):St:=⟨l.getD 0 0,l.getD 1 0,l.getD 2 0,l.getD 3 0,l.getD 4 0,l.getD 5 0,l.getD 6 0,l.getD 7 0⟩
def fC (s:St)(k w:Nat):Nat:=Bk (Bk (Bk (Bk s.h (sD s.e)) (ch s.e s.f s.g)) k) w
def jK (s:St):Nat:=Bk (sE s.a) (rX s.a s.b s.c)
def rW (s:St)(k w:Nat):St:=⟨Bk (fC s k w) (jK s),s.a,s.b,s.c,Bk s.d (fC s k w),s.e,s.f,s.g⟩
def Tv (K W:List Nat)(s:St):Nat->St
 | 0=>s
 | t+1=>rW (Tv K W s t) (K.getD t 0) (W.getD t 0)
theorem qC {s:St}(h:s.ok)(k w:Nat):(rW s k w).ok:=by
 obtain⟨h1,h2,h3,h4,h5,h6,h7,h8⟩:=h;exact⟨Ev _ _,h1,h2,h3,Ev _ _,h5,h6,h7⟩
theorem Wf {K W:List Nat}{s:St}(h:s.ok):∀t,(Tv K W s t).ok
 | 0=>h
 | t+1=>qC (Wf h t) _ _
theorem St.of_ok {l:List Nat}(h:Words l):(St.of l).ok:=⟨h.get _,h.get _,h.get _,h.get _,h.get _,h.get _,h.get _,h.get _⟩
theorem St.list_of {l:List Nat}(h:l.length=8):(St.of l).list=l:=by
 match l,h with
 | [a,b,c,d,e,f,g,x],_=>rfl
theorem St.list_words {s:St}(h:s.ok):Words s.list:=by
 obtain⟨h1,h2,h3,h4,h5,h6,h7,h8⟩:=h;intro x hx;simp only[St.list,List.mem_cons,List.not_mem_nil,or_false]at hx;rcases hx with rfl|rfl|rfl|rfl|rfl|rfl|rfl|rfl<;>assumption
def fK (H G:List Nat):List Nat:=List.zipWith Bk H G
def Db:List Nat:=[1116352408,1899447441,3049323471,3921009573,961987163,1508970993,2453635748,2870763221,3624381080,310598401,607225278,1426881987,1925078388,2162078206,2614888103,3248222580,3835390401,4022224774,264347078,604807628,770255983,1249150122,1555081692,1996064986,2554220882,2821834349,2952996808,3210313671,3336571891,3584528711,113926993,338241895,666307205,773529912,1294757372,1396182291,1695183700,1986661051,2177026350,2456956037,2730485921,2820302411,3259730800,3345764771,3516065817,3600352804,4094571909,275423344,430227734,506948616,659060556,883997877,958139571,1322822218,1537002063,1747873779,1955562222,2024104815,2227730452,2361852424,2428436474,2756734187,3204031479,3329325298]
def Dj:List Nat:=[1779033703,3144134277,1013904242,2773480762,1359893119,2600822924,528734635,1541459225]
theorem Ef:Db.length=64:=by kernel_rfl
theorem Oc:Dj.length=8:=rfl
theorem Zm:Words Dj:=by
 have:Dj.all (fun x=>decide (x<4294967296))=true:=by kernel_rfl
 intro x hx;exact of_decide_eq_true (List.all_eq_true.1 this x hx)
theorem Sn:Words Db:=by
 have:Db.all (fun x=>decide (x<4294967296))=true:=by kernel_rfl
 intro x hx;exact of_decide_eq_true (List.all_eq_true.1 this x hx)
def Pi (H m:List Nat):List Nat:=fK H (Tv Db (Bg m 64) (St.of H) 64).list
theorem aL {H m:List Nat}(h:H.length=8):(Pi H m).length=8:=by simp[Pi,fK,St.list,h]
theorem dH (H m:List Nat):Words (Pi H m):=by
 intro x hx;unfold Pi fK at hx;rw[List.mem_iff_getElem]at hx
 obtain⟨i,hi,rfl⟩:=hx;rw[List.getElem_zipWith];exact Ev _ _
def blocks (m:List Nat):Nat->List Nat
 | 0=>Dj
 | n+1=>Pi (blocks m n) ((m.drop (64*n)).take 64)
theorem Cj (m:List Nat):∀n,(blocks m n).length=8
 | 0=>rfl
 | n+1=>aL (Cj m n)
theorem Hd (m:List Nat):∀n,Words (blocks m n)
 | 0=>Zm
 | _+1=>dH _ _
theorem Iu {m b:List Nat}:∀ {n:Nat},64*n<=m.length->blocks (m++b) n=blocks m n
 | 0,_=>rfl
 | n+1,h=>by
  rw[blocks,blocks,Iu (by omega),List.drop_append_of_le_length (by omega),List.take_append_of_le_length (by simp;omega)]
def Ya (N:Nat):List Nat:=(List.range 8).map fun i=>N/2^(8*(7-i))%256
def Be (n:Nat):Nat:=(119-n%64)%64
def behind (n:Nat):List Nat:=128::(List.replicate (Be n) 0++Ya (n*8%18446744073709551616))
def Eo (x:Nat):List Nat:=[x/16777216%256,x/65536%256,x/256%256,x%256]
def Km (m:List Nat):List Nat:=(blocks (m++behind m.length) ((m.length+(behind m.length).length)/64)).flatMap Eo
theorem Ia (N:Nat):(Ya N).length=8:=by simp[Ya]
theorem Gi (n:Nat):(behind n).length=Be n+9:=by simp[behind,Ia]
theorem dP (n:Nat):(n+(behind n).length)%64=0:=by rw[Gi];unfold Be;omega
theorem iU (N:Nat):Aw (Ya N):=by
 intro x hx;simp only[Ya,List.mem_map]at hx;obtain⟨i,_,rfl⟩:=hx;exact Nat.mod_lt _ (by omega)
theorem Oq (n:Nat):Aw (behind n):=by
 intro x hx;simp only[behind,List.mem_cons,List.mem_append,List.mem_replicate]at hx;rcases hx with rfl|⟨_,rfl⟩|hx
 .omega
 .omega
 .exact iU _ x hx
theorem Cy (m:List Nat):(Km m).length=32:=by
 have h:=Cj (m++behind m.length) ((m.length+(behind m.length).length)/64);unfold Km;generalize blocks (m++behind m.length) ((m.length+(behind m.length).length)/64)=l at h
 match l,h with
 | [a,b,c,d,e,f,g,x],_=>rfl
theorem Hh (m:List Nat):Aw (Km m):=by
 intro x hx;unfold Km at hx;rw[List.mem_flatMap]at hx
 obtain⟨y,_,hy⟩:=hx;simp only[Eo,List.mem_cons,List.not_mem_nil,or_false]at hy;omega
def Bl (st pend:List Nat)(len:Nat):List Value:=(st.map fun(x:Nat)=>Value.int .u32 x)++((pend.map fun(x:Nat)=>Value.int .u8 x)++[.int .u64 (len:Nat)])
theorem Ml {st pend:List Nat}{len:Nat}(hs:st.length=8)(hp:pend.length=64):(Bl st pend len).length=73:=by simp[Bl,hs,hp]
theorem Hb {st pend:List Nat}{len i:Nat}(hs:st.length=8)(hi:i<8):(Bl st pend len)[i]? = some (.int .u32 (st.getD i 0:Nat)):=by
 unfold Bl;rw[List.getElem?_append_left (by simp;omega),List.getElem?_map,List.getD_eq_getElem?_getD];simp[show i<st.length by omega]
theorem Qf {st pend:List Nat}{len i:Nat}(hs:st.length=8)(hp:pend.length=64)(hi:i<64):(Bl st pend len)[8+i]? = some (.int .u8 (pend.getD i 0:Nat)):=by
 unfold Bl;rw[List.getElem?_append_right (by simp;omega),List.length_map,hs,Nat.add_sub_cancel_left,List.getElem?_append_left (by simp;omega),List.getElem?_map,List.getD_eq_getElem?_getD];simp[show i<pend.length by omega]
theorem Jy {st pend:List Nat}{len:Nat}(hs:st.length=8)(hp:pend.length=64):(Bl st pend len)[72]? = some (.int .u64 (len:Nat)):=by
 unfold Bl;rw[List.getElem?_append_right (by simp;omega),List.length_map,hs,List.getElem?_append_right (by simp;omega)];simp[hp]
theorem Pc {st pend:List Nat}{len i x:Nat}(hs:st.length=8)(hi:i<8):(Bl st pend len).set i (.int .u32 x)=Bl (st.set i x) pend len:=by
 unfold Bl;rw[List.set_append_left _ _ (by simp;omega),List.map_set]
theorem Lc {st pend:List Nat}{len x:Nat}(hs:st.length=8)(hp:pend.length=64):(Bl st pend len).set 72 (.int .u64 x)=Bl st pend x:=by
 unfold Bl;rw[List.set_append_right _ _ (by simp;omega),List.length_map,hs,List.set_append_right _ _ (by simp;omega)];simp[hp]
def El (w:World)(g:Nat)(st pend:List Nat)(len:Nat):Prop:=w.heap[g]? = some (.cells (Bl st pend len).toArray 254 (0,0))
theorem El.lt {w:World}{g:Nat}{st pend:List Nat}{len:Nat}(h:El w g st pend len):g<w.heap.size:=(Array.getElem?_eq_some_iff.1 h).1
theorem El.cell {w:World}{g:Nat}{st pend:List Nat}{len:Nat}(h:El w g st pend len){i:Nat}{v:Value}(hv:(Bl st pend len)[i]? = some v):w.cell? ⟨g,i,none⟩=some v:=by
 unfold El at h;simp[World.cell?,h,hv]
theorem El.free {w:World}{g:Nat}{st pend:List Nat}{len:Nat}(h:El w g st pend len)(i:Nat):w.frozen? ⟨g,i,none⟩=false:=by
 unfold El at h;simp[World.frozen?,h]
theorem El.below {w w':World}{g:Nat}{st pend:List Nat}{len:Nat}(h:El w g st pend len){B:Nat}(hb:Below B w w')(hg:g<B):El w' g st pend len:=by
 unfold El at *;rw[hb.block g hg];exact h
theorem El.but {w w':World}{g k:Nat}{st pend:List Nat}{len:Nat}(h:El w g st pend len)(hb:Cp k w w')(hk:g≠k):El w' g st pend len:=by
 unfold El at *;rw[hb.block g (by exact(Array.getElem?_eq_some_iff.1 h).1) hk];exact h
theorem El.set {w:World}{g:Nat}{st pend:List Nat}{len:Nat}(h:El w g st pend len)(i:Nat)(v:Value){st' pend':List Nat}{len':Nat}(he:(Bl st pend len).set i v=Bl st' pend' len') :
  El (w.setCell ⟨g,i,none⟩ v) g st' pend' len':=by
 unfold El at *;simp only[World.setCell,Array.getElem?_modify,if_true,h,Option.map_some];rw[<- he];simp
structure Tabs (w:World):Prop where
 first:∃t fr,w.heap[(1 : Nat)]? = some (.cells ((Dj.map fun(x:Nat)=>Value.int .u32 x).toArray) t fr)
 size:(max (1 : Nat) 2 + 1)<=w.heap.size
 kay:∀i,i<64->w.cell? ⟨2,i,none⟩=some (.int .u32 (Db.getD i 0:Nat))
theorem Tabs.below {w w':World}(h:Tabs w){B:Nat}(hb:Below B w w')(hB:(max (1 : Nat) 2 + 1)<=B):Tabs w' :=
 ⟨by rw[hb.block _ (by omega)];exact h.first,Nat.le_trans h.size hb.size,fun i hi=>by rw[hb.cell (p:=⟨2,i,none⟩) (by show (2 : Nat)<B;omega)];exact h.kay i hi⟩
theorem Tabs.but {w w':World}(h:Tabs w){g:Nat}(hb:Cp g w w')(hg:(max (1 : Nat) 2 + 1)<=g):Tabs w':=h.below (hb.below hg h.size) (Nat.le_refl _)
structure Bm (w:World) (g:Nat) (m:List Nat):Prop where
 ex:∃pend,pend.length=64/\Aw pend/\El w g (blocks m (m.length/64)) pend (m.length%18446744073709551616)/\pend.take (m.length%64)=m.drop (64*(m.length/64))
theorem Bm.below {w w':World}{g:Nat}{m:List Nat}(h:Bm w g m){B:Nat}(hb:Below B w w')(hg:g<B):Bm w' g m :=
 let ⟨p,h1,h2,h3,h4⟩:=h.ex
 ⟨p,h1,h2,h3.below hb hg,h4⟩
theorem Bm.but {w w':World}{g k:Nat}{m:List Nat}(h:Bm w g m)(hb:Cp k w w')(hg:g≠k):Bm w' g m :=
 let ⟨p,h1,h2,h3,h4⟩:=h.ex
 ⟨p,h1,h2,h3.but hb hg,h4⟩
theorem Bm.lt {w:World}{g:Nat}{m:List Nat}(h:Bm w g m):g<w.heap.size:=let ⟨_,_,_,h3,_⟩:=h.ex;h3.lt
theorem kI {i:Int}(n:Nat)(hi:i=(n:Nat))(h:n<=4294967296)(w:World):(Instr.makeSlice 60 (.int .i64 i) (.int .i64 i)).run Tryz.prog w =
  .ok (.slice (some ⟨w.heap.size,0,none⟩) n n) (w.alloc (.cells (zeros .u8 n) 5)):=by subst hi;exact Rd n h w
theorem Rn:∀(st:List Nat) (q r:Nat),q<st.length->r<4->(st.flatMap Eo)[4*q+r]? = some (st.getD q 0/256^(3-r)%256)
 | [],q,r,h,_=>by simp at h
 | x::st,0,r,_,hr=>by
  rw[List.flatMap_cons]
  match r,hr with
  | 0,_=>rfl
  | 1,_=>rfl
  | 2,_=>rfl
  | 3,_=>simp[Eo]
 | x::st,q+1,r,h,hr=>by
  rw[List.flatMap_cons,List.getElem?_append_right (by simp[Eo];omega)];simp only[Eo,List.length_cons,List.length_nil];rw[show 4*(q+1)+r-(0+1+1+1+1)=4*q+r by omega,Rn st q r (by simpa using h) hr];simp
theorem Io:∀(st:List Nat),(st.flatMap Eo).length=4*st.length
 | []=>rfl
 | x::st=>by rw[List.flatMap_cons,List.length_append,Io st];simp[Eo];omega
theorem oH {L:List Nat}{k x:Nat}(n:Nat)(hk:L[k]? = some x)(hn:L.length=n):(L.take k++List.replicate (n-k) 0).set k x=L.take (k+1)++List.replicate (n-(k+1)) 0:=by
 have hl:k<L.length:=(List.getElem?_eq_some_iff.1 hk).1;have ht:(L.take k).length=k:=by simp;omega
 rw[List.set_append_right _ _ (by omega),ht,Nat.sub_self,show n-k=(n-(k+1))+1 by omega,List.replicate_succ,List.set_cons_zero,List.take_add_one,hk];simp
theorem Ru (w:World)(g:Nat)(st pend:List Nat)(len:Nat)(hs:st.length=8)(hst:Words st)(hH:El w g st pend len) :
  Calls Tryz.prog 218 #[.pointer (some ⟨g,0,none⟩)] w fun e w'=>e=.returned (.slice (some ⟨w.heap.size,0,none⟩) 32 32)/\Below w.heap.size w w'/\Bj w' w.heap.size 5 .u8 (st.flatMap Eo):=by
 have hmk:=fun wx=>kI (i:=32) 32 rfl (by omega) wx
 have hL:=Io st;rw[hs]at hL
 obtain⟨L,hLe⟩:∃L,st.flatMap Eo=L:=⟨_,rfl⟩
 have HG:Hid (∀q r,q<8->r<4->L[4*q+r]? = some (st.getD q 0/256^(3-r)%256)):=fun q r hq hr=>by rw[<- hLe];exact Rn st q r (by omega) hr
 rw[hLe]at hL ⊢
 clear hLe;have HL:=Lib.hid hL;clear hL;go_enter Tryz.func218,Tryz.ntmps218;go_wp2
 go_loopw [8] (fun i wr=>∃k:Nat,k<=32/\i=.int .i64 k/\w.heap.size<wr.heap.size/\Below w.heap.size w wr/\Bj wr w.heap.size 5 .u8 (L.take k++List.replicate (32-k) 0)) (fun i _=>32-(intOf i).toNat)
 case atStart=>exact⟨0,by omega,rfl,by simp,(Below.refl _ _).alloc (Nat.le_refl _) _,Bj.zeros w 5 .u8 32⟩
 case round =>
  obtain⟨k,hk,rfl,hsz,hbel,hblk⟩:=hrel
  by_cases hk32:k<32
  .obtain⟨q,r,rfl,hr⟩:∃q r,k=4*q+r/\r<4:=⟨k/4,k%4,by omega,by omega⟩
   have hq:q<8:=by omega
   have hx:=HG.out q r hq hr;have hxw:=hst.get q;have hc:wr.cell? ⟨g,q,none⟩=some (.int .u32 (st.getD q 0:Nat)):=by
    rw[(Bu hbel).1 _ _ hH.lt];exact hH.cell (Hb hs hq)
   have hset:=Lib.hid (oH 32 hx HL.out);have e0:=hblk.cell (i:=4*q+r) (x:=0) (by rw[List.getElem?_append_right (by simp;have:=HL.out;omega)];simp[List.getElem?_replicate];have:=HL.out;omega);have e1:=hblk.free (4*q+r);have hne:g≠w.heap.size:=by have:=hH.lt;omega
   generalize st.getD q 0=x at *;have HX:=Lib.hid hx;clear hx;have t1:((4*q+r:Nat):Int)/4=(q:Int):=by omega
   obtain rfl|rfl|rfl|rfl:r=0 ∨ r=1 ∨ r=2 ∨ r=3:=by omega
   .rw[Nat.add_zero]at e0 e1
    go_wp2;have hv:(x:Int)/16777216=((x/256^(3-0)%256:Nat):Int):=by
     rw[show (256:Nat)^(3-0)=16777216 from rfl];omega
    try rw[hv]
    go_roundw
    case rel=>exact⟨4*q+0+1,by omega,by go_num,by simpa using hsz,hbel.setCell (by simp) _,by have h:=hblk.set (4*q+0) (x/256^(3-0)%256);rw[hset.out]at h;exact h⟩
    case measure=>simp[intOf];omega
   .have hc':wr.cell? ⟨g,(4*q+1)/4,none⟩=some (.int .u32 (x:Nat)):=by rw[show (4*q+1)/4=q by omega];exact hc
    go_wp2;have hv:(x:Int)/65536%256=((x/256^(3-1)%256:Nat):Int):=by
     rw[show (256:Nat)^(3-1)=65536 from rfl];omega
    try rw[hv]
    go_roundw
    case rel=>exact⟨4*q+1+1,by omega,by go_num,by simpa using hsz,hbel.setCell (by simp) _,by have h:=hblk.set (4*q+1) (x/256^(3-1)%256);rw[hset.out]at h;exact h⟩
    case measure=>simp[intOf];omega
   .have hc':wr.cell? ⟨g,(4*q+2)/4,none⟩=some (.int .u32 (x:Nat)):=by rw[show (4*q+2)/4=q by omega];exact hc
    go_wp2;have hv:(x:Int)/256%256=((x/256^(3-2)%256:Nat):Int):=by
     rw[show (256:Nat)^(3-2)=256 from rfl];omega
    try rw[hv]
    go_roundw
    case rel=>exact⟨4*q+2+1,by omega,by go_num,by simpa using hsz,hbel.setCell (by simp) _,by have h:=hblk.set (4*q+2) (x/256^(3-2)%256);rw[hset.out]at h;exact h⟩
    case measure=>simp[intOf];omega
   .have hc':wr.cell? ⟨g,(4*q+3)/4,none⟩=some (.int .u32 (x:Nat)):=by rw[show (4*q+3)/4=q by omega];exact hc
    go_wp2;have hv:(x:Int)%256=((x/256^(3-3)%256:Nat):Int):=by
     rw[show (256:Nat)^(3-3)=1 from rfl];omega
    try rw[hv]
    go_roundw
    case rel=>exact⟨4*q+3+1,by omega,by go_num,by simpa using hsz,hbel.setCell (by simp) _,by have h:=hblk.set (4*q+3) (x/256^(3-3)%256);rw[hset.out]at h;exact h⟩
    case measure=>simp[intOf];omega
  .obtain rfl:k=32:=by omega
   have hb:Bj wr w.heap.size 5 .u8 L:=by
    have h:=hblk;rw[List.take_of_length_le (by have:=HL.out;omega),Nat.sub_self,List.replicate_zero,List.append_nil]at h
    exact h
   go_wp2;go_ret;exact⟨rfl,hbel,hb⟩
end Go.Proofs.YthgoeiegdhphjaaGreatDoor
