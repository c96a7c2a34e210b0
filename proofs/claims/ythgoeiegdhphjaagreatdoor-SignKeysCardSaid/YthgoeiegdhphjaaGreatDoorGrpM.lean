/- The three groups of the laws, over numbers: their primes' chains hold, their bases are members, their second bases. -/
import Derived.Laws.CopyOwn
import Derived.WalkSmall
import Derived.Test.YthgoeiegdhphjaaGreatDoorRing
import Derived.Laws.OwnMore
import Derived.Lib.AppendZeros
import Derived.ArgAppend
import Derived.KernelRfl
set_option maxRecDepth 1000000
set_option maxHeartbeats 16000000
set_option linter.all false
namespace Go.Proofs.YthgoeiegdhphjaaGreatDoor
open Go Go.RowKit
structure Ad (p:Prop):Prop where
 out:p
theorem Aa {p:Prop}(h:p):Ad p:=⟨h⟩
structure Xg (p:Prop):Prop where
 out:p
structure Cp (g:Nat) (w w':World):Prop where
 os:w'.os=w.os
 tape:w'.tape=w.tape
 output:w'.output=w.output
 size:w.heap.size<=w'.heap.size
 block:∀k,k<w.heap.size->k≠g->w'.heap[k]? = w.heap[k]?
theorem Cp.refl (g:Nat)(w:World):Cp g w w:=⟨rfl,rfl,rfl,Av _,fun _ _ _=>rfl⟩
theorem Cp.trans {g:Nat}{a b c:World}(h:Cp g a b)(k:Cp g b c):Cp g a c :=
 ⟨k.os.trans h.os,k.tape.trans h.tape,k.output.trans h.output,Ep h.size k.size,fun i hi hn=>(k.block i (Dm hi h.size) hn).trans (h.block i hi hn)⟩
theorem Cp.of {g:Nat}{w w':World}(h:Below w.heap.size w w'):Cp g w w':=⟨h.os,h.tape,h.output,h.size,fun k hk _=>h.block k hk⟩
theorem Cp.below {g:Nat}{w w':World}(h:Cp g w w'){B:Nat}(hg:B<=g)(hB:B<=w.heap.size):Below B w w' :=
 ⟨h.os,h.tape,h.output,h.size,fun k hk=>h.block k (by omega) (by omega)⟩
theorem Cp.setRow {g:Nat}(w:World)(cs:Array Value):Cp g w (w.setRow g cs):=⟨rfl,rfl,rfl,by simp[World.setRow],fun k _ hn=>setRow_other w g k cs hn⟩
theorem Cp.setCell {g:Nat}(w:World)(o:Nat)(u:Value):Cp g w (w.setCell ⟨g,o,none⟩ u):=⟨rfl,rfl,rfl,by simp[World.setCell],fun k _ hn=>Below.heap_setCell _ _ _ _ hn⟩
theorem Cp.drew {g:Nat}{w w':World}(h:Cp g w w'):Cp g w w'.drew:=⟨h.os,h.tape,h.output,h.size,h.block⟩
theorem Cp.cell {g:Nat}{w w':World}(h:Cp g w w'){p:Addr}(hp:p.block<w.heap.size)(hn:p.block≠g):w'.cell? p=w.cell? p:=World.cell?_of_block (w:=w) (h.block p.block hp hn)
theorem Ld {P:Program}{f:FuncId}{args:Array Value}{w w1:World}{Q:Ending->World->Prop}(h:w=w1)(k:Calls P f args w1 Q):Calls P f args w Q:=h ▸ k
theorem Di {a b c:World}(h:Below a.heap.size a b)(k:Below b.heap.size b c):Below a.heap.size a c:=h.trans (k.mono h.size)
def pm (a n:Nat):Nat->Nat->Nat
 | 0,_=>1%n
 | f+1,e=>if e=0 then 1%n else
  let h:=pm a n f (e/2)
  if e%2=1 then h*h%n*a%n else h*h%n
theorem Kr (a n:Nat):∀f e,e<2^f->pm a n f e=a^e%n
 | 0,e,h=>by
  have:e=0:=by simp at h;omega
  subst this;rw[pm,Nat.pow_zero]
 | f+1,e,h=>by
  unfold pm;split
  .rename_i h0;rw[h0,Nat.pow_zero]
  .have ih:=Kr a n f (e/2) (by rw[Nat.pow_succ]at h;omega);have e2:a^(2*(e/2))=a^(e/2)*a^(e/2):=by rw[<-Nat.pow_add];congr 1;omega
   simp only[ih];split
   .rename_i h1
    have:e=2*(e/2)+1:=by omega
    conv=>rhs;rw[this,Nat.pow_succ,e2]
    simp[Nat.mul_mod]
   .rename_i h1
    have:e=2*(e/2):=by omega
    conv=>rhs;rw[this,e2]
    rw[<-Nat.mul_mod]
open Go Go.RowKit Go.Proofs.YthgoeiegdhphjaaGreatDoor.Flow
theorem Ea {P:Program}{o:Oper}{ops:Array Oper}{a:Act}{w:World}{K:Value->World->Prop}(hw:Region.wanted o (yielded ops a.tmps)=false)(hk:K undef w):asked P o ops a w K:=by
 unfold asked;rw[if_neg (by rw[hw];exact Bool.false_ne_true)];exact hk
structure Bq (w:World) (e:Nat) (p:Option Addr) (n c:Nat) (Ns:List Nat):Prop where
 len:n=Ns.length
 cap:n<=c
 max:c<=9223372036854775807
 nil:p=none->c=0
 at_:0<n->∃b off,p=some ⟨b,off,none⟩/\b<w.heap.size/\∀i N,Ns[i]? = some N->∃q m d,w.cell? ⟨b,off+i,none⟩=some (.slice q m d)/\Ag w q m d N/\N<Ao e
theorem Bq.below {w w':World}{e:Nat}{p:Option Addr}{n c:Nat}{Ns:List Nat}(h:Bq w e p n c Ns)(hb:Below w.heap.size w w'):Bq w' e p n c Ns:=by
 refine⟨h.len,h.cap,h.max,h.nil,fun h0=>?_⟩;obtain⟨b,off,h1,h2,h3⟩:=h.at_ h0
 refine⟨b,off,h1,Dm h2 hb.size,fun i N hN=>?_⟩;obtain⟨q,m,d,h4,h5,h6⟩:=h3 i N hN;exact⟨q,m,d,by rw[hb.cell (p:=⟨b,off+i,none⟩) h2];exact h4,h5.below hb,h6⟩
structure Dp (w:World) (e:Nat) (p:Option Addr) (n c:Nat) (l:List Bj):Prop where
 len:n=l.length
 cap:n<=c
 max:c<=9223372036854775807
 nil:p=none->c=0
 at_:0<n->∃b off,p=some ⟨b,off,none⟩/\b<w.heap.size/\∀i s,l[i]? = some s->∃q0 m0 d0 q1 m1 d1 q2 m2 d2,
  w.cell? ⟨b,off+i*3,none⟩=some (.slice q0 m0 d0)/\w.cell? ⟨b,off+i*3+1,none⟩=some (.slice q1 m1 d1)/\w.cell? ⟨b,off+i*3+2,none⟩=some (.slice q2 m2 d2) /\
  Ag w q0 m0 d0 s.n/\s.n<Ao e/\Ag w q1 m1 d1 s.base/\s.base<Ao e/\Bq w e q2 m2 d2 s.ps
theorem Dp.below {w w':World}{e:Nat}{p:Option Addr}{n c:Nat}{l:List Bj}(h:Dp w e p n c l)(hb:Below w.heap.size w w'):Dp w' e p n c l:=by
 refine⟨h.len,h.cap,h.max,h.nil,fun h0=>?_⟩;obtain⟨b,off,h1,h2,h3⟩:=h.at_ h0
 refine⟨b,off,h1,Dm h2 hb.size,fun i s hs=>?_⟩;obtain⟨q0,m0,d0,q1,m1,d1,q2,m2,d2,k0,k1,k2,k3,k4,k5,k6,k7⟩:=h3 i s hs;have hc:∀o,w'.cell? ⟨b,o,none⟩=w.cell? ⟨b,o,none⟩:=fun o=>hb.cell (p:=⟨b,o,none⟩) h2
 exact⟨q0,m0,d0,q1,m1,d1,q2,m2,d2,by rw[hc];exact k0,by rw[hc];exact k1,by rw[hc];exact k2,k3.below hb,k4,k5.below hb,k6,k7.below hb⟩
def Dn (s:Bj):Prop:=1024<Ba s.n ∨ 1024<Ba s.base ∨ ∃p∈s.ps,1024<Ba p
open Classical in
def aE:Prop:=∀(w:World) (N e:Nat) (v:Value),Fit e N v w->e<=200 ->
 Calls Tryz.prog 168 #[v] w fun en w'=>en=.returned (.bool (decide (Bz N)))/\Below w.heap.size w w'
structure Asks (g:Nat) (lb:Array Value) (w:World) (e:Nat) (Ns:List Nat) (p:Nat->Bool):Prop where
 out:∀(W:World) (N:Nat) (v:Value),Below w.heap.size w W->N∈Ns->Fit e N v W->Calls Tryz.prog g (#[v]++lb) W fun en w'=>en=.returned (.bool (p N))/\Below W.heap.size W w'
theorem fI {Ns:List Nat}{p:Nat->Bool}{k X:Nat}(h:Ns[k]? = some X)(hp:p X=true):Ns.any p=true :=
 List.any_eq_true.2 ⟨X,List.mem_of_getElem? h,hp⟩
theorem cZ {Ns:List Nat}{p:Nat->Bool}(h:∀(i X:Nat),Ns[i]? = some X->p X=false):Ns.any p=false:=by
 rw[List.any_eq_false];intro x hx;obtain⟨i,hi⟩:=List.getElem?_of_mem hx;rw[h i x hi];exact Bool.false_ne_true
theorem Tz (w:World)(e:Nat)(p0:Option Addr)(n c:Nat)(Ns:List Nat)(g:Nat)(lb:Array Value)(eg:∀args w,(callFunc g args).run Tryz.prog w=.ok (.enter g args) w)(p:Nat->Bool)(h:Bq w e p0 n c Ns)(hp:Asks g lb w e Ns p) :
  Calls Tryz.prog 199 #[.slice p0 n c,.func (.func g) #[] lb] w fun en w'=>∃K:Int,en=.returned (.int .i64 K)/\decide (0<=K)=Ns.any p/\Below w.heap.size w w':=by
 have HH:Ad _:=⟨h⟩
 have hn:=h.len;have hmax:n<=9223372036854775807:=Ep h.cap h.max;have HLN:Ad _:=⟨hn⟩
 clear h hn;go_enter Tryz.func199,Tryz.ntmps199;go_wp2
 go_loopw [5,8] (fun _ iv wr=>∃k:Nat,k<=n/\iv=.int .i64 k/\Ad (∀i X,i<k->Ns[i]? = some X->p X=false)/\Ad (Below w.heap.size w wr)) (fun _ iv _=>n-(intOf iv).toNat)
 case atStart=>exact⟨0,by omega,rfl,⟨fun i X h=>by omega⟩,⟨Bc _ _⟩⟩
 case round=>
  obtain⟨k,hk,rfl,HJ,HB⟩:=hrel
  by_cases hkn:k<n
  .obtain⟨X,hXk⟩:∃X,Ns[k]? = some X:=⟨Ns[k]'(by rw[<-HLN.out];exact hkn),List.getElem?_eq_getElem _⟩
   obtain⟨b,off,rfl,hb,hc⟩:=(HH.out.below HB.out).at_ (by omega)
   obtain⟨q,m,d,hx,hnx,hlim⟩:=hc k X hXk;have HC:Ad _:=⟨hp.out wr X _ HB.out (List.mem_of_getElem? hXk) (Fit.of hnx hlim)⟩
   have HX:Ad _:=⟨hXk⟩
   have hkn':(k:Int)<n:=by omega
   clear hc hnx hlim hXk hp;obtain⟨P,hP⟩:∃P,p X=P:=⟨_,rfl⟩
   rw[hP]at HC
   have HP:Ad _:=⟨hP⟩
   clear hP
   cases P with
   | true=>
    go_wp2_with (go_at_fn g;refine HC.out.mono ?_;rintro en w1 ⟨rfl,hb1⟩)
    go_ret;exact⟨_,rfl,by rw[fI HX.out HP.out];exact decide_eq_true (by omega),Af HB.out hb1⟩
   | false=>
    have HJ':Ad (∀i Y,i<k+1->Ns[i]? = some Y->p Y=false):=⟨fun i Y hi hY=>by
     rcases(by omega:i<k ∨ i=k) with h|rfl
     .exact HJ.out i Y h hY
     .have:=HX.out;rw[hY]at this
      cases this;exact HP.out⟩
    go_wp2_with (go_at_fn g;refine HC.out.mono ?_;rintro en w1 ⟨rfl,hb1⟩)
    go_roundw
    case rel=>exact⟨k+1,by omega,by go_num,HJ',⟨Af HB.out hb1⟩⟩
    case measure=>simp[intOf];omega
  .obtain rfl:k=n:=by omega
   have hkn':¬(k:Int)<k:=by omega
   go_wp2;go_ret;refine⟨_,rfl,?_,HB.out⟩;rw[cZ fun i X hX=>HJ.out i X (by rw[HLN.out];exact(List.getElem?_eq_some_iff.1 hX).1) hX];rfl
theorem Ju (w:World)(e:Nat)(p0:Option Addr)(n c:Nat)(Ns:List Nat)(g:Nat)(lb:Array Value)(eg:∀args w,(callFunc g args).run Tryz.prog w=.ok (.enter g args) w)(p:Nat->Bool)(h:Bq w e p0 n c Ns)(hp:Asks g lb w e Ns p) :
  Calls Tryz.prog 162 #[.slice p0 n c,.func (.func g) #[] lb] w fun en w'=>en=.returned (.bool (Ns.any p))/\Below w.heap.size w w':=by
 go_enter Tryz.func162,Tryz.ntmps162
 go_wp2_with fail
 refine(Tz w e p0 n c Ns g lb eg p h hp).mono ?_;rintro en w1 ⟨K,rfl,hK,hb⟩;have HB:Ad _:=⟨hb⟩
 have HK:Ad _:=⟨hK⟩
 clear hK hb;go_wp2;go_ret;exact⟨by rw[<-HK.out];rfl,HB.out⟩
theorem Vo (w:World)(e:Nat)(Ns:List Nat)(b q:Nat)(v:Value)(N:Nat)(hb:b<w.heap.size)(hc:w.cell? ⟨b,0,none⟩=some v)(hv:Fit e N (.agg #[v]) w)(he:e<=900000) :
  Asks 246 #[.pointer (some ⟨b,0,none⟩)] w e Ns (fun M=>decide (M=N)):=by
 refine⟨fun W M u hbw _ hu=>?_⟩;have hc':W.cell? ⟨b,0,none⟩=some v:=(hbw.cell (p:=⟨b,0,none⟩) hb).trans hc;have hv':=hv.below hbw;obtain⟨pu,nu,cu,rfl,hu1,hu2⟩:=hu;have hbx:=Db.mk1 W (.slice pu nu cu) 36;have hbW:b<W.heap.size:=Dm hb hbw.size;have hc2:(W.alloc (.cells #[.slice pu nu cu] 36)).cell? ⟨b,0,none⟩=some v:=(hbx.bel.cell (p:=⟨b,0,none⟩) hbW).trans hc';have HA:Ad _:=⟨(Fit.of hu1 hu2).below hbx.bel⟩
 have HV:Ad _:=⟨hv'.below hbx.bel⟩
 have HBX:Ad _:=⟨hbx.bel⟩
 obtain⟨pv,nv,cv,hev,_,_⟩:=hv;cases hev;clear hu1 hu2 hbx hv' hc' hc;go_enter Tryz.func246,Tryz.ntmps246
 go_wp2_with fail
 refine(Nt HA.out HV.out he he).mono ?_;rintro en w1 ⟨_,rfl,rfl,hb1⟩;have HB1:Ad _:=⟨Af HBX.out hb1⟩
 have e0:((Bm M N:Int)==0)=decide (M=N):=by
  by_cases hnm:M=N
  .simp[hnm,Cb.2]
  .have:Bm M N≠0:=fun h0=>hnm (Cb.1 h0)
   simp[hnm,this]
 have HE:Ad _:=⟨e0⟩
 clear e0 hb1 hc2;generalize Bm M N=K at *;go_wp2;go_ret;exact⟨by rw[<-HE.out];rfl,HB1.out⟩
open Classical in
theorem Ik (w:World)(e:Nat)(p0:Option Addr)(n c:Nat)(Ns:List Nat)(v:Value)(N:Nat)(h:Bq w e p0 n c Ns)(hv:Fit e N v w)(he:e<=900000) :
  Calls Tryz.prog 232 #[.slice p0 n c,v] w fun en w'=>en=.returned (.bool (decide (N∈Ns)))/\Below w.heap.size w w':=by
 obtain⟨pu,nu,cu,rfl,hu1,hu2⟩:=hv;have hbx:=Db.mk1 w (.slice pu nu cu) 36;have HP:Ad _:=⟨h.below hbx.bel⟩
 have HA:Ad _:=⟨Vo (w.alloc (.cells #[.slice pu nu cu] 36)) e Ns w.heap.size 0 (.slice pu nu cu) N (by simp) hbx.c0 ((Fit.of hu1 hu2).below hbx.bel) he⟩
 have HBX:Ad _:=⟨hbx.bel⟩
 have HANS:Ad (Ns.any (fun M=>decide (M=N))=decide (N∈Ns)):=⟨by
  by_cases hm:N∈Ns
  .rw[decide_eq_true hm,List.any_eq_true];exact⟨N,hm,by simp⟩
  .rw[decide_eq_false hm,List.any_eq_false];intro x hx;have:x≠N:=fun e=>hm (e ▸ hx)
   simp[this]⟩
 clear h hu1 hu2 hbx;go_enter Tryz.func232,Tryz.ntmps232
 go_wp2_with fail
 refine(Ju _ e p0 n c Ns _ _ (enters_of Tryz.func246 (by kernel_rfl) rfl) _ HP.out HA.out).mono ?_;rintro en w1 ⟨rfl,hb1⟩;have HB1:Ad _:=⟨Af HBX.out hb1⟩
 clear hb1;rw[HANS.out];go_wp2;go_ret;exact⟨rfl,HB1.out⟩
open Go
def rr (x n:Nat):Nat:=x*2^(32-n)%4294967296 ||| x/2^n
def Cd (x y:Nat):Nat:=(x+y)%4294967296
def gR (x:Nat):Nat:=rr x 7 ^^^ rr x 18 ^^^ x/8
def gO (x:Nat):Nat:=rr x 17 ^^^ rr x 19 ^^^ x/1024
def iL (x:Nat):Nat:=rr x 2 ^^^ rr x 13 ^^^ rr x 22
def iK (x:Nat):Nat:=rr x 6 ^^^ rr x 11 ^^^ rr x 25
def ch (e f g:Nat):Nat:=e &&& f ^^^ (4294967295-e) &&& g
def iJ (a b c:Nat):Nat:=a &&& b ^^^ a &&& c ^^^ b &&& c
theorem Ei {x n:Nat}(hx:x<4294967296):rr x n<4294967296:=by
 unfold rr;exact Nat.or_lt_two_pow (n:=32) (Nat.mod_lt _ (by omega)) (Nat.lt_of_le_of_lt (Nat.div_le_self _ _) hx)
theorem Fv (x y:Nat):Cd x y<4294967296:=Nat.mod_lt _ (by omega)
theorem Cn {x y:Nat}(hx:x<4294967296)(hy:y<4294967296):x ^^^ y<4294967296:=Nat.xor_lt_two_pow (n:=32) hx hy
theorem In {x y:Nat}(hy:y<4294967296):x &&& y<4294967296:=Nat.and_lt_two_pow (n:=32) _ hy
theorem Iy {x y:Nat}(hx:x<4294967296)(hy:y<4294967296):x ||| y<4294967296:=Nat.or_lt_two_pow (n:=32) hx hy
def Te (ws:List Nat)(t:Nat):Nat:=Cd (Cd (Cd (gO (ws.getD (t-2) 0)) (ws.getD (t-7) 0)) (gR (ws.getD (t-15) 0))) (ws.getD (t-16) 0)
def Lu (m:List Nat)(t:Nat):Nat:=m.getD (4*t) 0*16777216 ||| m.getD (4*t+1) 0*65536 ||| m.getD (4*t+2) 0*256 ||| m.getD (4*t+3) 0
def Bw (m:List Nat):Nat->List Nat
 | 0=>[]
 | t+1=>Bw m t++[if t<16 then Lu m t else Te (Bw m t) t]
theorem Bo (m:List Nat)(t:Nat):(Bw m t).length=t:=by
 induction t with
 | zero=>rfl
 | succ t ih=>simp[Bw,ih]
theorem Yc {m:List Nat}(hm:Az m)(t:Nat):Lu m t<4294967296:=by
 have h0:=hm.get (4*t);have h1:=hm.get (4*t+1);have h2:=hm.get (4*t+2);have h3:=hm.get (4*t+3);unfold Lu;exact Iy (Iy (Iy (by omega) (by omega)) (by omega)) (by omega)
theorem Ml {m:List Nat}(hm:Az m)(t:Nat):Words (Bw m t):=by
 induction t with
 | zero=>exact Words.nil
 | succ t ih=>
  refine ih.snoc ?_;split
  .exact Yc hm t
  .exact Fv _ _
structure St where
 a:Nat
 b:Nat
 c:Nat
 d:Nat
 e:Nat
 f:Nat
 g:Nat
 h:Nat
def St.ok (s:St):Prop:=s.a<4294967296/\s.b<4294967296/\s.c<4294967296/\s.d<4294967296/\s.e<4294967296/\s.f<4294967296/\s.g<4294967296/\s.h<4294967296
def St.list (s:St):List Nat:=[s.a,s.b,s.c,s.d,s.e,s.f,s.g,s.h]
def St.of (l:List Nat):St:=⟨l.getD 0 0,l.getD 1 0,l.getD 2 0,l.getD 3 0,l.getD 4 0,l.getD 5 0,l.getD 6 0,l.getD 7 0⟩
def dY (s:St)(k w:Nat):Nat:=Cd (Cd (Cd (Cd s.h (iK s.e)) (ch s.e s.f s.g)) k) w
def fP (s:St):Nat:=Cd (iL s.a) (iJ s.a s.b s.c)
def iF (s:St)(k w:Nat):St:=⟨Cd (dY s k w) (fP s),s.a,s.b,s.c,Cd s.d (dY s k w),s.e,s.f,s.g⟩
def Vr (K W:List Nat)(s:St):Nat->St
 | 0=>s
 | t+1=>iF (Vr K W s t) (K.getD t 0) (W.getD t 0)
theorem fV {s:St}(h:s.ok)(k w:Nat):(iF s k w).ok:=by
 obtain⟨h1,h2,h3,h4,h5,h6,h7,h8⟩:=h;exact⟨Fv _ _,h1,h2,h3,Fv _ _,h5,h6,h7⟩
theorem Xq {K W:List Nat}{s:St}(h:s.ok):∀t,(Vr K W s t).ok
 | 0=>h
 | t+1=>fV (Xq h t) _ _
theorem St.of_ok {l:List Nat}(h:Words l):(St.of l).ok:=⟨h.get _,h.get _,h.get _,h.get _,h.get _,h.get _,h.get _,h.get _⟩
theorem St.list_of {l:List Nat}(h:l.length=8):(St.of l).list=l:=by
 match l,h with
 | [a,b,c,d,e,f,g,x],_=>rfl
theorem St.list_words {s:St}(h:s.ok):Words s.list:=by
 obtain⟨h1,h2,h3,h4,h5,h6,h7,h8⟩:=h;intro x hx;simp only[St.list,List.mem_cons,List.not_mem_nil,or_false]at hx;rcases hx with rfl|rfl|rfl|rfl|rfl|rfl|rfl|rfl<;>assumption
def aV (H G:List Nat):List Nat:=List.zipWith Cd H G
def Kv:List Nat:=[1116352408,1899447441,3049323471,3921009573,961987163,1508970993,2453635748,2870763221,3624381080,310598401,607225278,1426881987,1925078388,2162078206,2614888103,3248222580,3835390401,4022224774,264347078,604807628,770255983,1249150122,1555081692,1996064986,2554220882,2821834349,2952996808,3210313671,3336571891,3584528711,113926993,338241895,666307205,773529912,1294757372,1396182291,1695183700,1986661051,2177026350,2456956037,2730485921,2820302411,3259730800,3345764771,3516065817,3600352804,4094571909,275423344,430227734,506948616,659060556,883997877,958139571,1322822218,1537002063,1747873779,1955562222,2024104815,2227730452,2361852424,2428436474,2756734187,3204031479,3329325298]
def Gs:List Nat:=[1779033703,3144134277,1013904242,2773480762,1359893119,2600822924,528734635,1541459225]
theorem My:Kv.length=64:=by kernel_rfl
theorem Uf:Words Gs:=by
 have:Gs.all (fun x=>decide (x<4294967296))=true:=by kernel_rfl
 intro x hx;exact of_decide_eq_true (List.all_eq_true.1 this x hx)
theorem Wh:Words Kv:=by
 have:Kv.all (fun x=>decide (x<4294967296))=true:=by kernel_rfl
 intro x hx;exact of_decide_eq_true (List.all_eq_true.1 this x hx)
def Sk (H m:List Nat):List Nat:=aV H (Vr Kv (Bw m 64) (St.of H) 64).list
theorem Uu {H m:List Nat}(h:H.length=8):(Sk H m).length=8:=by simp[Sk,aV,St.list,h]
theorem Wz (H m:List Nat):Words (Sk H m):=by
 intro x hx;unfold Sk aV at hx;rw[List.mem_iff_getElem]at hx
 obtain⟨i,hi,rfl⟩:=hx;rw[List.getElem_zipWith];exact Fv _ _
def blocks (m:List Nat):Nat->List Nat
 | 0=>Gs
 | n+1=>Sk (blocks m n) ((m.drop (64*n)).take 64)
theorem Cz (m:List Nat):∀n,(blocks m n).length=8
 | 0=>rfl
 | n+1=>Uu (Cz m n)
theorem Lg (m:List Nat):∀n,Words (blocks m n)
 | 0=>Uf
 | _+1=>Wz _ _
theorem Gi {m b:List Nat}:∀ {n:Nat},64*n<=m.length->blocks (m++b) n=blocks m n
 | 0,_=>rfl
 | n+1,h=>by
  rw[blocks,blocks,Gi (by omega),List.drop_append_of_le_length (by omega),List.take_append_of_le_length (by simp;omega)]
def fM (N:Nat):List Nat:=(List.range 8).map fun i=>N/2^(8*(7-i))%256
def Cu (n:Nat):Nat:=(119-n%64)%64
def behind (n:Nat):List Nat:=128::(List.replicate (Cu n) 0++fM (n*8%18446744073709551616))
def Gd (x:Nat):List Nat:=[x/16777216%256,x/65536%256,x/256%256,x%256]
def Pu (m:List Nat):List Nat:=(blocks (m++behind m.length) ((m.length+(behind m.length).length)/64)).flatMap Gd
theorem Kh (N:Nat):(fM N).length=8:=by simp[fM]
theorem Qb (n:Nat):(behind n).length=Cu n+9:=by simp[behind,Kh]
theorem aC (N:Nat):Az (fM N):=by
 intro x hx;simp only[fM,List.mem_map]at hx;obtain⟨i,_,rfl⟩:=hx;exact Nat.mod_lt _ (by omega)
theorem Ss (n:Nat):Az (behind n):=by
 intro x hx;simp only[behind,List.mem_cons,List.mem_append,List.mem_replicate]at hx;rcases hx with rfl|⟨_,rfl⟩|hx
 .omega
 .omega
 .exact aC _ x hx
theorem Ct (m:List Nat):(Pu m).length=32:=by
 have h:=Cz (m++behind m.length) ((m.length+(behind m.length).length)/64);unfold Pu;generalize blocks (m++behind m.length) ((m.length+(behind m.length).length)/64)=l at h
 match l,h with
 | [a,b,c,d,e,f,g,x],_=>rfl
theorem Iv (m:List Nat):Az (Pu m):=by
 intro x hx;unfold Pu at hx;rw[List.mem_flatMap]at hx
 obtain⟨y,_,hy⟩:=hx;simp only[Gd,List.mem_cons,List.not_mem_nil,or_false]at hy;omega
def Jy (key:List Nat):List Nat:=if 64<key.length then Pu key else key
def Du (key:List Nat):List Nat:=Jy key++List.replicate (64-(Jy key).length) 0
def masked (b:List Nat)(x:Nat):List Nat:=b.map (· ^^^ x)
def Wi (key:List Nat):List Nat:=masked (Du key) 54
def Vy (key:List Nat):List Nat:=masked (Du key) 92
def Vf (key m:List Nat):List Nat:=Vy key++Pu (Wi key++m)
def Ia (key m:List Nat):List Nat:=Pu (Vf key m)
theorem Hx (key:List Nat):(Jy key).length<=64:=by
 unfold Jy;split
 .rw[Ct];omega
 .omega
theorem Gf (key:List Nat):(Du key).length=64:=by have:=Hx key;simp[Du];omega
theorem Wg {key:List Nat}(h:Az key):Az (Jy key):=by
 unfold Jy;split
 .exact Iv _
 .exact h
theorem Sd {key:List Nat}(h:Az key):Az (Du key):=by
 intro x hx;rcases List.mem_append.1 hx with h1|h1
 .exact Wg h x h1
 .have:=(List.mem_replicate.1 h1).2;omega
theorem Ew (b:List Nat)(x:Nat):(masked b x).length=b.length:=by simp[masked]
theorem Rx {b:List Nat}(h:Az b){x:Nat}(hx:x<256):Az (masked b x):=by
 intro y hy;obtain⟨z,hz,rfl⟩:=List.mem_map.1 hy;exact Nat.xor_lt_two_pow (n:=8) (h z hz) hx
theorem Hz (key m:List Nat):(Ia key m).length=32:=Ct _
theorem Ox (key m:List Nat):Az (Ia key m):=Iv _
def Vi (p:Nat):Bool:=decide (2<=p)&&decide (p<65536)&&(List.range 256).all fun d=>decide (d<2)||decide (p<d*d) || !(p%d==0)
theorem Fy {p:Nat}(h:Vi p=true):Bz p:=by
 simp only[Vi,Bool.and_eq_true,decide_eq_true_eq,List.all_eq_true,Bool.or_eq_true,Bool.not_eq_true',beq_eq_false_iff_ne]at h;obtain⟨⟨h2,hlt⟩,h⟩:=h;refine⟨h2,hlt,fun d h3 h4=>?_⟩;have hd:d<256:=Nat.lt_of_not_le fun hle=>by have:=Nat.mul_le_mul hle hle;omega
 rcases h d (List.mem_range.2 hd) with (h5|h5)|h5
 .omega
 .omega
 .exact h5
theorem Xr {p:Nat}(hp:2<=p):∀(f n:Nat),0<n->n<2^f->pw p f n=pw p n n
 | 0,n,h0,h=>by simp at h;omega
 | f+1,n,h0,h=>by
  rw[Np hp h0,pw];split
  .rename_i hm
   have h4:0<n/p:=Nat.div_pos (Nat.le_of_dvd h0 (Nat.dvd_of_mod_eq_zero hm)) (by omega);have h5:n/p<2^f:=by
    have:n/p<=n/2:=Nat.div_le_div_left hp (by omega);rw[Nat.pow_succ]at h
    omega
   rw[Xr hp f (n/p) h4 h5]
  .rfl
def okB (f N base:Nat)(behind ps:List Nat)(i p:Nat):Bool :=
 !(ps.take i).contains p&&(Vi p||behind.contains p)&&decide (2<=p)&&(N-1)%p==0&&Nat.gcd ((pm base N f ((N-1)/p)+N-1)%N) N==1
def holdsB (f N base:Nat)(ps behind:List Nat):Bool :=
 decide (2<=N) && !ps.isEmpty&&decide (ps.length<=32)&&decide (N<=2^f)&&(List.range ps.length).all (fun i=>okB f N base behind ps i (ps.getD i 0))&&pm base N f (N-1)==1 &&
  decide (N<ps.foldl (fun a p=>a*pw p f (N-1)) 1*ps.foldl (fun a p=>a*pw p f (N-1)) 1)
theorem Uj {f n:Nat}(h0:0<n)(h:n<2^f):∀(ps:List Nat) (a:Nat),(∀p∈ps,2<=p)->ps.foldl (fun a p=>a*pw p f n) a=ps.foldl (fun a p=>a*pw p n n) a
 | [],_,_=>rfl
 | p::ps,a,hp=>by
  rw[List.foldl_cons,List.foldl_cons,Xr (hp p (by simp)) f n h0 h];exact Uj h0 h ps _ fun q hq=>hp q (by simp[hq])
theorem Hy {f N base:Nat}{ps behind:List Nat}(h:holdsB f N base ps behind=true):Fg N base ps behind:=by
 simp only[holdsB,Bool.and_eq_true,decide_eq_true_eq,List.all_eq_true,Bool.not_eq_true',beq_iff_eq]at h;obtain⟨⟨⟨⟨⟨⟨h2,hne⟩,h32⟩,hf⟩,hall⟩,hone⟩,hgr⟩:=h;have hlt:N-1<2^f:=by omega
 have each:∀i p,ps[i]? = .some p->dF N base behind ps i p:=fun i p hp=>by
  have hi:=(List.getElem?_eq_some_iff.1 hp).1;have h3:=hall i (List.mem_range.2 hi);rw[Ec,hp,Option.getD_some]at h3
  simp only[okB,Bool.and_eq_true,decide_eq_true_eq,Bool.not_eq_true',beq_iff_eq,Bool.or_eq_true,List.contains_iff_mem]at h3;obtain⟨⟨⟨⟨k1,k2⟩,k3⟩,k4⟩,k5⟩:=h3;refine⟨(fun hm=>by rw[List.contains_iff_mem.2 hm]at k1;cases k1),k2.imp Fy id,k3,k4,?_⟩;rw[<-Kr base N f _ (Nat.lt_of_le_of_lt (Nat.div_le_self _ _) hlt)];exact k5
 have hps:∀p∈ps,2<=p:=fun p hp=>by
  obtain⟨i,hi,e⟩:=List.getElem_of_mem hp;exact(each i p (by rw[List.getElem?_eq_getElem hi,e])).2.2.1
 refine⟨h2,(fun e=>by rw[e]at hne;cases hne),h32,each,?_,?_⟩
 .rw[<-Kr base N f _ hlt];exact hone
 .have:=Uj (f:=f) (n:=N-1) (by omega) hlt ps 1 hps;unfold Pv;rw[<-this];exact hgr
def gP:Nat->Nat
 | 0=>607
 | 1=>655211
 | _=>20752587082923246163
def gQ:Nat->Nat
 | 0=>101
 | 1=>65521
 | _=>1152921504606847009
def gG:Nat->Nat
 | 0=>64
 | 1=>1024
 | _=>262144
def gH:Nat->Nat
 | 0=>597
 | 1=>96520
 | _=>12833098634328171918
def gW:Nat->Nat
 | 0=>2
 | 1=>3
 | _=>9
def Ka:Nat->Nat
 | 0=>6
 | 1=>10
 | _=>18
def Do:Nat->List Bj
 | 0=>[]
 | 1=>[⟨655211,2,[65521]⟩]
 | _=>[⟨1152921504606847009,13,[2,3,11,683,2971]⟩,⟨20752587082923246163,2,[1152921504606847009]⟩]
theorem cJ:Fg 655211 2 [65521] []:=Hy (f:=20) (by kernel_rfl)
theorem Zn:Fg 1152921504606847009 13 [2,3,11,683,2971] []:=Hy (f:=61) (by kernel_rfl)
theorem Zm:Fg 20752587082923246163 2 [1152921504606847009] [1152921504606847009]:=Hy (f:=65) (by kernel_rfl)
theorem aQ:Bz 607:=Fy (by kernel_rfl)
theorem aR:Bz 101:=Fy (by kernel_rfl)
theorem Vj:Bz 65521:=Fy (by kernel_rfl)
def Told (N:Nat)(l:List Bj):Prop:=Bz N ∨ (Br [] l/\∃s∈l,s.n=N)
theorem Md:∀i,i<3->Br [] (Do i)
 | 0,_=>trivial
 | 1,_=>⟨cJ,trivial⟩
 | 2,_=>⟨Zn,Zm,trivial⟩
 | _+3,h=>by omega
theorem fB:∀i,i<3->Told (gP i) (Do i)
 | 0,_=>.inl aQ
 | 1,_=>.inr ⟨Md 1 (by omega),_,List.mem_singleton.2 rfl,rfl⟩
 | 2,_=>.inr ⟨Md 2 (by omega),_,List.mem_cons_of_mem _ (List.mem_singleton.2 rfl),rfl⟩
 | _+3,h=>by omega
theorem fA:∀i,i<3->Told (gQ i) (Do i)
 | 0,_=>.inl aR
 | 1,_=>.inl Vj
 | 2,_=>.inr ⟨Md 2 (by omega),_,List.mem_cons_self,rfl⟩
 | _+3,h=>by omega
theorem Qx:∀i,i<3->gP i-1=gQ i*Ka i
 | 0,_=>rfl
 | 1,_=>rfl
 | 2,_=>rfl
 | _+3,h=>by omega
theorem Ky:∀i,i<3->64<gQ i/\1<gG i/\gG i<gP i/\1<gH i/\gH i<gP i/\gP i<2^65
 | 0,_=>by decide
 | 1,_=>by decide
 | 2,_=>by decide
 | _+3,h=>by omega
theorem Mc:∀i,i<3->gG i^gQ i%gP i=1
 | 0,_=>by rw[<-Kr (gG 0) (gP 0) 65 (gQ 0) (by decide)];kernel_rfl
 | 1,_=>by rw[<-Kr (gG 1) (gP 1) 65 (gQ 1) (by decide)];kernel_rfl
 | 2,_=>by rw[<-Kr (gG 2) (gP 2) 65 (gQ 2) (by decide)];kernel_rfl
 | _+3,h=>by omega
theorem Sb:Ia [] []=[182,19,103,154,8,20,217,236,119,47,149,215,120,195,95,197,255,22,151,196,147,113,86,83,198,199,18,20,66,146,197,173]:=by kernel_rfl
theorem Vd:Ia [182,19,103,154,8,20,217,236,119,47,149,215,120,195,95,197,255,22,151,196,147,113,86,83,198,199,18,20,66,146,197,173] [104,0,1] =
  [22,9,94,96,137,201,132,135,12,215,97,165,119,173,84,193,49]++(Ia [182,19,103,154,8,20,217,236,119,47,149,215,120,195,95,197,255,22,151,196,147,113,86,83,198,199,18,20,66,146,197,173] [104,0,1]).drop 17:=by kernel_rfl
def Vz (bs:List Nat):Nat:=bs.foldl (fun n x=>n*256+x) 0
def Pb:Nat->List Nat
 | 0=>[22,9,94,96,137,201,132,135,12,215]
 | 1=>[22,9,94,96,137,201,132,135,12,215,97]
 | _=>[22,9,94,96,137,201,132,135,12,215,97,165,119,173,84,193,49]
theorem gX:∀i,i<3->Vz (Pb i)^Ka i%gP i=gH i
 | 0,_=>by rw[<-Kr (Vz (Pb 0)) (gP 0) 65 (Ka 0) (by decide)];kernel_rfl
 | 1,_=>by rw[<-Kr (Vz (Pb 1)) (gP 1) 65 (Ka 1) (by decide)];kernel_rfl
 | 2,_=>by rw[<-Kr (Vz (Pb 2)) (gP 2) 65 (Ka 2) (by decide)];kernel_rfl
 | _+3,h=>by omega
end Go.Proofs.YthgoeiegdhphjaaGreatDoor
