/- Rows of numbers that a call has laid, and that grow: the program's and the document's; where a grown row lies. -/
import Derived.Laws.CopyOwn
import Derived.WalkSmall
import Derived.Test.YtokhckjemidbpaaGreatDoorRing
import Derived.Laws.OwnMore
import Derived.Lib.AppendZeros
import Derived.ArgAppend
import Derived.Deep.Slices
import Derived.ChangeSame
import Derived.ChangeSlices
import Derived.ChangeArms
set_option maxRecDepth 1000000
set_option maxHeartbeats 16000000
set_option linter.all false
namespace Go.Proofs.YtokhckjemidbpaaGreatDoor
open Go Go.RowKit
structure Aa (p:Prop):Prop where
 out:p
theorem Ab {p:Prop}(h:p):Aa p:=⟨h⟩
structure Gn (p:Prop):Prop where
 out:p
structure Ev (g:Nat) (w w':World):Prop where
 os:w'.os=w.os
 tape:w'.tape=w.tape
 output:w'.output=w.output
 size:w.heap.size<=w'.heap.size
 block:∀k,k<w.heap.size->k≠g->w'.heap[k]? = w.heap[k]?
theorem Ev.refl (g:Nat)(w:World):Ev g w w:=⟨rfl,rfl,rfl,Aw _,fun _ _ _=>rfl⟩
theorem Ev.trans {g:Nat}{a b c:World}(h:Ev g a b)(k:Ev g b c):Ev g a c :=
 ⟨k.os.trans h.os,k.tape.trans h.tape,k.output.trans h.output,Er h.size k.size,fun i hi hn=>(k.block i (Da hi h.size) hn).trans (h.block i hi hn)⟩
theorem Ev.of {g:Nat}{w w':World}(h:Below w.heap.size w w'):Ev g w w':=⟨h.os,h.tape,h.output,h.size,fun k hk _=>h.block k hk⟩
theorem Ev.below {g:Nat}{w w':World}(h:Ev g w w'){B:Nat}(hg:B<=g)(hB:B<=w.heap.size):Below B w w' :=
 ⟨h.os,h.tape,h.output,h.size,fun k hk=>h.block k (by omega) (by omega)⟩
theorem Ev.setRow {g:Nat}(w:World)(cs:Array Value):Ev g w (w.setRow g cs):=⟨rfl,rfl,rfl,by simp[World.setRow],fun k _ hn=>setRow_other w g k cs hn⟩
theorem Ev.setCell {g:Nat}(w:World)(o:Nat)(u:Value):Ev g w (w.setCell ⟨g,o,none⟩ u):=⟨rfl,rfl,rfl,by simp[World.setCell],fun k _ hn=>Below.heap_setCell _ _ _ _ hn⟩
theorem Ev.drew {g:Nat}{w w':World}(h:Ev g w w'):Ev g w w'.drew:=⟨h.os,h.tape,h.output,h.size,h.block⟩
theorem Ev.cell {g:Nat}{w w':World}(h:Ev g w w'){p:Addr}(hp:p.block<w.heap.size)(hn:p.block≠g):w'.cell? p=w.cell? p:=World.cell?_of_block (w:=w) (h.block p.block hp hn)
theorem aZ {P:Program}{f:FuncId}{args:Array Value}{w w1:World}{Q:Ending->World->Prop}(h:w=w1)(k:Calls P f args w1 Q):Calls P f args w Q:=h ▸ k
theorem Eg {a b c:World}(h:Below a.heap.size a b)(k:Below b.heap.size b c):Below a.heap.size a c:=h.trans (k.mono h.size)
def pm (a n:Nat):Nat->Nat->Nat
 | 0,_=>1%n
 | f+1,e=>if e=0 then 1%n else
  let h:=pm a n f (e/2)
  if e%2=1 then h*h%n*a%n else h*h%n
theorem Jz (a n:Nat):∀f e,e<2^f->pm a n f e=a^e%n
 | 0,e,h=>by
  have:e=0:=by simp at h;omega
  subst this;rw[pm,Nat.pow_zero]
 | f+1,e,h=>by
  unfold pm;split
  .rename_i h0;rw[h0,Nat.pow_zero]
  .have ih:=Jz a n f (e/2) (by rw[Nat.pow_succ]at h;omega);have e2:a^(2*(e/2))=a^(e/2)*a^(e/2):=by rw[<-Nat.pow_add];congr 1;omega
   simp only[ih];split
   .rename_i h1
    have:e=2*(e/2)+1:=by omega
    conv=>rhs;rw[this,Nat.pow_succ,e2]
    simp[Nat.mul_mod]
   .rename_i h1
    have:e=2*(e/2):=by omega
    conv=>rhs;rw[this,e2]
    rw[<-Nat.mul_mod]
open Go Go.RowKit Go.Proofs.YtokhckjemidbpaaGreatDoor.Flow
theorem Fh {P:Program}{o:Oper}{ops:Array Oper}{a:Act}{w:World}{K:Value->World->Prop}(hw:Region.wanted o (yielded ops a.tmps)=false)(hk:K undef w):asked P o ops a w K:=by
 unfold asked;rw[if_neg (by rw[hw];exact Bool.false_ne_true)];exact hk
structure Aq (w:World) (e:Nat) (p:Option Addr) (n c:Nat) (Ns:List Nat):Prop where
 len:n=Ns.length
 cap:n<=c
 max:c<=9223372036854775807
 nil:p=none->c=0
 at_:0<n->∃b off,p=some ⟨b,off,none⟩/\b<w.heap.size/\∀i N,Ns[i]? = some N->∃q m d,w.cell? ⟨b,off+i,none⟩=some (.slice q m d)/\Ag w q m d N/\N<An e
theorem Aq.below {w w':World}{e:Nat}{p:Option Addr}{n c:Nat}{Ns:List Nat}(h:Aq w e p n c Ns)(hb:Below w.heap.size w w'):Aq w' e p n c Ns:=by
 refine⟨h.len,h.cap,h.max,h.nil,fun h0=>?_⟩;obtain⟨b,off,h1,h2,h3⟩:=h.at_ h0
 refine⟨b,off,h1,Da h2 hb.size,fun i N hN=>?_⟩;obtain⟨q,m,d,h4,h5,h6⟩:=h3 i N hN;exact⟨q,m,d,by rw[hb.cell (p:=⟨b,off+i,none⟩) h2];exact h4,h5.below hb,h6⟩
structure Ep (w:World) (e:Nat) (p:Option Addr) (n c:Nat) (l:List Bo):Prop where
 len:n=l.length
 cap:n<=c
 max:c<=9223372036854775807
 nil:p=none->c=0
 at_:0<n->∃b off,p=some ⟨b,off,none⟩/\b<w.heap.size/\∀i s,l[i]? = some s->∃q0 m0 d0 q1 m1 d1 q2 m2 d2,
  w.cell? ⟨b,off+i*3,none⟩=some (.slice q0 m0 d0)/\w.cell? ⟨b,off+i*3+1,none⟩=some (.slice q1 m1 d1)/\w.cell? ⟨b,off+i*3+2,none⟩=some (.slice q2 m2 d2) /\
  Ag w q0 m0 d0 s.n/\s.n<An e/\Ag w q1 m1 d1 s.base/\s.base<An e/\Aq w e q2 m2 d2 s.ps
theorem Ep.below {w w':World}{e:Nat}{p:Option Addr}{n c:Nat}{l:List Bo}(h:Ep w e p n c l)(hb:Below w.heap.size w w'):Ep w' e p n c l:=by
 refine⟨h.len,h.cap,h.max,h.nil,fun h0=>?_⟩;obtain⟨b,off,h1,h2,h3⟩:=h.at_ h0
 refine⟨b,off,h1,Da h2 hb.size,fun i s hs=>?_⟩;obtain⟨q0,m0,d0,q1,m1,d1,q2,m2,d2,k0,k1,k2,k3,k4,k5,k6,k7⟩:=h3 i s hs;have hc:∀o,w'.cell? ⟨b,o,none⟩=w.cell? ⟨b,o,none⟩:=fun o=>hb.cell (p:=⟨b,o,none⟩) h2
 exact⟨q0,m0,d0,q1,m1,d1,q2,m2,d2,by rw[hc];exact k0,by rw[hc];exact k1,by rw[hc];exact k2,k3.below hb,k4,k5.below hb,k6,k7.below hb⟩
def Em (s:Bo):Prop:=1024<Bh s.n ∨ 1024<Bh s.base ∨ ∃p∈s.ps,1024<Bh p
open Classical in
def iU:Prop:=∀(w:World) (N e:Nat) (v:Value),Fit e N v w->e<=200 ->
 Calls Tryz.prog 178 #[v] w fun en w'=>en=.returned (.bool (decide (Ch N)))/\Below w.heap.size w w'
structure Asks (g:Nat) (lb:Array Value) (w:World) (e:Nat) (Ns:List Nat) (p:Nat->Bool):Prop where
 out:∀(W:World) (N:Nat) (v:Value),Below w.heap.size w W->N∈Ns->Fit e N v W->Calls Tryz.prog g (#[v]++lb) W fun en w'=>en=.returned (.bool (p N))/\Below W.heap.size W w'
theorem oL {Ns:List Nat}{p:Nat->Bool}{k X:Nat}(h:Ns[k]? = some X)(hp:p X=true):Ns.any p=true :=
 List.any_eq_true.2 ⟨X,List.mem_of_getElem? h,hp⟩
theorem mD {Ns:List Nat}{p:Nat->Bool}(h:∀(i X:Nat),Ns[i]? = some X->p X=false):Ns.any p=false:=by
 rw[List.any_eq_false];intro x hx;obtain⟨i,hi⟩:=List.getElem?_of_mem hx;rw[h i x hi];exact Bool.false_ne_true
theorem Zm (w:World)(e:Nat)(p0:Option Addr)(n c:Nat)(Ns:List Nat)(g:Nat)(lb:Array Value)(eg:∀args w,(callFunc g args).run Tryz.prog w=.ok (.enter g args) w)(p:Nat->Bool)(h:Aq w e p0 n c Ns)(hp:Asks g lb w e Ns p) :
  Calls Tryz.prog 214 #[.slice p0 n c,.func (.func g) #[] lb] w fun en w'=>∃K:Int,en=.returned (.int .i64 K)/\decide (0<=K)=Ns.any p/\Below w.heap.size w w':=by
 have HH:Aa _:=⟨h⟩
 have hn:=h.len;have hmax:n<=9223372036854775807:=Er h.cap h.max;have HLN:Aa _:=⟨hn⟩
 clear h hn;go_enter Tryz.func214,Tryz.ntmps214;go_wp2
 go_loopw [5,8] (fun _ iv wr=>∃k:Nat,k<=n/\iv=.int .i64 k/\Aa (∀i X,i<k->Ns[i]? = some X->p X=false)/\Aa (Below w.heap.size w wr)) (fun _ iv _=>n-(intOf iv).toNat)
 case atStart=>exact⟨0,by omega,rfl,⟨fun i X h=>by omega⟩,⟨Ba _ _⟩⟩
 case round=>
  obtain⟨k,hk,rfl,HJ,HB⟩:=hrel
  by_cases hkn:k<n
  .obtain⟨X,hXk⟩:∃X,Ns[k]? = some X:=⟨Ns[k]'(by rw[<-HLN.out];exact hkn),List.getElem?_eq_getElem _⟩
   obtain⟨b,off,rfl,hb,hc⟩:=(HH.out.below HB.out).at_ (by omega)
   obtain⟨q,m,d,hx,hnx,hlim⟩:=hc k X hXk;have HC:Aa _:=⟨hp.out wr X _ HB.out (List.mem_of_getElem? hXk) (Fit.of hnx hlim)⟩
   have HX:Aa _:=⟨hXk⟩
   have hkn':(k:Int)<n:=by omega
   clear hc hnx hlim hXk hp;obtain⟨P,hP⟩:∃P,p X=P:=⟨_,rfl⟩
   rw[hP]at HC
   have HP:Aa _:=⟨hP⟩
   clear hP
   cases P with
   | true=>
    go_wp2_with (go_at_fn g;refine HC.out.mono ?_;rintro en w1 ⟨rfl,hb1⟩)
    go_ret;exact⟨_,rfl,by rw[oL HX.out HP.out];exact decide_eq_true (by omega),Af HB.out hb1⟩
   | false=>
    have HJ':Aa (∀i Y,i<k+1->Ns[i]? = some Y->p Y=false):=⟨fun i Y hi hY=>by
     rcases(by omega:i<k ∨ i=k) with h|rfl
     .exact HJ.out i Y h hY
     .have:=HX.out;rw[hY]at this
      cases this;exact HP.out⟩
    go_wp2_with (go_at_fn g;refine HC.out.mono ?_;rintro en w1 ⟨rfl,hb1⟩)
    go_roundw
    case rel=>exact⟨k+1,by omega,by go_num,HJ',⟨Af HB.out hb1⟩⟩
    case measure=>simp[intOf];omega
  .obtain rfl:k=n:=by omega
   have hkn':¬(k:Int)<k:=by omega
   go_wp2;go_ret;refine⟨_,rfl,?_,HB.out⟩;rw[mD fun i X hX=>HJ.out i X (by rw[HLN.out];exact(List.getElem?_eq_some_iff.1 hX).1) hX];rfl
theorem Ji (w:World)(e:Nat)(p0:Option Addr)(n c:Nat)(Ns:List Nat)(g:Nat)(lb:Array Value)(eg:∀args w,(callFunc g args).run Tryz.prog w=.ok (.enter g args) w)(p:Nat->Bool)(h:Aq w e p0 n c Ns)(hp:Asks g lb w e Ns p) :
  Calls Tryz.prog 177 #[.slice p0 n c,.func (.func g) #[] lb] w fun en w'=>en=.returned (.bool (Ns.any p))/\Below w.heap.size w w':=by
 go_enter Tryz.func177,Tryz.ntmps177
 go_wp2_with fail
 refine(Zm w e p0 n c Ns g lb eg p h hp).mono ?_;rintro en w1 ⟨K,rfl,hK,hb⟩;have HB:Aa _:=⟨hb⟩
 have HK:Aa _:=⟨hK⟩
 clear hK hb;go_wp2;go_ret;exact⟨by rw[<-HK.out];rfl,HB.out⟩
theorem cD (w:World)(e:Nat)(Ns:List Nat)(b q:Nat)(v:Value)(N:Nat)(hb:b<w.heap.size)(hc:w.cell? ⟨b,0,none⟩=some v)(hv:Fit e N (.agg #[v]) w)(he:e<=900000) :
  Asks 263 #[.pointer (some ⟨b,0,none⟩)] w e Ns (fun M=>decide (M=N)):=by
 refine⟨fun W M u hbw _ hu=>?_⟩;have hc':W.cell? ⟨b,0,none⟩=some v:=(hbw.cell (p:=⟨b,0,none⟩) hb).trans hc;have hv':=hv.below hbw;obtain⟨pu,nu,cu,rfl,hu1,hu2⟩:=hu;have hbx:=Dw.mk1 W (.slice pu nu cu) 37;have hbW:b<W.heap.size:=Da hb hbw.size;have hc2:(W.alloc (.cells #[.slice pu nu cu] 37)).cell? ⟨b,0,none⟩=some v:=(hbx.bel.cell (p:=⟨b,0,none⟩) hbW).trans hc';have HA:Aa _:=⟨(Fit.of hu1 hu2).below hbx.bel⟩
 have HV:Aa _:=⟨hv'.below hbx.bel⟩
 have HBX:Aa _:=⟨hbx.bel⟩
 obtain⟨pv,nv,cv,hev,_,_⟩:=hv;cases hev;clear hu1 hu2 hbx hv' hc' hc;go_enter Tryz.func263,Tryz.ntmps263
 go_wp2_with fail
 refine(Hs HA.out HV.out he he).mono ?_;rintro en w1 ⟨_,rfl,rfl,hb1⟩;have HB1:Aa _:=⟨Af HBX.out hb1⟩
 have e0:((Bm M N:Int)==0)=decide (M=N):=by
  by_cases hnm:M=N
  .simp[hnm,Bv.2]
  .have:Bm M N≠0:=fun h0=>hnm (Bv.1 h0)
   simp[hnm,this]
 have HE:Aa _:=⟨e0⟩
 clear e0 hb1 hc2;generalize Bm M N=K at *;go_wp2;go_ret;exact⟨by rw[<-HE.out];rfl,HB1.out⟩
open Classical in
theorem Lg (w:World)(e:Nat)(p0:Option Addr)(n c:Nat)(Ns:List Nat)(v:Value)(N:Nat)(h:Aq w e p0 n c Ns)(hv:Fit e N v w)(he:e<=900000) :
  Calls Tryz.prog 249 #[.slice p0 n c,v] w fun en w'=>en=.returned (.bool (decide (N∈Ns)))/\Below w.heap.size w w':=by
 obtain⟨pu,nu,cu,rfl,hu1,hu2⟩:=hv;have hbx:=Dw.mk1 w (.slice pu nu cu) 37;have HP:Aa _:=⟨h.below hbx.bel⟩
 have HA:Aa _:=⟨cD (w.alloc (.cells #[.slice pu nu cu] 37)) e Ns w.heap.size 0 (.slice pu nu cu) N (by simp) hbx.c0 ((Fit.of hu1 hu2).below hbx.bel) he⟩
 have HBX:Aa _:=⟨hbx.bel⟩
 have HANS:Aa (Ns.any (fun M=>decide (M=N))=decide (N∈Ns)):=⟨by
  by_cases hm:N∈Ns
  .rw[decide_eq_true hm,List.any_eq_true];exact⟨N,hm,by simp⟩
  .rw[decide_eq_false hm,List.any_eq_false];intro x hx;have:x≠N:=fun e=>hm (e ▸ hx)
   simp[this]⟩
 clear h hu1 hu2 hbx;go_enter Tryz.func249,Tryz.ntmps249
 go_wp2_with fail
 refine(Ji _ e p0 n c Ns _ _ (enters_of Tryz.func263 (by kernel_rfl) rfl) _ HP.out HA.out).mono ?_;rintro en w1 ⟨rfl,hb1⟩;have HB1:Aa _:=⟨Af HBX.out hb1⟩
 clear hb1;rw[HANS.out];go_wp2;go_ret;exact⟨rfl,HB1.out⟩
def bM (n:Nat):Prop:=n<18446744073709551616
structure If (t:TypeId) (w:World) (b:Nat) (v0 v1 v2:Value):Prop where
 at_:w.heap[b]? = some (.cells #[v0,v1,v2] t (0,0))
theorem If.lt {t:TypeId}{w:World}{b:Nat}{v0 v1 v2:Value}(h:If t w b v0 v1 v2):b<w.heap.size:=(Gs h.at_).1
theorem If.below {t:TypeId}{w w':World}{B b:Nat}{v0 v1 v2:Value}(h:If t w b v0 v1 v2)(hb:Below B w w')(hB:b<B):If t w' b v0 v1 v2:=⟨by rw[hb.block b hB];exact h.at_⟩
theorem If.cells {t:TypeId}{w:World}{b:Nat}{v0 v1 v2:Value}(h:If t w b v0 v1 v2):w.cell? ⟨b,0,none⟩=some v0/\w.cell? ⟨b,1,none⟩=some v1/\w.cell? ⟨b,2,none⟩=some v2:=by
 have:=h.at_
 simp[World.cell?,this]
theorem If.made (t:TypeId)(w:World)(v0 v1 v2:Value):If t (w.alloc (.cells #[v0,v1,v2] t)) w.heap.size v0 v1 v2:=⟨heap_alloc_new w _⟩
section
variable {At:World->Option Addr->Nat->Nat->Nat->Prop} {mk:Option Addr->Nat->Nat->Value} {t:TypeId} {w0:World} {N B:Nat} {d2 d5 d6 d7:Bool} {v2 v5 v6 v7:Value} {w:World}
end
open Go Go.RowKit Go.Deep Go.ChangeShapes Go.WideShapes
theorem Rz {w:World}{a:Option Addr}{len cap:Nat}{zs:List Int}(h:(a=none/\len=0/\cap=0/\zs=[]) ∨ ∃x,a=some x/\len<=cap/\cap<=maxLen/\zs.length=cap/\(∀i,i<zs.length->w.cell? (x.add i)=some (.int .u64 (zs.getD i 0)))/\∀n∈zs,(Lit.int .u64 n).wf=true) :
  Bq w .u64 a len cap (bytesIn zs len)/\∀x∈bytesIn zs len,bM x:=by
 rcases h with ⟨rfl,rfl,rfl,rfl⟩|⟨x,rfl,hl,hm,hz,hc,hw⟩
 .exact⟨⟨by simp[bytesIn],Aw _,by omega,fun h=>absurd h (by omega)⟩,by simp[bytesIn]⟩
 .have hm':cap<=9223372036854775807:=by simpa [maxLen]using hm
  have hlen:len=(bytesIn zs len).length:=by simp[bytesIn];omega
  refine⟨⟨hlen,hl,hm',fun h0=>?_⟩,?_⟩
  .obtain⟨b,off,spot⟩:=x;have h1:=hc 0 (by omega);have hspot:spot=none:=by simpa [Addr.add]using World.cell?_spot h1
   subst hspot;have hadd:∀i,(⟨b,off,none⟩:Addr).add i=⟨b,off+i,none⟩:=add_plain b off;refine⟨hlen,hl,hm',.inr ⟨b,off,rfl,?_,fun i y hy=>?_⟩⟩
   .rw[hadd]at h1
    unfold World.cell? at h1;rcases Nat.lt_or_ge b w.heap.size with k|k
    .exact k
    .simp[Array.getElem?_eq_none k]at h1
   .simp only[bytesIn,List.getElem?_map,List.getElem?_take]at hy;split at hy
    .rename_i hi
     have hi2:i<zs.length:=by omega
     rw[List.getElem?_eq_getElem hi2]at hy
     simp only[Option.map_some,Option.some.injEq]at hy;have:=wf_u64 (hw zs[i] (List.getElem_mem _));rw[<-hadd,hc i hi2,<-hy,Dn,List.getElem?_eq_getElem hi2];simp only[Option.getD_some]
     congr 2
     omega
    .simp at hy
  .intro y hy;simp only[bytesIn,List.mem_map]at hy;obtain⟨z,hz',rfl⟩:=hy;have:=wf_u64 (hw z (List.mem_of_mem_take hz'));unfold bM;omega
instance:Inhabited Bo:=⟨⟨0,0,[]⟩⟩
def Po (w:World)(v v':Value):Prop:=v'.ownBlock=v.ownBlock ∨ ∀g,v'.ownBlock=some g->w.heap.size<=g
theorem Ry {w:World}{B n size bytes:Nat}{st e:TypeId}{i:TypeInfo}{z:Value}(hu:Tryz.prog.underlying st=some (.slice e))(hi:Tryz.prog.info? e=some i)(hz:i.zero=some z)(hs:i.size=size)(hb:i.bytes=bytes)(hzs:z.cells.size=size)(h0:0<size){v:Value}{us:List Value}(h:w.ownsRow B e size v n us){a:Addr}{m c:Nat}{news:List Value}(hl:news.length=m*size)(hcell:∀j u,news[j]? = some u->w.cell? (a.add j)=some u)(hone:∀u∈news,u.oneCell'=true)(hmax:n+m<=maxLen)(hbytes:(n+m)*bytes<=140737488355328)(hB:B<=w.heap.size)(ty:TypeId) :
  ∃v' w',(Builtin.append_ #[st,st] ty #[v,.slice (some a) m c]).run Tryz.prog w=.ok v' w'/\w'.ownsRow B e size v' (n+m) (us++news)/\w.grownBy w' v.ownBlock/\Po w v v':=by
 obtain⟨v',w',h1,h2,h3,_⟩:=run_append_own (P:=Tryz.prog) w B st ty e i z size bytes hu hi hz hs hb hzs h0 v n us h a m c news hl hcell hone hmax hbytes hB;refine⟨v',w',h1,h2,h3,?_⟩;rcases h.2 with ⟨rfl,hn0⟩|⟨g,cap,cur,rfl,hbg,hg,hnc,hcm,hcs,ht⟩
 .obtain⟨v2,w2,k1,k2,_,_⟩:=run_append_own (P:=Tryz.prog) w w.heap.size st ty e i z size bytes hu hi hz hs hb hzs h0 (.slice none 0 0) 0 [] (World.ownsRow_nil w _ _ _) a m c news hl hcell hone (by omega) (Er (Nat.mul_le_mul_right _ (by omega)) hbytes) (Aw _);rw[h1]at k1
  injection k1 with k3 k4
  subst k3;refine .inr fun g hg=>?_
  rcases k2.2 with ⟨e',_⟩|⟨g',cap,cur,e',hb',_⟩
  .rw[e']at hg;cases hg
  .rw[e']at hg
   obtain rfl:g'=g:=by simpa [Value.ownBlock]using hg
   exact hb'
 .by_cases hroom:n+m<=cap
  .have hfit:n*i.size+news.length<=cur.size:=by rw[hs,hcs,hl,<-Nat.add_mul];exact Nat.mul_le_mul_right _ hroom
   have k1:=run_append_room (P:=Tryz.prog) w st ty e i hu hi g n cap cur hg a m c news (by rw[hs];exact hl) hcell hone hroom hfit;rw[h1]at k1
   injection k1 with k2 _
   exact .inl (by rw[k2];rfl)
  .obtain⟨v2,w2,k1,k2,_⟩:=run_append_arg_grows (P:=Tryz.prog) w st ty e i z size bytes hu hi hz hs hb hzs h0 ⟨g,0,none⟩ n cap us h.1
    (fun j u hj=>World.ownsRow.cells h rfl j u hj) a m c news hl hcell (by omega) hmax hbytes
   rw[h1]at k1
   injection k1 with k3 k4
   subst k3;refine .inr fun g hg=>?_
   rcases k2.2 with ⟨e',_⟩|⟨g',cap,cur,e',hb',_⟩
   .rw[e']at hg;cases hg
   .rw[e']at hg
    obtain rfl:g'=g:=by simpa [Value.ownBlock]using hg
    exact hb'
structure Agree (bad:Nat->Prop) (w w':World):Prop where
 size:w.heap.size<=w'.heap.size
 block:∀b,b<w.heap.size->¬bad b->w'.heap[b]? = w.heap[b]?
theorem Agree.trans {bad:Nat->Prop}{a b c:World}(h:Agree bad a b)(k:Agree bad b c):Agree bad a c :=
 ⟨Er h.size k.size,fun x hx hn=>by rw[k.block x (Da hx h.size) hn,h.block x hx hn]⟩
theorem Agree.of {bad:Nat->Prop}{w w':World}(h:Below w.heap.size w w'):Agree bad w w':=⟨h.size,fun b hb _=>h.block b hb⟩
theorem Agree.grown {bad:Nat->Prop}{w w':World}{row:Option Nat}(h:w.grownBy w' row)(hr:∀g,row=some g->bad g):Agree bad w w' :=
 ⟨h.size,fun b hb hn=>h.block b hb fun e=>hn (hr b e.symm)⟩
theorem Agree.set {bad:Nat->Prop}(w:World)(g o:Nat)(u:Value)(hg:bad g):Agree bad w (w.setCell ⟨g,o,none⟩ u) :=
 ⟨by simp,fun b _ hn=>Below.heap_setCell _ _ _ _ fun e=>hn (by rw[show b=g from e];exact hg)⟩
def Gk (F:World->Prop)(bad:Nat->Prop)(w:World):Prop:=∀w',Agree bad w w'->F w'
theorem Gk.out {F:World->Prop}{bad:Nat->Prop}{w:World}(h:Gk F bad w):F w:=h w ⟨Aw _,fun _ _ _=>rfl⟩
theorem Gk.step {F:World->Prop}{bad:Nat->Prop}{w w':World}(h:Gk F bad w)(a:Agree bad w w'):Gk F bad w':=fun w2 k=>h w2 (a.trans k)
theorem Gk.more {F:World->Prop}{bad bad':Nat->Prop}{w:World}(h:Gk F bad w)(hb:∀b,b<w.heap.size->bad' b->bad b):Gk F bad' w :=
 fun w2 k=>h w2 ⟨k.size,fun b hlt hn=>k.block b hlt fun e=>hn (hb b hlt e)⟩
structure Ja (At:World->Option Addr->Nat->Nat->Nat->Prop):Prop where
 stay:∀ {w w' p n c N},At w p n c N->w.heap.size<=w'.heap.size->(∀q,p=some q->∀o,w'.cell? ⟨q.block,o,none⟩=w.cell? ⟨q.block,o,none⟩)->At w' p n c N
 lt:∀ {w p n c N},At w p n c N->∀q,p=some q->q.block<w.heap.size
theorem Cj:Ja Ag:=⟨fun {w w' p n c N} h hz hc=>by
 obtain⟨ws,r1,r2,r3,r4⟩:=h.ex;refine⟨ws,⟨r1.len,r1.cap,r1.max,?_⟩,r2,r3,r4⟩;rcases r1.at_ with k|⟨b,off,k1,k2,k3⟩
 .exact .inl k
 .exact .inr ⟨b,off,k1,Da k2 hz,fun i x hx=>by rw[hc _ k1];exact k3 i x hx⟩,fun {w p n c N} h q hq=>by
 obtain⟨ws,r1,_⟩:=h.ex;rcases r1.at_ with k|⟨b,off,k1,k2,k3⟩
 .rw[k.1]at hq;cases hq
 .rw[k1]at hq;cases hq;exact k2⟩
theorem Ja.firm {At:World->Option Addr->Nat->Nat->Nat->Prop}(S:Ja At){w:World}{p:Option Addr}{n c N:Nat}(h:At w p n c N){bad:Nat->Prop}(hb:∀q,p=some q->¬bad q.block):Gk (fun w=>At w p n c N) bad w :=
 fun _ k=>S.stay h k.size fun q hq o=>World.cell?_of_block (a:=⟨q.block,o,none⟩) (k.block q.block (S.lt h q hq) (hb q hq))
theorem Ja.fresh {At:World->Option Addr->Nat->Nat->Nat->Prop}(S:Ja At){w:World}{p:Option Addr}{n c N B:Nat}(h:At w p n c N)(hn:Gw B p){bad:Nat->Prop}(hb:∀b,bad b->b<B):Gk (fun w=>At w p n c N) bad w :=
 S.firm h fun q hq e=>by have:=hb _ e;have:=hn q hq;omega
structure Fn (At:World->Option Addr->Nat->Nat->Nat->Prop) (e:TypeId) (B:Nat) (bad:Nat->Prop) (w:World) (v:Value) (Ns:List Nat):Prop where
 ex:∃vs:List Value,w.ownsRow B e 1 v Ns.length vs/\vs.length=Ns.length/\∀(i N:Nat),Ns[i]? = some N->∃x:Option Addr×Nat×Nat,vs[i]? = some (.slice x.1 x.2.1 x.2.2)/\Gk (fun w=>At w x.1 x.2.1 x.2.2 N) bad w
section
variable {At:World->Option Addr->Nat->Nat->Nat->Prop} {e:TypeId} {B:Nat} {bad:Nat->Prop} {w:World} {v:Value} {Ns:List Nat}
theorem Fn.nil:Fn At e B bad w (.slice none 0 0) []:=⟨[],World.ownsRow_nil w B e 1,rfl,fun i N h=>by simp at h⟩
theorem Jh {w':World}{n size:Nat}{us:List Value}(h:w.ownsRow B e size v n us)(hk:∀g,v.ownBlock=some g->w'.heap[g]? = w.heap[g]?):w'.ownsRow B e size v n us:=by
 refine⟨h.1,?_⟩;rcases h.2 with h4|⟨g,cap,cur,e',hbg,hg,h5⟩
 .exact .inl h4
 .exact .inr ⟨g,cap,cur,e',hbg,by rw[hk g (by rw[e'];rfl)];exact hg,h5⟩
theorem Hx {n size:Nat}{us:List Value}(h:w.ownsRow B e size v n us):∀g,v.ownBlock=some g->B<=g/\g<w.heap.size:=by
 intro g hg;rcases h.2 with ⟨rfl,_⟩|⟨g',cap,cur,rfl,hbg,hg',_⟩
 .cases hg
 .obtain rfl:g'=g:=by simpa [Value.ownBlock]using hg
  exact⟨hbg,(Gs hg').1⟩
theorem Fn.block (h:Fn At e B bad w v Ns):∀g,v.ownBlock=some g->B<=g/\g<w.heap.size:=by obtain⟨_,h1,_⟩:=h.ex;exact Hx h1
theorem Fn.step {w':World}(h:Fn At e B bad w v Ns)(a:Agree bad w w')(hk:∀g,v.ownBlock=some g->w'.heap[g]? = w.heap[g]?):Fn At e B bad w' v Ns:=by
 obtain⟨vs,h1,h2,h3⟩:=h.ex;refine⟨vs,Jh h1 hk,h2,fun i N hN=>?_⟩;obtain⟨x,k1,k2⟩:=h3 i N hN;exact⟨x,k1,k2.step a⟩
theorem Fn.below {w':World}(h:Fn At e B bad w v Ns)(hb:Below w.heap.size w w'):Fn At e B bad w' v Ns:=h.step (.of hb) fun g hg=>hb.block g (h.block g hg).2
theorem Fn.more {bad':Nat->Prop}(h:Fn At e B bad w v Ns)(hb:∀b,b<w.heap.size->bad' b->bad b):Fn At e B bad' w v Ns:=by
 obtain⟨vs,h1,h2,h3⟩:=h.ex;refine⟨vs,h1,h2,fun i N hN=>?_⟩;obtain⟨x,k1,k2⟩:=h3 i N hN;exact⟨x,k1,k2.more hb⟩
theorem Fn.app {st:TypeId}{bytes:Nat}{i:TypeInfo}(hu:Tryz.prog.underlying st=some (.slice e))(hi:Tryz.prog.info? e=some i){z:Value}(hz:i.zero=some z)(hs:i.size=1)(hb:i.bytes=bytes)(hzs:z.cells.size=1)(hby:bytes<=1000)(h:Fn At e B bad w v Ns)(hB:B<=w.heap.size){a:Addr}{c N:Nat}{x:Option Addr×Nat×Nat}(hc:w.cell? a=some (.slice x.1 x.2.1 x.2.2))(hN:Gk (fun w=>At w x.1 x.2.1 x.2.2 N) bad w)(hv:∀g,v.ownBlock=some g->bad g)(hl:Ns.length<=1000000)(ty:TypeId) :
  ∃v' w',(Builtin.append_ #[st,st] ty #[v,.slice (some a) 1 c]).run Tryz.prog w=.ok v' w'/\Fn At e B bad w' v' (Ns++[N])/\w.grownBy w' v.ownBlock/\Po w v v':=by
 obtain⟨vs,h1,h2,h3⟩:=h.ex;have ha0:a.add 0=a:=by obtain⟨b,o,s⟩:=a;simp[Addr.add]
 obtain⟨v',w',k1,k2,k3,k4⟩:=Ry hu hi hz hs hb hzs (by decide) h1 (a:=a) (m:=1) (c:=c) (news:=[.slice x.1 x.2.1 x.2.2]) rfl
  (fun j u hj=>by
   cases j with
   | zero=>simp at hj;subst hj;rw[ha0];exact hc
   | succ j=>simp at hj)
  (fun u hj=>by simp at hj;subst hj;rfl) (by simp only[maxLen];omega) (Er (Nat.mul_le_mul (Nat.add_le_add_right hl 1) hby) (by decide)) hB ty
 have ag:Agree bad w w':=.grown k3 hv;refine⟨v',w',k1,⟨vs++[.slice x.1 x.2.1 x.2.2],by rw[List.length_append];exact k2,by simp[h2],fun j M hM=>?_⟩,k3,k4⟩;rcases Nat.lt_or_ge j Ns.length with hj|hj
 .rw[List.getElem?_append_left hj]at hM
  obtain⟨y,g1,g2⟩:=h3 j M hM;exact⟨y,by rw[List.getElem?_append_left (by omega)];exact g1,g2.step ag⟩
 .rw[List.getElem?_append_right hj]at hM
  obtain⟨t,ht⟩:∃t,j-Ns.length=t:=⟨_,rfl⟩
  rw[ht]at hM
  cases t with
  | zero=>
   simp at hM;subst hM;exact⟨x,by rw[List.getElem?_append_right (by omega),h2,ht];rfl,hN.step ag⟩
  | succ t=>simp at hM
theorem Fn.elim (h:Fn At e B bad w v Ns):∃p c,v=.slice p Ns.length c/\Ns.length<=c/\c<=9223372036854775807/\(p=none->c=0) /\
  (0<Ns.length->∃b off,p=some ⟨b,off,none⟩/\b<w.heap.size/\∀(i N:Nat),Ns[i]? = some N->∃q m d,w.cell? ⟨b,off+i,none⟩=some (.slice q m d)/\At w q m d N):=by
 obtain⟨vs,h1,h2,h3⟩:=h.ex;rcases h1.2 with ⟨rfl,h0⟩|⟨g,cap,cur,rfl,hb,hg,hnc,hcm,hcs,ht⟩
 .exact⟨none,0,by rw[h0],by omega,by omega,fun _=>rfl,fun h=>by omega⟩
 .have hlt:g<w.heap.size:=(Gs hg).1;refine⟨some ⟨g,0,none⟩,cap,rfl,hnc,by simpa [maxLen]using hcm,(fun h=>by cases h),fun _=>⟨g,0,rfl,hlt,fun i N hN=>?_⟩⟩;obtain⟨x,h4,h5⟩:=h3 i N hN;refine⟨x.1,x.2.1,x.2.2,?_,h5.out⟩;have hi:i<Ns.length:=(List.getElem?_eq_some_iff.1 hN).1;have h6:(cur.toList.take (Ns.length*1))[i]? = some (.slice x.1 x.2.1 x.2.2):=by rw[ht];exact h4
  rw[List.getElem?_take,if_pos (by omega)]at h6
  unfold World.cell?
  dsimp only
  rw[hg];simp only[Nat.zero_add];rw[Array.getElem?_toList]at h6
  exact h6
end
theorem Fn.plist {t:TypeId}{B e:Nat}{bad:Nat->Prop}{w:World}{v:Value}{Ns:List Nat}(h:Fn Ag t B bad w v Ns)(hl:∀N∈Ns,N<An e):∃p c,v=.slice p Ns.length c/\Aq w e p Ns.length c Ns:=by
 obtain⟨p,c,h1,h2,h3,h4,h5⟩:=h.elim;refine⟨p,c,h1,rfl,h2,h3,h4,fun h0=>?_⟩;obtain⟨b,off,g1,g2,g3⟩:=h5 h0;exact⟨b,off,g1,g2,fun i N hN=>let ⟨q,m,d,k1,k2⟩:=g3 i N hN;⟨q,m,d,k1,k2,hl N (List.mem_of_getElem? hN)⟩⟩
end Go.Proofs.YtokhckjemidbpaaGreatDoor
