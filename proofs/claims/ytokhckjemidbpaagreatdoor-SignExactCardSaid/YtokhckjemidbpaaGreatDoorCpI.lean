/- Whether a step has too long a number, of the program; a function that is handed to the library, over steps. -/
import Derived.Test.YtokhckjemidbpaaGreatDoorCpE
import Derived.Laws.OwnMore
import Derived.ArgAppend
import Derived.Laws.CopyOwn
set_option maxRecDepth 1000000
set_option maxHeartbeats 16000000
set_option linter.all false
namespace Go.Proofs.YtokhckjemidbpaaGreatDoor
open Go Go.RowKit Go.Proofs.YtokhckjemidbpaaGreatDoor.Flow
def mV (w:World)(v v':Value):Prop:=v'.ownBlock=v.ownBlock ∨ ∀g,v'.ownBlock=some g->w.heap.size<=g
theorem jU {w:World}{B n size bytes:Nat}{st e:TypeId}{i:TypeInfo}{z:Value}(hu:Tryz.prog.underlying st=some (.slice e))(hi:Tryz.prog.info? e=some i)(hz:i.zero=some z)(hs:i.size=size)(hb:i.bytes=bytes)(hzs:z.cells.size=size)(h0:0<size){v:Value}{us:List Value}(h:w.ownsRow B e size v n us){a:Addr}{m c:Nat}{news:List Value}(hl:news.length=m*size)(hcell:∀j u,news[j]? = some u->w.cell? (a.add j)=some u)(hone:∀u∈news,u.oneCell'=true)(hmax:n+m<=maxLen)(hbytes:(n+m)*bytes<=140737488355328)(hB:B<=w.heap.size)(ty:TypeId) :
  ∃v' w',(Builtin.append_ #[st,st] ty #[v,.slice (some a) m c]).run Tryz.prog w=.ok v' w'/\w'.ownsRow B e size v' (n+m) (us++news)/\w.grownBy w' v.ownBlock/\mV w v v':=by
 obtain⟨v',w',h1,h2,h3,_⟩:=run_append_own (P:=Tryz.prog) w B st ty e i z size bytes hu hi hz hs hb hzs h0 v n us h a m c news hl hcell hone hmax hbytes hB;refine⟨v',w',h1,h2,h3,?_⟩;rcases h.2 with ⟨rfl,hn0⟩|⟨g,cap,cur,rfl,hbg,hg,hnc,hcm,hcs,ht⟩
 .obtain⟨v2,w2,k1,k2,_,_⟩:=run_append_own (P:=Tryz.prog) w w.heap.size st ty e i z size bytes hu hi hz hs hb hzs h0 (.slice none 0 0) 0 [] (World.ownsRow_nil w _ _ _) a m c news hl hcell hone (by omega) (Dn (Nat.mul_le_mul_right _ (by omega)) hbytes) (As _);rw[h1]at k1
  injection k1 with k3 k4
  subst k3;refine .inr fun g hg=>?_
  rcases k2.2 with ⟨e',_⟩|⟨g',cap,cur,e',hb',_⟩
  .rw[e']at hg;cases hg
  .rw[e']at hg
   obtain rfl:g'=g:=by simpa [Value.ownBlock]using hg
   exact hb'
 .by_cases hroom:n+m<=cap
  .have hfit:n*i.size+news.length<=cur.size:=by rw[hs,hcs,hl,<-Nat.add_mul];exact Nat.mul_le_mul_right _ hroom
   have k1:=run_append_room (P:=Tryz.prog) w st ty e i hu hi g n cap cur hg a m c news (by rw[hs];exact hl) hcell hone hroom hfit;rw[h1]at k1
   injection k1 with k2 _
   exact .inl (by rw[k2];rfl)
  .obtain⟨v2,w2,k1,k2,_⟩:=run_append_arg_grows (P:=Tryz.prog) w st ty e i z size bytes hu hi hz hs hb hzs h0 ⟨g,0,none⟩ n cap us h.1
    (fun j u hj=>World.ownsRow.cells h rfl j u hj) a m c news hl hcell (by omega) hmax hbytes
   rw[h1]at k1
   injection k1 with k3 k4
   subst k3;refine .inr fun g hg=>?_
   rcases k2.2 with ⟨e',_⟩|⟨g',cap,cur,e',hb',_⟩
   .rw[e']at hg;cases hg
   .rw[e']at hg
    obtain rfl:g'=g:=by simpa [Value.ownBlock]using hg
    exact hb'
structure Agree (bad:Nat->Prop) (w w':World):Prop where
 size:w.heap.size<=w'.heap.size
 block:∀b,b<w.heap.size->¬bad b->w'.heap[b]? = w.heap[b]?
theorem Agree.trans {bad:Nat->Prop}{a b c:World}(h:Agree bad a b)(k:Agree bad b c):Agree bad a c :=
 ⟨Dn h.size k.size,fun x hx hn=>by rw[k.block x (Ej hx h.size) hn,h.block x hx hn]⟩
theorem Agree.of {bad:Nat->Prop}{w w':World}(h:Below w.heap.size w w'):Agree bad w w':=⟨h.size,fun b hb _=>h.block b hb⟩
theorem Agree.grown {bad:Nat->Prop}{w w':World}{row:Option Nat}(h:w.grownBy w' row)(hr:∀g,row=some g->bad g):Agree bad w w' :=
 ⟨h.size,fun b hb hn=>h.block b hb fun e=>hn (hr b e.symm)⟩
theorem Agree.set {bad:Nat->Prop}(w:World)(g o:Nat)(u:Value)(hg:bad g):Agree bad w (w.setCell ⟨g,o,none⟩ u) :=
 ⟨by simp,fun b _ hn=>Below.heap_setCell _ _ _ _ fun e=>hn (by rw[show b=g from e];exact hg)⟩
def Pw (F:World->Prop)(bad:Nat->Prop)(w:World):Prop:=∀w',Agree bad w w'->F w'
theorem Pw.out {F:World->Prop}{bad:Nat->Prop}{w:World}(h:Pw F bad w):F w:=h w ⟨As _,fun _ _ _=>rfl⟩
theorem Pw.step {F:World->Prop}{bad:Nat->Prop}{w w':World}(h:Pw F bad w)(a:Agree bad w w'):Pw F bad w':=fun w2 k=>h w2 (a.trans k)
structure Kt (At:World->Option Addr->Nat->Nat->Nat->Prop):Prop where
 stay:∀ {w w' p n c N},At w p n c N->w.heap.size<=w'.heap.size->(∀q,p=some q->∀o,w'.cell? ⟨q.block,o,none⟩=w.cell? ⟨q.block,o,none⟩)->At w' p n c N
 lt:∀ {w p n c N},At w p n c N->∀q,p=some q->q.block<w.heap.size
theorem Hj:Kt Aj:=⟨fun {w w' p n c N} h hz hc=>by
 obtain⟨ws,r1,r2,r3,r4⟩:=h.ex;refine⟨ws,⟨r1.len,r1.cap,r1.max,?_⟩,r2,r3,r4⟩;rcases r1.at_ with k|⟨b,off,k1,k2,k3⟩
 .exact .inl k
 .exact .inr ⟨b,off,k1,Ej k2 hz,fun i x hx=>by rw[hc _ k1];exact k3 i x hx⟩,fun {w p n c N} h q hq=>by
 obtain⟨ws,r1,_⟩:=h.ex;rcases r1.at_ with k|⟨b,off,k1,k2,k3⟩
 .rw[k.1]at hq;cases hq
 .rw[k1]at hq;cases hq;exact k2⟩
theorem Kt.firm {At:World->Option Addr->Nat->Nat->Nat->Prop}(S:Kt At){w:World}{p:Option Addr}{n c N:Nat}(h:At w p n c N){bad:Nat->Prop}(hb:∀q,p=some q->¬bad q.block):Pw (fun w=>At w p n c N) bad w :=
 fun _ k=>S.stay h k.size fun q hq o=>World.cell?_of_block (a:=⟨q.block,o,none⟩) (k.block q.block (S.lt h q hq) (hb q hq))
theorem Kt.fresh {At:World->Option Addr->Nat->Nat->Nat->Prop}(S:Kt At){w:World}{p:Option Addr}{n c N B:Nat}(h:At w p n c N)(hn:Gd B p){bad:Nat->Prop}(hb:∀b,bad b->b<B):Pw (fun w=>At w p n c N) bad w :=
 S.firm h fun q hq e=>by have:=hb _ e;have:=hn q hq;omega
structure Lp (At:World->Option Addr->Nat->Nat->Nat->Prop) (e:TypeId) (B:Nat) (bad:Nat->Prop) (w:World) (v:Value) (Ns:List Nat):Prop where
 ex:∃vs:List Value,w.ownsRow B e 1 v Ns.length vs/\vs.length=Ns.length/\∀(i N:Nat),Ns[i]? = some N->∃x:Option Addr×Nat×Nat,vs[i]? = some (.slice x.1 x.2.1 x.2.2)/\Pw (fun w=>At w x.1 x.2.1 x.2.2 N) bad w
section
variable {At:World->Option Addr->Nat->Nat->Nat->Prop} {e:TypeId} {B:Nat} {bad:Nat->Prop} {w:World} {v:Value} {Ns:List Nat}
theorem Xl {w':World}{n size:Nat}{us:List Value}(h:w.ownsRow B e size v n us)(hk:∀g,v.ownBlock=some g->w'.heap[g]? = w.heap[g]?):w'.ownsRow B e size v n us:=by
 refine⟨h.1,?_⟩;rcases h.2 with h4|⟨g,cap,cur,e',hbg,hg,h5⟩
 .exact .inl h4
 .exact .inr ⟨g,cap,cur,e',hbg,by rw[hk g (by rw[e'];rfl)];exact hg,h5⟩
theorem Uy {n size:Nat}{us:List Value}(h:w.ownsRow B e size v n us):∀g,v.ownBlock=some g->B<=g/\g<w.heap.size:=by
 intro g hg;rcases h.2 with ⟨rfl,_⟩|⟨g',cap,cur,rfl,hbg,hg',_⟩
 .cases hg
 .obtain rfl:g'=g:=by simpa [Value.ownBlock]using hg
  exact⟨hbg,(Kv hg').1⟩
theorem Lp.block (h:Lp At e B bad w v Ns):∀g,v.ownBlock=some g->B<=g/\g<w.heap.size:=by obtain⟨_,h1,_⟩:=h.ex;exact Uy h1
theorem Lp.step {w':World}(h:Lp At e B bad w v Ns)(a:Agree bad w w')(hk:∀g,v.ownBlock=some g->w'.heap[g]? = w.heap[g]?):Lp At e B bad w' v Ns:=by
 obtain⟨vs,h1,h2,h3⟩:=h.ex;refine⟨vs,Xl h1 hk,h2,fun i N hN=>?_⟩;obtain⟨x,k1,k2⟩:=h3 i N hN;exact⟨x,k1,k2.step a⟩
theorem Lp.below {w':World}(h:Lp At e B bad w v Ns)(hb:Below w.heap.size w w'):Lp At e B bad w' v Ns:=h.step (.of hb) fun g hg=>hb.block g (h.block g hg).2
theorem Lp.app {st:TypeId}{bytes:Nat}{i:TypeInfo}(hu:Tryz.prog.underlying st=some (.slice e))(hi:Tryz.prog.info? e=some i){z:Value}(hz:i.zero=some z)(hs:i.size=1)(hb:i.bytes=bytes)(hzs:z.cells.size=1)(hby:bytes<=1000)(h:Lp At e B bad w v Ns)(hB:B<=w.heap.size){a:Addr}{c N:Nat}{x:Option Addr×Nat×Nat}(hc:w.cell? a=some (.slice x.1 x.2.1 x.2.2))(hN:Pw (fun w=>At w x.1 x.2.1 x.2.2 N) bad w)(hv:∀g,v.ownBlock=some g->bad g)(hl:Ns.length<=1000000)(ty:TypeId) :
  ∃v' w',(Builtin.append_ #[st,st] ty #[v,.slice (some a) 1 c]).run Tryz.prog w=.ok v' w'/\Lp At e B bad w' v' (Ns++[N])/\w.grownBy w' v.ownBlock/\mV w v v':=by
 obtain⟨vs,h1,h2,h3⟩:=h.ex;have ha0:a.add 0=a:=by obtain⟨b,o,s⟩:=a;simp[Addr.add]
 obtain⟨v',w',k1,k2,k3,k4⟩:=jU hu hi hz hs hb hzs (by decide) h1 (a:=a) (m:=1) (c:=c) (news:=[.slice x.1 x.2.1 x.2.2]) rfl
  (fun j u hj=>by
   cases j with
   | zero=>simp at hj;subst hj;rw[ha0];exact hc
   | succ j=>simp at hj)
  (fun u hj=>by simp at hj;subst hj;rfl) (by simp only[maxLen];omega) (Dn (Nat.mul_le_mul (Nat.add_le_add_right hl 1) hby) (by decide)) hB ty
 have ag:Agree bad w w':=.grown k3 hv;refine⟨v',w',k1,⟨vs++[.slice x.1 x.2.1 x.2.2],by rw[List.length_append];exact k2,by simp[h2],fun j M hM=>?_⟩,k3,k4⟩;rcases Nat.lt_or_ge j Ns.length with hj|hj
 .rw[List.getElem?_append_left hj]at hM
  obtain⟨y,g1,g2⟩:=h3 j M hM;exact⟨y,by rw[List.getElem?_append_left (by omega)];exact g1,g2.step ag⟩
 .rw[List.getElem?_append_right hj]at hM
  obtain⟨t,ht⟩:∃t,j-Ns.length=t:=⟨_,rfl⟩
  rw[ht]at hM
  cases t with
  | zero=>
   simp at hM;subst hM;exact⟨x,by rw[List.getElem?_append_right (by omega),h2,ht];rfl,hN.step ag⟩
  | succ t=>simp at hM
theorem Lp.elim (h:Lp At e B bad w v Ns):∃p c,v=.slice p Ns.length c/\Ns.length<=c/\c<=9223372036854775807/\(p=none->c=0) /\
  (0<Ns.length->∃b off,p=some ⟨b,off,none⟩/\b<w.heap.size/\∀(i N:Nat),Ns[i]? = some N->∃q m d,w.cell? ⟨b,off+i,none⟩=some (.slice q m d)/\At w q m d N):=by
 obtain⟨vs,h1,h2,h3⟩:=h.ex;rcases h1.2 with ⟨rfl,h0⟩|⟨g,cap,cur,rfl,hb,hg,hnc,hcm,hcs,ht⟩
 .exact⟨none,0,by rw[h0],by omega,by omega,fun _=>rfl,fun h=>by omega⟩
 .have hlt:g<w.heap.size:=(Kv hg).1;refine⟨some ⟨g,0,none⟩,cap,rfl,hnc,by simpa [maxLen]using hcm,(fun h=>by cases h),fun _=>⟨g,0,rfl,hlt,fun i N hN=>?_⟩⟩;obtain⟨x,h4,h5⟩:=h3 i N hN;refine⟨x.1,x.2.1,x.2.2,?_,h5.out⟩;have hi:i<Ns.length:=(List.getElem?_eq_some_iff.1 hN).1;have h6:(cur.toList.take (Ns.length*1))[i]? = some (.slice x.1 x.2.1 x.2.2):=by rw[ht];exact h4
  rw[List.getElem?_take,if_pos (by omega)]at h6
  unfold World.cell?
  dsimp only
  rw[hg];simp only[Nat.zero_add];rw[Array.getElem?_toList]at h6
  exact h6
end
theorem Lp.plist {t:TypeId}{B e:Nat}{bad:Nat->Prop}{w:World}{v:Value}{Ns:List Nat}(h:Lp Aj t B bad w v Ns)(hl:∀N∈Ns,N<Ar e):∃p c,v=.slice p Ns.length c/\Cp w e p Ns.length c Ns:=by
 obtain⟨p,c,h1,h2,h3,h4,h5⟩:=h.elim;refine⟨p,c,h1,rfl,h2,h3,h4,fun h0=>?_⟩;obtain⟨b,off,g1,g2,g3⟩:=h5 h0;exact⟨b,off,g1,g2,fun i N hN=>let ⟨q,m,d,k1,k2⟩:=g3 i N hN;⟨q,m,d,k1,k2,hl N (List.mem_of_getElem? hN)⟩⟩
structure Asks (g:Nat) (lb:Array Value) (w:World) (e:Nat) (Ns:List Nat) (p:Nat->Bool):Prop where
 out:∀(W:World) (N:Nat) (v:Value),Below w.heap.size w W->N∈Ns->Fit e N v W->Calls Tryz.prog g (#[v]++lb) W fun en w'=>en=.returned (.bool (p N))/\Below W.heap.size W w'
theorem oZ {Ns:List Nat}{p:Nat->Bool}{k X:Nat}(h:Ns[k]? = some X)(hp:p X=true):Ns.any p=true :=
 List.any_eq_true.2 ⟨X,List.mem_of_getElem? h,hp⟩
theorem mN {Ns:List Nat}{p:Nat->Bool}(h:∀(i X:Nat),Ns[i]? = some X->p X=false):Ns.any p=false:=by
 rw[List.any_eq_false];intro x hx;obtain⟨i,hi⟩:=List.getElem?_of_mem hx;rw[h i x hi];exact Bool.false_ne_true
theorem Zo (w:World)(e:Nat)(p0:Option Addr)(n c:Nat)(Ns:List Nat)(g:Nat)(lb:Array Value)(eg:∀args w,(callFunc g args).run Tryz.prog w=.ok (.enter g args) w)(p:Nat->Bool)(h:Cp w e p0 n c Ns)(hp:Asks g lb w e Ns p) :
  Calls Tryz.prog 214 #[.slice p0 n c,.func (.func g) #[] lb] w fun en w'=>∃K:Int,en=.returned (.int .i64 K)/\decide (0<=K)=Ns.any p/\Below w.heap.size w w':=by
 have HH:=Ab h;have hn:=h.len;have hmax:n<=9223372036854775807:=Dn h.cap h.max;have HLN:=Ab hn;clear h hn;go_enter Tryz.func214,Tryz.ntmps214;go_wp2
 go_loopw [5,8] (fun _ iv wr=>∃k:Nat,k<=n/\iv=.int .i64 k/\Aa (∀i X,i<k->Ns[i]? = some X->p X=false)/\Aa (Below w.heap.size w wr)) (fun _ iv _=>n-(intOf iv).toNat)
 case atStart=>exact⟨0,by omega,rfl,⟨fun i X h=>by omega⟩,⟨Bb _ _⟩⟩
 case round=>
  obtain⟨k,hk,rfl,HJ,HB⟩:=hrel
  by_cases hkn:k<n
  .obtain⟨X,hXk⟩:∃X,Ns[k]? = some X:=⟨Ns[k]'(by rw[<-HLN.out];exact hkn),List.getElem?_eq_getElem _⟩
   obtain⟨b,off,rfl,hb,hc⟩:=(HH.out.below HB.out).at_ (by omega)
   obtain⟨q,m,d,hx,hnx,hlim⟩:=hc k X hXk;have HC:=Ab (hp.out wr X _ HB.out (List.mem_of_getElem? hXk) (Fit.of hnx hlim));have HX:=Ab hXk;have hkn':(k:Int)<n:=by omega
   clear hc hnx hlim hXk hp;obtain⟨P,hP⟩:∃P,p X=P:=⟨_,rfl⟩
   rw[hP]at HC
   have HP:=Ab hP;clear hP
   cases P with
   | true=>
    go_wp2_with (go_at_fn g;refine HC.out.mono ?_;rintro en w1 ⟨rfl,hb1⟩)
    go_ret;exact⟨_,rfl,by rw[oZ HX.out HP.out];exact decide_eq_true (by omega),Ae HB.out hb1⟩
   | false=>
    have HJ':Aa (∀i Y,i<k+1->Ns[i]? = some Y->p Y=false):=⟨fun i Y hi hY=>by
     rcases(by omega:i<k ∨ i=k) with h|rfl
     .exact HJ.out i Y h hY
     .have:=HX.out;rw[hY]at this
      cases this;exact HP.out⟩
    go_wp2_with (go_at_fn g;refine HC.out.mono ?_;rintro en w1 ⟨rfl,hb1⟩)
    go_roundw
    case rel=>exact⟨k+1,by omega,by go_num,HJ',⟨Ae HB.out hb1⟩⟩
    case measure=>simp[intOf];omega
  .obtain rfl:k=n:=by omega
   have hkn':¬(k:Int)<k:=by omega
   go_wp2;go_ret;refine⟨_,rfl,?_,HB.out⟩;rw[mN fun i X hX=>HJ.out i X (by rw[HLN.out];exact(List.getElem?_eq_some_iff.1 hX).1) hX];rfl
theorem Oi (w:World)(e:Nat)(p0:Option Addr)(n c:Nat)(Ns:List Nat)(g:Nat)(lb:Array Value)(eg:∀args w,(callFunc g args).run Tryz.prog w=.ok (.enter g args) w)(p:Nat->Bool)(h:Cp w e p0 n c Ns)(hp:Asks g lb w e Ns p) :
  Calls Tryz.prog 177 #[.slice p0 n c,.func (.func g) #[] lb] w fun en w'=>en=.returned (.bool (Ns.any p))/\Below w.heap.size w w':=by
 go_enter Tryz.func177,Tryz.ntmps177
 go_wp2_with fail
 refine(Zo w e p0 n c Ns g lb eg p h hp).mono ?_;rintro en w1 ⟨K,rfl,hK,hb⟩;have HB:=Ab hb;have HK:=Ab hK;clear hK hb;go_wp2;go_ret;exact⟨by rw[<-HK.out];rfl,HB.out⟩
theorem bY (w:World)(e:Nat)(Ns:List Nat)(b q:Nat)(v:Value)(N:Nat)(hb:b<w.heap.size)(hc:w.cell? ⟨b,0,none⟩=some v)(hv:Fit e N (.agg #[v]) w)(he:e<=900000) :
  Asks 263 #[.pointer (some ⟨b,0,none⟩)] w e Ns (fun M=>decide (M=N)):=by
 refine⟨fun W M u hbw _ hu=>?_⟩;have hc':W.cell? ⟨b,0,none⟩=some v:=(hbw.cell (p:=⟨b,0,none⟩) hb).trans hc;have hv':=hv.below hbw;obtain⟨pu,nu,cu,rfl,hu1,hu2⟩:=hu;have hbx:=Ef.mk1 W (.slice pu nu cu) 37;have hbW:b<W.heap.size:=Ej hb hbw.size;have hc2:(W.alloc (.cells #[.slice pu nu cu] 37)).cell? ⟨b,0,none⟩=some v:=(hbx.bel.cell (p:=⟨b,0,none⟩) hbW).trans hc';have HA:=Ab ((Fit.of hu1 hu2).below hbx.bel);have HV:=Ab (hv'.below hbx.bel);have HBX:=Ab hbx.bel;obtain⟨pv,nv,cv,hev,_,_⟩:=hv;cases hev;clear hu1 hu2 hbx hv' hc' hc;go_enter Tryz.func263,Tryz.ntmps263
 go_wp2_with fail
 refine(Sg HA.out HV.out he he).mono ?_;rintro en w1 ⟨_,rfl,rfl,hb1⟩;have HB1:=Ab (Ae HBX.out hb1);have e0:((Bo M N:Int)==0)=decide (M=N):=by
  by_cases hnm:M=N
  .simp[hnm,Ce.2]
  .have:Bo M N≠0:=fun h0=>hnm (Ce.1 h0)
   simp[hnm,this]
 have HE:=Ab e0;clear e0 hb1 hc2;generalize Bo M N=K at *;go_wp2;go_ret;exact⟨by rw[<-HE.out];rfl,HB1.out⟩
open Classical in
theorem Ms (w:World)(e:Nat)(p0:Option Addr)(n c:Nat)(Ns:List Nat)(v:Value)(N:Nat)(h:Cp w e p0 n c Ns)(hv:Fit e N v w)(he:e<=900000) :
  Calls Tryz.prog 249 #[.slice p0 n c,v] w fun en w'=>en=.returned (.bool (decide (N∈Ns)))/\Below w.heap.size w w':=by
 obtain⟨pu,nu,cu,rfl,hu1,hu2⟩:=hv;have hbx:=Ef.mk1 w (.slice pu nu cu) 37;have HP:=Ab (h.below hbx.bel);have HA:=Ab (bY (w.alloc (.cells #[.slice pu nu cu] 37)) e Ns w.heap.size 0 (.slice pu nu cu) N (by simp) hbx.c0 ((Fit.of hu1 hu2).below hbx.bel) he);have HBX:=Ab hbx.bel;have HANS:Aa (Ns.any (fun M=>decide (M=N))=decide (N∈Ns)):=⟨by
  by_cases hm:N∈Ns
  .rw[decide_eq_true hm,List.any_eq_true];exact⟨N,hm,by simp⟩
  .rw[decide_eq_false hm,List.any_eq_false];intro x hx;have:x≠N:=fun e=>hm (e ▸ hx)
   simp[this]⟩
 clear h hu1 hu2 hbx;go_enter Tryz.func249,Tryz.ntmps249
 go_wp2_with fail
 refine(Oi _ e p0 n c Ns _ _ (enters_of Tryz.func263 (by kernel_rfl) rfl) _ HP.out HA.out).mono ?_;rintro en w1 ⟨rfl,hb1⟩;have HB1:=Ab (Ae HBX.out hb1);clear hb1;rw[HANS.out];go_wp2;go_ret;exact⟨rfl,HB1.out⟩
theorem Tryz.info_Nat:(Tryz.prog.info? 37).map (fun i=>(i.zero,i.size,i.bytes))=some (some (.agg #[.slice none 0 0]),1,24):=by kernel_rfl
structure rA (e:Nat) (s:Bz) (x y z:Option Addr×Nat×Nat) (w:World):Prop where
 n:Aj w x.1 x.2.1 x.2.2 s.n
 base:Aj w y.1 y.2.1 y.2.2 s.base
 ps:Cp w e z.1 z.2.1 z.2.2 s.ps
abbrev trip (x y z:Option Addr×Nat×Nat):Value:=.agg #[.slice x.1 x.2.1 x.2.2,.slice y.1 y.2.1 y.2.2,.slice z.1 z.2.1 z.2.2]
section
variable {F:Bz->Option Addr×Nat×Nat->Option Addr×Nat×Nat->Option Addr×Nat×Nat->World->Prop} {e:TypeId} {B:Nat} {bad:Nat->Prop} {w:World} {v:Value} {l:List Bz}
end
theorem Hh {α:Type}{l:List α}{k:Nat}{N:α}(h:l[k]? = some N):l.take (k+1)=l.take k++[N]:=by
 obtain⟨hi,e⟩:=List.getElem?_eq_some_iff.1 h;rw[List.take_succ_eq_append_getElem hi,e]
theorem Mg {w:World}{v:Value}{e N:Nat}(h:Fit e N v w)(he:e<=900000) :
  Calls Tryz.prog 237 #[v] w fun en w'=>en=.returned (.bool (decide (1024<Ao N)))/\Below w.heap.size w w':=by
 obtain⟨p,n,c,rfl,h1,h2⟩:=h;have hn:n<1000000:=by have:=h1.len_le h2;omega
 have hbx:=Ef.mk1 w (.slice p n c) 37;have H1:=Ab (h1.below hbx.bel);have HBX:=Ab hbx.bel;clear h1 h2 hbx;go_enter Tryz.func237,Tryz.ntmps237
 go_wp2_with fail
 refine(Fj _ p n c N H1.out hn).mono ?_;rintro en w1 ⟨rfl,hb1⟩;have HB1:=Ab (Ae HBX.out hb1);clear hb1;obtain⟨L,hL⟩:∃L,Ao N=L:=⟨_,rfl⟩
 rw[hL];have HL:=Ab hL;clear hL
 by_cases hl:1024<L
 .have HD:Aa (decide (1024<L)=true):=⟨decide_eq_true hl⟩
  have hl':(1024:Int)<L:=by omega
  clear hl;go_wp2;go_ret;exact⟨by rw[HL.out,HD.out];rfl,HB1.out⟩
 .have HD:Aa (decide (1024<L)=false):=⟨decide_eq_false hl⟩
  have hl':¬(1024:Int)<L:=by omega
  clear hl;go_wp2;go_ret;exact⟨by rw[HL.out,HD.out,<-(decide_eq_false (by have:=of_decide_eq_false HD.out;omega):decide ((1024:Int)<(L:Nat))=false)];rfl,HB1.out⟩
theorem gL (w:World)(e:Nat)(Ns:List Nat)(he:e<=900000):Asks 237 #[] w e Ns (fun p=>decide (1024<Ao p)):=by
 refine⟨fun W M u _ _ hu=>?_⟩;rw[Array.append_empty];exact Mg hu he
structure eT (e:Nat) (s:Bz) (v:Value) (w:World):Prop where
 ex:∃q0 m0 d0 q1 m1 d1 q2 m2 d2,v=.agg #[.slice q0 m0 d0,.slice q1 m1 d1,.slice q2 m2 d2]/\Aj w q0 m0 d0 s.n/\s.n<Ar e/\Aj w q1 m1 d1 s.base/\s.base<Ar e/\Cp w e q2 m2 d2 s.ps
open Classical in
theorem cU {w:World}{v:Value}{e:Nat}{s:Bz}(h:eT e s v w)(he:e<=900000) :
  Calls Tryz.prog 217 #[v] w fun en w'=>en=.returned (.bool (decide (Fr s)))/\Below w.heap.size w w':=by
 obtain⟨q0,m0,d0,q1,m1,d1,q2,m2,d2,rfl,h0,l0,h1,l1,h2⟩:=h.ex;have hbx:Below w.heap.size w (w.alloc (.cells #[.slice q0 m0 d0,.slice q1 m1 d1,.slice q2 m2 d2] 189)):=Bx;have HBX3:=Ab (Qx.made 189 w (.slice q0 m0 d0) (.slice q1 m1 d1) (.slice q2 m2 d2));obtain⟨wa,hwa⟩:∃wa,w.alloc (.cells #[.slice q0 m0 d0,.slice q1 m1 d1,.slice q2 m2 d2] 189)=wa:=⟨_,rfl⟩
 rw[hwa]at hbx HBX3
 have HNF:=Ab ((Fit.of h0 l0).below hbx);have HBF:=Ab ((Fit.of h1 l1).below hbx);have HP:=Ab (h2.below hbx);have HX:=Ab hbx;obtain⟨ANS,hANS⟩:∃X,decide (Fr s)=X:=⟨_,rfl⟩
 have HANS:=Ab hANS;rw[hANS];have hca:=HBX3.out.cells.1;clear hANS h h0 l0 h1 l1 h2 hbx;obtain⟨S0,hS0⟩:∃X,decide (1024<Ao s.n)=X:=⟨_,rfl⟩
 have HS0:=Ab hS0;clear hS0;go_enter Tryz.func217,Tryz.ntmps217
 go_wp2_with fail
 refine(Mg HNF.out he).mono ?_;rintro en w1 ⟨rfl,hb1⟩;rw[HS0.out];have HX1:=Ab (HBX3.out.below hb1 HBX3.out.lt);have HB1:=Ab hb1;clear hb1 hca
 cases S0 with
 | true=>
  have HF:Aa (ANS=true):=⟨by rw[<-HANS.out];exact decide_eq_true (.inl (of_decide_eq_true HS0.out))⟩
  have HE:=Ab (Ae HX.out HB1.out);go_wp2;go_ret;exact⟨by rw[HF.out];rfl,HE.out⟩
 | false=>
  obtain⟨S1,hS1⟩:∃X,decide (1024<Ao s.base)=X:=⟨_,rfl⟩
  have HS1:=Ab hS1;have hca:=HX1.out.cells.2.1;clear hS1
  go_wp2_with fail
  refine(Mg (HBF.out.below HB1.out) he).mono ?_;rintro en w2 ⟨rfl,hb2⟩;rw[HS1.out];have HX2:=Ab (HX1.out.below hb2 HX1.out.lt);have HB2:=Ab (Ae HB1.out hb2);clear hb2 hca
  cases S1 with
  | true=>
   have HF:Aa (ANS=true):=⟨by rw[<-HANS.out];exact decide_eq_true (.inr (.inl (of_decide_eq_true HS1.out)))⟩
   have HE:=Ab (Ae HX.out HB2.out);go_wp2;go_ret;exact⟨by rw[HF.out];rfl,HE.out⟩
  | false=>
   obtain⟨S2,hS2⟩:∃X,s.ps.any (fun p=>decide (1024<Ao p))=X:=⟨_,rfl⟩
   have HS2:=Ab hS2;have HF:Aa (ANS=S2):=⟨by
    rw[<-HANS.out,<-hS2];have n0:=of_decide_eq_false HS0.out;have n1:=of_decide_eq_false HS1.out
    by_cases hx:∃p∈s.ps,1024<Ao p
    .obtain⟨p,hp,hl⟩:=hx;rw[decide_eq_true (show Fr s from .inr (.inr ⟨p,hp,hl⟩))];exact(List.any_eq_true.2 ⟨p,hp,decide_eq_true hl⟩).symm
    .have:¬Fr s:=fun ht=>by
      rcases ht with ht|ht|ht
      .exact n0 ht
      .exact n1 ht
      .exact hx ht
     rw[decide_eq_false this];refine Eq.symm ?_;rw[List.any_eq_false];exact fun p hp hc=>hx ⟨p,hp,of_decide_eq_true hc⟩⟩
   have hca:=HX2.out.cells.2.2;clear hS2
   go_wp2_with fail
   refine(Oi _ e q2 m2 d2 s.ps _ _ (enters_of Tryz.func237 (by kernel_rfl) rfl) (fun p=>decide (1024<Ao p)) (HP.out.below HB2.out) (gL _ e s.ps he)).mono ?_;rintro en w3 ⟨rfl,hb3⟩;rw[HS2.out];have HE:=Ab (Ae HX.out (Ae HB2.out hb3));clear hb3 hca;go_wp2;go_ret;exact⟨by rw[HF.out];rfl,HE.out⟩
structure eY (g:Nat) (lb:Array Value) (w:World) (e:Nat) (l:List Bz) (p:Bz->Bool):Prop where
 out:∀(W:World) (s:Bz) (v:Value),Below w.heap.size w W->s∈l->eT e s v W->Calls Tryz.prog g (#[v]++lb) W fun en w'=>en=.returned (.bool (p s))/\Below W.heap.size W w'
theorem mO {l:List Bz}{p:Bz->Bool}{k:Nat}{X:Bz}(h:l[k]? = some X)(hp:p X=true):l.any p=true :=
 List.any_eq_true.2 ⟨X,List.mem_of_getElem? h,hp⟩
theorem iT {l:List Bz}{p:Bz->Bool}(h:∀(i:Nat) (X:Bz),l[i]? = some X->p X=false):l.any p=false:=by
 rw[List.any_eq_false];intro x hx;obtain⟨i,hi⟩:=List.getElem?_of_mem hx;rw[h i x hi];exact Bool.false_ne_true
theorem Zc (w:World)(e:Nat)(p0:Option Addr)(n c:Nat)(l:List Bz)(g:Nat)(lb:Array Value)(eg:∀args w,(callFunc g args).run Tryz.prog w=.ok (.enter g args) w)(p:Bz->Bool)(h:Fv w e p0 n c l)(hp:eY g lb w e l p) :
  Calls Tryz.prog 216 #[.slice p0 n c,.func (.func g) #[] lb] w fun en w'=>∃K:Int,en=.returned (.int .i64 K)/\decide (0<=K)=l.any p/\Below w.heap.size w w':=by
 have HH:=Ab h;have hn:=h.len;have hmax:n<=9223372036854775807:=Dn h.cap h.max;have HLN:=Ab hn;clear h hn;go_enter Tryz.func216,Tryz.ntmps216;go_wp2
 go_loopw [5,8] (fun _ iv wr=>∃k:Nat,k<=n/\iv=.int .i64 k/\Aa (∀i X,i<k->l[i]? = some X->p X=false)/\Aa (Below w.heap.size w wr)) (fun _ iv _=>n-(intOf iv).toNat)
 case atStart=>exact⟨0,by omega,rfl,⟨fun i X h=>by omega⟩,⟨Bb _ _⟩⟩
 case round=>
  obtain⟨k,hk,rfl,HJ,HB⟩:=hrel
  by_cases hkn:k<n
  .obtain⟨X,hXk⟩:∃X,l[k]? = some X:=⟨l[k]'(by rw[<-HLN.out];exact hkn),List.getElem?_eq_getElem _⟩
   obtain⟨b,off,rfl,hb,hc⟩:=(HH.out.below HB.out).at_ (by omega)
   obtain⟨q0,m0,d0,q1,m1,d1,q2,m2,d2,x0,x1,x2,x3⟩:=hc k X hXk;have HC:=Ab (hp.out wr X _ HB.out (List.mem_of_getElem? hXk) ⟨q0,m0,d0,q1,m1,d1,q2,m2,d2,rfl,x3⟩);have HX:=Ab hXk;have hkn':(k:Int)<n:=by omega
   clear hc x3 hXk hp;obtain⟨P,hP⟩:∃P,p X=P:=⟨_,rfl⟩
   rw[hP]at HC
   have HP:=Ab hP;clear hP
   cases P with
   | true=>
    go_wp2_with (go_at_fn g;refine HC.out.mono ?_;rintro en w1 ⟨rfl,hb1⟩)
    go_ret;exact⟨_,rfl,by rw[mO HX.out HP.out];exact decide_eq_true (by omega),Ae HB.out hb1⟩
   | false=>
    have HJ':Aa (∀i Y,i<k+1->l[i]? = some Y->p Y=false):=⟨fun i Y hi hY=>by
     rcases(by omega:i<k ∨ i=k) with h|rfl
     .exact HJ.out i Y h hY
     .have:=HX.out;rw[hY]at this
      cases this;exact HP.out⟩
    go_wp2_with (go_at_fn g;refine HC.out.mono ?_;rintro en w1 ⟨rfl,hb1⟩)
    go_roundw
    case rel=>exact⟨k+1,by omega,by go_num,HJ',⟨Ae HB.out hb1⟩⟩
    case measure=>simp[intOf];omega
  .obtain rfl:k=n:=by omega
   have hkn':¬(k:Int)<k:=by omega
   go_wp2;go_ret;refine⟨_,rfl,?_,HB.out⟩;rw[iT fun i X hX=>HJ.out i X (by rw[HLN.out];exact(List.getElem?_eq_some_iff.1 hX).1) hX];rfl
theorem Ta (w:World)(e:Nat)(p0:Option Addr)(n c:Nat)(l:List Bz)(g:Nat)(lb:Array Value)(eg:∀args w,(callFunc g args).run Tryz.prog w=.ok (.enter g args) w)(p:Bz->Bool)(h:Fv w e p0 n c l)(hp:eY g lb w e l p) :
  Calls Tryz.prog 180 #[.slice p0 n c,.func (.func g) #[] lb] w fun en w'=>en=.returned (.bool (l.any p))/\Below w.heap.size w w':=by
 go_enter Tryz.func180,Tryz.ntmps180
 go_wp2_with fail
 refine(Zc w e p0 n c l g lb eg p h hp).mono ?_;rintro en w1 ⟨K,rfl,hK,hb⟩;have HB:=Ab hb;have HK:=Ab hK;clear hK hb;go_wp2;go_ret;exact⟨by rw[<-HK.out];rfl,HB.out⟩
end Go.Proofs.YtokhckjemidbpaaGreatDoor
