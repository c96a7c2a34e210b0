/- Whether a step has too long a number, of the program; a function that is handed to the library, over steps. -/
import Derived.Laws.OwnMore
import Derived.ArgAppend
import Derived.Laws.CopyOwn
import Derived.Test.YtokhckjemidbpaaGreatDoorMacE
set_option maxRecDepth 1000000
set_option maxHeartbeats 16000000
set_option linter.all false
namespace Go.Proofs.YtokhckjemidbpaaGreatDoor
open Go Go.RowKit Go.Proofs.YtokhckjemidbpaaGreatDoor.Flow
def fQ (n:Nat):Prop:=n<18446744073709551616
structure Fl (w w':World):Prop where
 size:w'.heap.size=w.heap.size
 cell:∀a v,w.cell? a=some v->(∀p n c,v≠.slice p n c)->w'.cell? a=some v
theorem Fl.trans {a b c:World}(h:Fl a b)(k:Fl b c):Fl a c:=⟨k.size.trans h.size,fun x v hx hn=>k.cell x v (h.cell x v hx hn) hn⟩
theorem Fl.set {w:World}{a:Addr}{p:Option Addr}{n c:Nat}(h:w.cell? a=some (.slice p n c))(u:Value):Fl w (w.setCell a u) :=
 ⟨by simp,fun x v hx hn=>by
  rw[World.cell?_setCell_other w a x u (fun e=>by subst e;rw[h]at hx;cases hx;exact hn _ _ _ rfl)];exact hx⟩
structure fO (At:World->Option Addr->Nat->Nat->Nat->Prop):Prop where
 below:∀ {w w' p n c N},At w p n c N->Below w.heap.size w w'->At w' p n c N
 kept:∀ {w w' p n c N},At w p n c N->Fl w w'->At w' p n c N
theorem Lz:fO Bj:=⟨fun h hb=>h.below hb,fun {w w' p n c N} h hk=>by
 refine⟨h.len,h.cap,h.max,?_⟩;rcases h.at_ with k|⟨b,off,k1,k2,k3⟩
 .exact .inl k
 .exact .inr ⟨b,off,k1,by rw[hk.size];exact k2,fun i x hx=>hk.cell _ _ (k3 i x hx) (fun _ _ _ e=>by cases e)⟩⟩
structure My (t:TypeId) (w:World) (b:Nat) (v0 v1 v2:Value):Prop where
 at_:w.heap[b]? = some (.cells #[v0,v1,v2] t (0,0))
theorem My.lt {t:TypeId}{w:World}{b:Nat}{v0 v1 v2:Value}(h:My t w b v0 v1 v2):b<w.heap.size:=(Ik h.at_).1
theorem My.below {t:TypeId}{w w':World}{B b:Nat}{v0 v1 v2:Value}(h:My t w b v0 v1 v2)(hb:Below B w w')(hB:b<B):My t w' b v0 v1 v2:=⟨by rw[hb.block b hB];exact h.at_⟩
theorem My.cells {t:TypeId}{w:World}{b:Nat}{v0 v1 v2:Value}(h:My t w b v0 v1 v2):w.cell? ⟨b,0,none⟩=some v0/\w.cell? ⟨b,1,none⟩=some v1/\w.cell? ⟨b,2,none⟩=some v2:=by
 have:=h.at_
 simp[World.cell?,this]
theorem My.made (t:TypeId)(w:World)(v0 v1 v2:Value):My t (w.alloc (.cells #[v0,v1,v2] t)) w.heap.size v0 v1 v2:=⟨heap_alloc_new w _⟩
section
variable {At:World->Option Addr->Nat->Nat->Nat->Prop} {mk:Option Addr->Nat->Nat->Value} {t:TypeId} {w0:World} {N B:Nat} {d2 d5 d6 d7:Bool} {v2 v5 v6 v7:Value} {w:World}
end
def Xu (w:World)(v v':Value):Prop:=v'.ownBlock=v.ownBlock ∨ ∀g,v'.ownBlock=some g->w.heap.size<=g
theorem bQ {w:World}{B n size bytes:Nat}{st e:TypeId}{i:TypeInfo}{z:Value}(hu:Tryz.prog.underlying st=some (.slice e))(hi:Tryz.prog.info? e=some i)(hz:i.zero=some z)(hs:i.size=size)(hb:i.bytes=bytes)(hzs:z.cells.size=size)(h0:0<size){v:Value}{us:List Value}(h:w.ownsRow B e size v n us){a:Addr}{m c:Nat}{news:List Value}(hl:news.length=m*size)(hcell:∀j u,news[j]? = some u->w.cell? (a.add j)=some u)(hone:∀u∈news,u.oneCell'=true)(hmax:n+m<=maxLen)(hbytes:(n+m)*bytes<=140737488355328)(hB:B<=w.heap.size)(ty:TypeId) :
  ∃v' w',(Builtin.append_ #[st,st] ty #[v,.slice (some a) m c]).run Tryz.prog w=.ok v' w'/\w'.ownsRow B e size v' (n+m) (us++news)/\w.grownBy w' v.ownBlock/\Xu w v v':=by
 obtain⟨v',w',h1,h2,h3,_⟩:=run_append_own (P:=Tryz.prog) w B st ty e i z size bytes hu hi hz hs hb hzs h0 v n us h a m c news hl hcell hone hmax hbytes hB;refine⟨v',w',h1,h2,h3,?_⟩;rcases h.2 with ⟨rfl,hn0⟩|⟨g,cap,cur,rfl,hbg,hg,hnc,hcm,hcs,ht⟩
 .obtain⟨v2,w2,k1,k2,_,_⟩:=run_append_own (P:=Tryz.prog) w w.heap.size st ty e i z size bytes hu hi hz hs hb hzs h0 (.slice none 0 0) 0 [] (World.ownsRow_nil w _ _ _) a m c news hl hcell hone (by omega) (Eo (Nat.mul_le_mul_right _ (by omega)) hbytes) (Av _);rw[h1]at k1
  injection k1 with k3 k4
  subst k3;refine .inr fun g hg=>?_
  rcases k2.2 with ⟨e',_⟩|⟨g',cap,cur,e',hb',_⟩
  .rw[e']at hg;cases hg
  .rw[e']at hg
   obtain rfl:g'=g:=by simpa [Value.ownBlock]using hg
   exact hb'
 .by_cases hroom:n+m<=cap
  .have hfit:n*i.size+news.length<=cur.size:=by rw[hs,hcs,hl,<-Nat.add_mul];exact Nat.mul_le_mul_right _ hroom
   have k1:=run_append_room (P:=Tryz.prog) w st ty e i hu hi g n cap cur hg a m c news (by rw[hs];exact hl) hcell hone hroom hfit;rw[h1]at k1
   injection k1 with k2 _
   exact .inl (by rw[k2];rfl)
  .obtain⟨v2,w2,k1,k2,_⟩:=run_append_arg_grows (P:=Tryz.prog) w st ty e i z size bytes hu hi hz hs hb hzs h0 ⟨g,0,none⟩ n cap us h.1
    (fun j u hj=>World.ownsRow.cells h rfl j u hj) a m c news hl hcell (by omega) hmax hbytes
   rw[h1]at k1
   injection k1 with k3 k4
   subst k3;refine .inr fun g hg=>?_
   rcases k2.2 with ⟨e',_⟩|⟨g',cap,cur,e',hb',_⟩
   .rw[e']at hg;cases hg
   .rw[e']at hg
    obtain rfl:g'=g:=by simpa [Value.ownBlock]using hg
    exact hb'
structure Agree (bad:Nat->Prop) (w w':World):Prop where
 size:w.heap.size<=w'.heap.size
 block:∀b,b<w.heap.size->¬bad b->w'.heap[b]? = w.heap[b]?
theorem Agree.trans {bad:Nat->Prop}{a b c:World}(h:Agree bad a b)(k:Agree bad b c):Agree bad a c :=
 ⟨Eo h.size k.size,fun x hx hn=>by rw[k.block x (Dk hx h.size) hn,h.block x hx hn]⟩
theorem Agree.of {bad:Nat->Prop}{w w':World}(h:Below w.heap.size w w'):Agree bad w w':=⟨h.size,fun b hb _=>h.block b hb⟩
theorem Agree.grown {bad:Nat->Prop}{w w':World}{row:Option Nat}(h:w.grownBy w' row)(hr:∀g,row=some g->bad g):Agree bad w w' :=
 ⟨h.size,fun b hb hn=>h.block b hb fun e=>hn (hr b e.symm)⟩
theorem Agree.set {bad:Nat->Prop}(w:World)(g o:Nat)(u:Value)(hg:bad g):Agree bad w (w.setCell ⟨g,o,none⟩ u) :=
 ⟨by simp,fun b _ hn=>Below.heap_setCell _ _ _ _ fun e=>hn (by rw[show b=g from e];exact hg)⟩
def Ih (F:World->Prop)(bad:Nat->Prop)(w:World):Prop:=∀w',Agree bad w w'->F w'
theorem Ih.out {F:World->Prop}{bad:Nat->Prop}{w:World}(h:Ih F bad w):F w:=h w ⟨Av _,fun _ _ _=>rfl⟩
theorem Ih.step {F:World->Prop}{bad:Nat->Prop}{w w':World}(h:Ih F bad w)(a:Agree bad w w'):Ih F bad w':=fun w2 k=>h w2 (a.trans k)
theorem Ih.more {F:World->Prop}{bad bad':Nat->Prop}{w:World}(h:Ih F bad w)(hb:∀b,b<w.heap.size->bad' b->bad b):Ih F bad' w :=
 fun w2 k=>h w2 ⟨k.size,fun b hlt hn=>k.block b hlt fun e=>hn (hb b hlt e)⟩
structure Fu (At:World->Option Addr->Nat->Nat->Nat->Prop):Prop where
 stay:∀ {w w' p n c N},At w p n c N->w.heap.size<=w'.heap.size->(∀q,p=some q->∀o,w'.cell? ⟨q.block,o,none⟩=w.cell? ⟨q.block,o,none⟩)->At w' p n c N
 lt:∀ {w p n c N},At w p n c N->∀q,p=some q->q.block<w.heap.size
theorem Eb:Fu Ah:=⟨fun {w w' p n c N} h hz hc=>by
 obtain⟨ws,r1,r2,r3,r4⟩:=h.ex;refine⟨ws,⟨r1.len,r1.cap,r1.max,?_⟩,r2,r3,r4⟩;rcases r1.at_ with k|⟨b,off,k1,k2,k3⟩
 .exact .inl k
 .exact .inr ⟨b,off,k1,Dk k2 hz,fun i x hx=>by rw[hc _ k1];exact k3 i x hx⟩,fun {w p n c N} h q hq=>by
 obtain⟨ws,r1,_⟩:=h.ex;rcases r1.at_ with k|⟨b,off,k1,k2,k3⟩
 .rw[k.1]at hq;cases hq
 .rw[k1]at hq;cases hq;exact k2⟩
theorem Xr:Fu Bj:=⟨fun {w w' p n c N} h hz hc=>by
 refine⟨h.len,h.cap,h.max,?_⟩;rcases h.at_ with k|⟨b,off,k1,k2,k3⟩
 .exact .inl k
 .exact .inr ⟨b,off,k1,Dk k2 hz,fun i x hx=>by rw[hc _ k1];exact k3 i x hx⟩,fun {w p n c N} h q hq=>by
 rcases h.at_ with k|⟨b,off,k1,k2,k3⟩
 .rw[k.1]at hq;cases hq
 .rw[k1]at hq;cases hq;exact k2⟩
theorem Fu.firm {At:World->Option Addr->Nat->Nat->Nat->Prop}(S:Fu At){w:World}{p:Option Addr}{n c N:Nat}(h:At w p n c N){bad:Nat->Prop}(hb:∀q,p=some q->¬bad q.block):Ih (fun w=>At w p n c N) bad w :=
 fun _ k=>S.stay h k.size fun q hq o=>World.cell?_of_block (a:=⟨q.block,o,none⟩) (k.block q.block (S.lt h q hq) (hb q hq))
theorem Fu.fresh {At:World->Option Addr->Nat->Nat->Nat->Prop}(S:Fu At){w:World}{p:Option Addr}{n c N B:Nat}(h:At w p n c N)(hn:El B p){bad:Nat->Prop}(hb:∀b,bad b->b<B):Ih (fun w=>At w p n c N) bad w :=
 S.firm h fun q hq e=>by have:=hb _ e;have:=hn q hq;omega
structure Ej (At:World->Option Addr->Nat->Nat->Nat->Prop) (e:TypeId) (B:Nat) (bad:Nat->Prop) (w:World) (v:Value) (Ns:List Nat):Prop where
 ex:∃vs:List Value,w.ownsRow B e 1 v Ns.length vs/\vs.length=Ns.length/\∀(i N:Nat),Ns[i]? = some N->∃x:Option Addr×Nat×Nat,vs[i]? = some (.slice x.1 x.2.1 x.2.2)/\Ih (fun w=>At w x.1 x.2.1 x.2.2 N) bad w
section
variable {At:World->Option Addr->Nat->Nat->Nat->Prop} {e:TypeId} {B:Nat} {bad:Nat->Prop} {w:World} {v:Value} {Ns:List Nat}
theorem Ej.nil:Ej At e B bad w (.slice none 0 0) []:=⟨[],World.ownsRow_nil w B e 1,rfl,fun i N h=>by simp at h⟩
theorem Sa {w':World}{n size:Nat}{us:List Value}(h:w.ownsRow B e size v n us)(hk:∀g,v.ownBlock=some g->w'.heap[g]? = w.heap[g]?):w'.ownsRow B e size v n us:=by
 refine⟨h.1,?_⟩;rcases h.2 with h4|⟨g,cap,cur,e',hbg,hg,h5⟩
 .exact .inl h4
 .exact .inr ⟨g,cap,cur,e',hbg,by rw[hk g (by rw[e'];rfl)];exact hg,h5⟩
theorem Qd {n size:Nat}{us:List Value}(h:w.ownsRow B e size v n us):∀g,v.ownBlock=some g->B<=g/\g<w.heap.size:=by
 intro g hg;rcases h.2 with ⟨rfl,_⟩|⟨g',cap,cur,rfl,hbg,hg',_⟩
 .cases hg
 .obtain rfl:g'=g:=by simpa [Value.ownBlock]using hg
  exact⟨hbg,(Ik hg').1⟩
theorem Ej.block (h:Ej At e B bad w v Ns):∀g,v.ownBlock=some g->B<=g/\g<w.heap.size:=by obtain⟨_,h1,_⟩:=h.ex;exact Qd h1
theorem Ej.step {w':World}(h:Ej At e B bad w v Ns)(a:Agree bad w w')(hk:∀g,v.ownBlock=some g->w'.heap[g]? = w.heap[g]?):Ej At e B bad w' v Ns:=by
 obtain⟨vs,h1,h2,h3⟩:=h.ex;refine⟨vs,Sa h1 hk,h2,fun i N hN=>?_⟩;obtain⟨x,k1,k2⟩:=h3 i N hN;exact⟨x,k1,k2.step a⟩
theorem Ej.below {w':World}(h:Ej At e B bad w v Ns)(hb:Below w.heap.size w w'):Ej At e B bad w' v Ns:=h.step (.of hb) fun g hg=>hb.block g (h.block g hg).2
theorem Ej.more {bad':Nat->Prop}(h:Ej At e B bad w v Ns)(hb:∀b,b<w.heap.size->bad' b->bad b):Ej At e B bad' w v Ns:=by
 obtain⟨vs,h1,h2,h3⟩:=h.ex;refine⟨vs,h1,h2,fun i N hN=>?_⟩;obtain⟨x,k1,k2⟩:=h3 i N hN;exact⟨x,k1,k2.more hb⟩
theorem Ej.app {st:TypeId}{bytes:Nat}{i:TypeInfo}(hu:Tryz.prog.underlying st=some (.slice e))(hi:Tryz.prog.info? e=some i){z:Value}(hz:i.zero=some z)(hs:i.size=1)(hb:i.bytes=bytes)(hzs:z.cells.size=1)(hby:bytes<=1000)(h:Ej At e B bad w v Ns)(hB:B<=w.heap.size){a:Addr}{c N:Nat}{x:Option Addr×Nat×Nat}(hc:w.cell? a=some (.slice x.1 x.2.1 x.2.2))(hN:Ih (fun w=>At w x.1 x.2.1 x.2.2 N) bad w)(hv:∀g,v.ownBlock=some g->bad g)(hl:Ns.length<=1000000)(ty:TypeId) :
  ∃v' w',(Builtin.append_ #[st,st] ty #[v,.slice (some a) 1 c]).run Tryz.prog w=.ok v' w'/\Ej At e B bad w' v' (Ns++[N])/\w.grownBy w' v.ownBlock/\Xu w v v':=by
 obtain⟨vs,h1,h2,h3⟩:=h.ex;have ha0:a.add 0=a:=by obtain⟨b,o,s⟩:=a;simp[Addr.add]
 obtain⟨v',w',k1,k2,k3,k4⟩:=bQ hu hi hz hs hb hzs (by decide) h1 (a:=a) (m:=1) (c:=c) (news:=[.slice x.1 x.2.1 x.2.2]) rfl
  (fun j u hj=>by
   cases j with
   | zero=>simp at hj;subst hj;rw[ha0];exact hc
   | succ j=>simp at hj)
  (fun u hj=>by simp at hj;subst hj;rfl) (by simp only[maxLen];omega) (Eo (Nat.mul_le_mul (Nat.add_le_add_right hl 1) hby) (by decide)) hB ty
 have ag:Agree bad w w':=.grown k3 hv;refine⟨v',w',k1,⟨vs++[.slice x.1 x.2.1 x.2.2],by rw[List.length_append];exact k2,by simp[h2],fun j M hM=>?_⟩,k3,k4⟩;rcases Nat.lt_or_ge j Ns.length with hj|hj
 .rw[List.getElem?_append_left hj]at hM
  obtain⟨y,g1,g2⟩:=h3 j M hM;exact⟨y,by rw[List.getElem?_append_left (by omega)];exact g1,g2.step ag⟩
 .rw[List.getElem?_append_right hj]at hM
  obtain⟨t,ht⟩:∃t,j-Ns.length=t:=⟨_,rfl⟩
  rw[ht]at hM
  cases t with
  | zero=>
   simp at hM;subst hM;exact⟨x,by rw[List.getElem?_append_right (by omega),h2,ht];rfl,hN.step ag⟩
  | succ t=>simp at hM
theorem Ej.elim (h:Ej At e B bad w v Ns):∃p c,v=.slice p Ns.length c/\Ns.length<=c/\c<=9223372036854775807/\(p=none->c=0) /\
  (0<Ns.length->∃b off,p=some ⟨b,off,none⟩/\b<w.heap.size/\∀(i N:Nat),Ns[i]? = some N->∃q m d,w.cell? ⟨b,off+i,none⟩=some (.slice q m d)/\At w q m d N):=by
 obtain⟨vs,h1,h2,h3⟩:=h.ex;rcases h1.2 with ⟨rfl,h0⟩|⟨g,cap,cur,rfl,hb,hg,hnc,hcm,hcs,ht⟩
 .exact⟨none,0,by rw[h0],by omega,by omega,fun _=>rfl,fun h=>by omega⟩
 .have hlt:g<w.heap.size:=(Ik hg).1;refine⟨some ⟨g,0,none⟩,cap,rfl,hnc,by simpa [maxLen]using hcm,(fun h=>by cases h),fun _=>⟨g,0,rfl,hlt,fun i N hN=>?_⟩⟩;obtain⟨x,h4,h5⟩:=h3 i N hN;refine⟨x.1,x.2.1,x.2.2,?_,h5.out⟩;have hi:i<Ns.length:=(List.getElem?_eq_some_iff.1 hN).1;have h6:(cur.toList.take (Ns.length*1))[i]? = some (.slice x.1 x.2.1 x.2.2):=by rw[ht];exact h4
  rw[List.getElem?_take,if_pos (by omega)]at h6
  unfold World.cell?
  dsimp only
  rw[hg];simp only[Nat.zero_add];rw[Array.getElem?_toList]at h6
  exact h6
end
theorem Ej.plist {t:TypeId}{B e:Nat}{bad:Nat->Prop}{w:World}{v:Value}{Ns:List Nat}(h:Ej Ah t B bad w v Ns)(hl:∀N∈Ns,N<Al e):∃p c,v=.slice p Ns.length c/\Ba w e p Ns.length c Ns:=by
 obtain⟨p,c,h1,h2,h3,h4,h5⟩:=h.elim;refine⟨p,c,h1,rfl,h2,h3,h4,fun h0=>?_⟩;obtain⟨b,off,g1,g2,g3⟩:=h5 h0;exact⟨b,off,g1,g2,fun i N hN=>let ⟨q,m,d,k1,k2⟩:=g3 i N hN;⟨q,m,d,k1,k2,hl N (List.mem_of_getElem? hN)⟩⟩
structure Asks (g:Nat) (lb:Array Value) (w:World) (e:Nat) (Ns:List Nat) (p:Nat->Bool):Prop where
 out:∀(W:World) (N:Nat) (v:Value),Below w.heap.size w W->N∈Ns->Fit e N v W->Calls Tryz.prog g (#[v]++lb) W fun en w'=>en=.returned (.bool (p N))/\Below W.heap.size W w'
theorem fL {Ns:List Nat}{p:Nat->Bool}{k X:Nat}(h:Ns[k]? = some X)(hp:p X=true):Ns.any p=true :=
 List.any_eq_true.2 ⟨X,List.mem_of_getElem? h,hp⟩
theorem dO {Ns:List Nat}{p:Nat->Bool}(h:∀(i X:Nat),Ns[i]? = some X->p X=false):Ns.any p=false:=by
 rw[List.any_eq_false];intro x hx;obtain⟨i,hi⟩:=List.getElem?_of_mem hx;rw[h i x hi];exact Bool.false_ne_true
theorem Uh (w:World)(e:Nat)(p0:Option Addr)(n c:Nat)(Ns:List Nat)(g:Nat)(lb:Array Value)(eg:∀args w,(callFunc g args).run Tryz.prog w=.ok (.enter g args) w)(p:Nat->Bool)(h:Ba w e p0 n c Ns)(hp:Asks g lb w e Ns p) :
  Calls Tryz.prog 214 #[.slice p0 n c,.func (.func g) #[] lb] w fun en w'=>∃K:Int,en=.returned (.int .i64 K)/\decide (0<=K)=Ns.any p/\Below w.heap.size w w':=by
 have HH:=Ac h;have hn:=h.len;have hmax:n<=9223372036854775807:=Eo h.cap h.max;have HLN:=Ac hn;clear h hn;go_enter Tryz.func214,Tryz.ntmps214;go_wp2
 go_loopw [5,8] (fun _ iv wr=>∃k:Nat,k<=n/\iv=.int .i64 k/\Aa (∀i X,i<k->Ns[i]? = some X->p X=false)/\Aa (Below w.heap.size w wr)) (fun _ iv _=>n-(intOf iv).toNat)
 case atStart=>exact⟨0,by omega,rfl,⟨fun i X h=>by omega⟩,⟨Bd _ _⟩⟩
 case round=>
  obtain⟨k,hk,rfl,HJ,HB⟩:=hrel
  by_cases hkn:k<n
  .obtain⟨X,hXk⟩:∃X,Ns[k]? = some X:=⟨Ns[k]'(by rw[<-HLN.out];exact hkn),List.getElem?_eq_getElem _⟩
   obtain⟨b,off,rfl,hb,hc⟩:=(HH.out.below HB.out).at_ (by omega)
   obtain⟨q,m,d,hx,hnx,hlim⟩:=hc k X hXk;have HC:=Ac (hp.out wr X _ HB.out (List.mem_of_getElem? hXk) (Fit.of hnx hlim));have HX:=Ac hXk;have hkn':(k:Int)<n:=by omega
   clear hc hnx hlim hXk hp;obtain⟨P,hP⟩:∃P,p X=P:=⟨_,rfl⟩
   rw[hP]at HC
   have HP:=Ac hP;clear hP
   cases P with
   | true=>
    go_wp2_with (go_at_fn g;refine HC.out.mono ?_;rintro en w1 ⟨rfl,hb1⟩)
    go_ret;exact⟨_,rfl,by rw[fL HX.out HP.out];exact decide_eq_true (by omega),Ab HB.out hb1⟩
   | false=>
    have HJ':Aa (∀i Y,i<k+1->Ns[i]? = some Y->p Y=false):=⟨fun i Y hi hY=>by
     rcases(by omega:i<k ∨ i=k) with h|rfl
     .exact HJ.out i Y h hY
     .have:=HX.out;rw[hY]at this
      cases this;exact HP.out⟩
    go_wp2_with (go_at_fn g;refine HC.out.mono ?_;rintro en w1 ⟨rfl,hb1⟩)
    go_roundw
    case rel=>exact⟨k+1,by omega,by go_num,HJ',⟨Ab HB.out hb1⟩⟩
    case measure=>simp[intOf];omega
  .obtain rfl:k=n:=by omega
   have hkn':¬(k:Int)<k:=by omega
   go_wp2;go_ret;refine⟨_,rfl,?_,HB.out⟩;rw[dO fun i X hX=>HJ.out i X (by rw[HLN.out];exact(List.getElem?_eq_some_iff.1 hX).1) hX];rfl
theorem Kq (w:World)(e:Nat)(p0:Option Addr)(n c:Nat)(Ns:List Nat)(g:Nat)(lb:Array Value)(eg:∀args w,(callFunc g args).run Tryz.prog w=.ok (.enter g args) w)(p:Nat->Bool)(h:Ba w e p0 n c Ns)(hp:Asks g lb w e Ns p) :
  Calls Tryz.prog 177 #[.slice p0 n c,.func (.func g) #[] lb] w fun en w'=>en=.returned (.bool (Ns.any p))/\Below w.heap.size w w':=by
 go_enter Tryz.func177,Tryz.ntmps177
 go_wp2_with fail
 refine(Uh w e p0 n c Ns g lb eg p h hp).mono ?_;rintro en w1 ⟨K,rfl,hK,hb⟩;have HB:=Ac hb;have HK:=Ac hK;clear hK hb;go_wp2;go_ret;exact⟨by rw[<-HK.out];rfl,HB.out⟩
theorem Wi (w:World)(e:Nat)(Ns:List Nat)(b q:Nat)(v:Value)(N:Nat)(hb:b<w.heap.size)(hc:w.cell? ⟨b,0,none⟩=some v)(hv:Fit e N (.agg #[v]) w)(he:e<=900000) :
  Asks 263 #[.pointer (some ⟨b,0,none⟩)] w e Ns (fun M=>decide (M=N)):=by
 refine⟨fun W M u hbw _ hu=>?_⟩;have hc':W.cell? ⟨b,0,none⟩=some v:=(hbw.cell (p:=⟨b,0,none⟩) hb).trans hc;have hv':=hv.below hbw;obtain⟨pu,nu,cu,rfl,hu1,hu2⟩:=hu;have hbx:=Cw.mk1 W (.slice pu nu cu) 37;have hbW:b<W.heap.size:=Dk hb hbw.size;have hc2:(W.alloc (.cells #[.slice pu nu cu] 37)).cell? ⟨b,0,none⟩=some v:=(hbx.bel.cell (p:=⟨b,0,none⟩) hbW).trans hc';have HA:=Ac ((Fit.of hu1 hu2).below hbx.bel);have HV:=Ac (hv'.below hbx.bel);have HBX:=Ac hbx.bel;obtain⟨pv,nv,cv,hev,_,_⟩:=hv;cases hev;clear hu1 hu2 hbx hv' hc' hc;go_enter Tryz.func263,Tryz.ntmps263
 go_wp2_with fail
 refine(Sv HA.out HV.out he he).mono ?_;rintro en w1 ⟨_,rfl,rfl,hb1⟩;have HB1:=Ac (Ab HBX.out hb1);have e0:((Bp M N:Int)==0)=decide (M=N):=by
  by_cases hnm:M=N
  .simp[hnm,Cg.2]
  .have:Bp M N≠0:=fun h0=>hnm (Cg.1 h0)
   simp[hnm,this]
 have HE:=Ac e0;clear e0 hb1 hc2;generalize Bp M N=K at *;go_wp2;go_ret;exact⟨by rw[<-HE.out];rfl,HB1.out⟩
open Classical in
theorem Jk (w:World)(e:Nat)(p0:Option Addr)(n c:Nat)(Ns:List Nat)(v:Value)(N:Nat)(h:Ba w e p0 n c Ns)(hv:Fit e N v w)(he:e<=900000) :
  Calls Tryz.prog 249 #[.slice p0 n c,v] w fun en w'=>en=.returned (.bool (decide (N∈Ns)))/\Below w.heap.size w w':=by
 obtain⟨pu,nu,cu,rfl,hu1,hu2⟩:=hv;have hbx:=Cw.mk1 w (.slice pu nu cu) 37;have HP:=Ac (h.below hbx.bel);have HA:=Ac (Wi (w.alloc (.cells #[.slice pu nu cu] 37)) e Ns w.heap.size 0 (.slice pu nu cu) N (by simp) hbx.c0 ((Fit.of hu1 hu2).below hbx.bel) he);have HBX:=Ac hbx.bel;have HANS:Aa (Ns.any (fun M=>decide (M=N))=decide (N∈Ns)):=⟨by
  by_cases hm:N∈Ns
  .rw[decide_eq_true hm,List.any_eq_true];exact⟨N,hm,by simp⟩
  .rw[decide_eq_false hm,List.any_eq_false];intro x hx;have:x≠N:=fun e=>hm (e ▸ hx)
   simp[this]⟩
 clear h hu1 hu2 hbx;go_enter Tryz.func249,Tryz.ntmps249
 go_wp2_with fail
 refine(Kq _ e p0 n c Ns _ _ (enters_of Tryz.func263 (by kernel_rfl) rfl) _ HP.out HA.out).mono ?_;rintro en w1 ⟨rfl,hb1⟩;have HB1:=Ac (Ab HBX.out hb1);clear hb1;rw[HANS.out];go_wp2;go_ret;exact⟨rfl,HB1.out⟩
section
variable {At:World->Option Addr->Nat->Nat->Nat->Prop} {e:TypeId} {B:Nat} {bad:Nat->Prop} {w:World} {v:Value} {Ns:List Nat}
theorem Ej.app2 {st:TypeId}{bytes:Nat}{i:TypeInfo}(hu:Tryz.prog.underlying st=some (.slice e))(hi:Tryz.prog.info? e=some i){z:Value}(hz:i.zero=some z)(hs:i.size=1)(hb:i.bytes=bytes)(hzs:z.cells.size=1)(hby:bytes<=1000)(h:Ej At e B bad w v Ns)(hB:B<=w.heap.size){a:Addr}{c N:Nat}{x:Option Addr×Nat×Nat}(hc:w.cell? a=some (.slice x.1 x.2.1 x.2.2))(hN:Ih (fun w=>At w x.1 x.2.1 x.2.2 N) bad w)(hv:∀g,v.ownBlock=some g->bad g)(hlt:∀g,bad g->g<w.heap.size)(hl:Ns.length<=1000000)(ty:TypeId){C:Prop}(k:∀v' w' bad',(Builtin.append_ #[st,st] ty #[v,.slice (some a) 1 c]).run Tryz.prog w=.ok v' w'->Ej At e B bad' w' v' (Ns++[N])->w.grownBy w' v.ownBlock ->
   (∀g,bad g->bad' g)->(∀g,g<w.heap.size->bad' g->bad g)->(∀g,v'.ownBlock=some g->bad' g)->(∀g,bad' g->g<w'.heap.size)->C):C:=by
 obtain⟨v',w',k1,_,k3,k4⟩:=h.app hu hi hz hs hb hzs hby hB hc hN hv hl ty;have hsub:∀g,g<w.heap.size->(bad g ∨ v'.ownBlock=some g)->bad g:=by
  intro g hg hx;rcases hx with hx|hx
  .exact hx
  .rcases k4 with k4|k4
   .exact hv g (by rw[<-k4];exact hx)
   .have:=k4 g hx;omega
 obtain⟨v2,w2,g1,g2,_,_⟩:=(h.more (bad':=fun g=>bad g ∨ v'.ownBlock=some g) hsub).app hu hi hz hs hb hzs hby hB hc (hN.more hsub) (fun g hg=>.inl (hv g hg)) hl ty;rw[k1]at g1
 injection g1 with e1 e2
 subst e1 e2;exact k v' w' _ k1 g2 k3 (fun g hg=>.inl hg) hsub (fun g hg=>.inr hg) (fun g hg=>by
  rcases hg with hg|hg
  .exact Dk (hlt g hg) k3.size
  .exact(g2.block g hg).2)
end
section
variable {At:World->Option Addr->Nat->Nat->Nat->Prop} {t e:TypeId} {B:Nat} {bad bad':Nat->Prop} {b M0 M1:Nat} {Ns:List Nat} {x y:Option Addr×Nat×Nat} {v:Value} {w0 w:World}
end
section
variable {At:World->Option Addr->Nat->Nat->Nat->Prop} {mk:Option Addr->Nat->Nat->Value} {t e:TypeId} {wE w0:World} {bad:Nat->Prop} {b:Nat} {q0 q1 v:Value} {Ns:List Nat} {N:Nat} {d3 d4 d5 d7:Bool} {v3 v4 v5:Value} {w:World}
end
def Mn (q x:Nat):List Nat->Nat
 | []=>0
 | c::l=>(c+Mn q x l*x%q)%q
open Go Go.RowKit
theorem Yl {N n:Nat}(h:N<B8 n):be (Bf N n)=N:=by
 unfold be Bf;rw[List.reverse_reverse,Od,Nat.mod_eq_of_lt h]
theorem Tryz.info_Nat:(Tryz.prog.info? 37).map (fun i=>(i.zero,i.size,i.bytes))=some (some (.agg #[.slice none 0 0]),1,24):=by kernel_rfl
structure iJ (e:Nat) (s:Bn) (x y z:Option Addr×Nat×Nat) (w:World):Prop where
 n:Ah w x.1 x.2.1 x.2.2 s.n
 base:Ah w y.1 y.2.1 y.2.2 s.base
 ps:Ba w e z.1 z.2.1 z.2.2 s.ps
abbrev trip (x y z:Option Addr×Nat×Nat):Value:=.agg #[.slice x.1 x.2.1 x.2.2,.slice y.1 y.2.1 y.2.2,.slice z.1 z.2.1 z.2.2]
section
variable {F:Bn->Option Addr×Nat×Nat->Option Addr×Nat×Nat->Option Addr×Nat×Nat->World->Prop} {e:TypeId} {B:Nat} {bad:Nat->Prop} {w:World} {v:Value} {l:List Bn}
end
theorem Ju {α:Type}{l:List α}{k:Nat}{N:α}(h:l[k]? = some N):l.take (k+1)=l.take k++[N]:=by
 obtain⟨hi,e⟩:=List.getElem?_eq_some_iff.1 h;rw[List.take_succ_eq_append_getElem hi,e]
def Io (hp ht:Nat->Nat->Nat)(x nothing:Nat):List Nat->Nat
 | []=>nothing
 | c::l=>hp (ht (Io hp ht x nothing l) x) c
theorem Tn (q x:Nat):∀l,Io (fun a b=>(a+b)%q) (fun a b=>a*b%q) x 0 l=Mn q x l
 | []=>rfl
 | c::l=>by
  show (Io (fun a b=>(a+b)%q) (fun a b=>a*b%q) x 0 l*x%q+c)%q=(c+Mn q x l*x%q)%q;rw[Tn q x l,Nat.add_comm]
theorem Uo (q x:Nat):∀l,Mn q (x%q) l=Mn q x l
 | []=>rfl
 | c::l=>by
  show (c+Mn q (x%q) l*(x%q)%q)%q=(c+Mn q x l*x%q)%q;rw[Uo q x l,Nat.mul_mod_mod]
theorem Ix {w:World}{v:Value}{e N:Nat}(h:Fit e N v w)(he:e<=900000) :
  Calls Tryz.prog 237 #[v] w fun en w'=>en=.returned (.bool (decide (1024<Ay N)))/\Below w.heap.size w w':=by
 obtain⟨p,n,c,rfl,h1,h2⟩:=h;have hn:n<1000000:=by have:=h1.len_le h2;omega
 have hbx:=Cw.mk1 w (.slice p n c) 37;have H1:=Ac (h1.below hbx.bel);have HBX:=Ac hbx.bel;clear h1 h2 hbx;go_enter Tryz.func237,Tryz.ntmps237
 go_wp2_with fail
 refine(Dy _ p n c N H1.out hn).mono ?_;rintro en w1 ⟨rfl,hb1⟩;have HB1:=Ac (Ab HBX.out hb1);clear hb1;obtain⟨L,hL⟩:∃L,Ay N=L:=⟨_,rfl⟩
 rw[hL];have HL:=Ac hL;clear hL
 by_cases hl:1024<L
 .have HD:Aa (decide (1024<L)=true):=⟨decide_eq_true hl⟩
  have hl':(1024:Int)<L:=by omega
  clear hl;go_wp2;go_ret;exact⟨by rw[HL.out,HD.out];rfl,HB1.out⟩
 .have HD:Aa (decide (1024<L)=false):=⟨decide_eq_false hl⟩
  have hl':¬(1024:Int)<L:=by omega
  clear hl;go_wp2;go_ret;exact⟨by rw[HL.out,HD.out,<-(decide_eq_false (by have:=of_decide_eq_false HD.out;omega):decide ((1024:Int)<(L:Nat))=false)];rfl,HB1.out⟩
theorem Zq (w:World)(e:Nat)(Ns:List Nat)(he:e<=900000):Asks 237 #[] w e Ns (fun p=>decide (1024<Ay p)):=by
 refine⟨fun W M u _ _ hu=>?_⟩;rw[Array.append_empty];exact Ix hu he
structure Ym (e:Nat) (s:Bn) (v:Value) (w:World):Prop where
 ex:∃q0 m0 d0 q1 m1 d1 q2 m2 d2,v=.agg #[.slice q0 m0 d0,.slice q1 m1 d1,.slice q2 m2 d2]/\Ah w q0 m0 d0 s.n/\s.n<Al e/\Ah w q1 m1 d1 s.base/\s.base<Al e/\Ba w e q2 m2 d2 s.ps
open Classical in
theorem Wz {w:World}{v:Value}{e:Nat}{s:Bn}(h:Ym e s v w)(he:e<=900000) :
  Calls Tryz.prog 217 #[v] w fun en w'=>en=.returned (.bool (decide (Dq s)))/\Below w.heap.size w w':=by
 obtain⟨q0,m0,d0,q1,m1,d1,q2,m2,d2,rfl,h0,l0,h1,l1,h2⟩:=h.ex;have hbx:Below w.heap.size w (w.alloc (.cells #[.slice q0 m0 d0,.slice q1 m1 d1,.slice q2 m2 d2] 189)):=By;have HBX3:=Ac (My.made 189 w (.slice q0 m0 d0) (.slice q1 m1 d1) (.slice q2 m2 d2));obtain⟨wa,hwa⟩:∃wa,w.alloc (.cells #[.slice q0 m0 d0,.slice q1 m1 d1,.slice q2 m2 d2] 189)=wa:=⟨_,rfl⟩
 rw[hwa]at hbx HBX3
 have HNF:=Ac ((Fit.of h0 l0).below hbx);have HBF:=Ac ((Fit.of h1 l1).below hbx);have HP:=Ac (h2.below hbx);have HX:=Ac hbx;obtain⟨ANS,hANS⟩:∃X,decide (Dq s)=X:=⟨_,rfl⟩
 have HANS:=Ac hANS;rw[hANS];have hca:=HBX3.out.cells.1;clear hANS h h0 l0 h1 l1 h2 hbx;obtain⟨S0,hS0⟩:∃X,decide (1024<Ay s.n)=X:=⟨_,rfl⟩
 have HS0:=Ac hS0;clear hS0;go_enter Tryz.func217,Tryz.ntmps217
 go_wp2_with fail
 refine(Ix HNF.out he).mono ?_;rintro en w1 ⟨rfl,hb1⟩;rw[HS0.out];have HX1:=Ac (HBX3.out.below hb1 HBX3.out.lt);have HB1:=Ac hb1;clear hb1 hca
 cases S0 with
 | true=>
  have HF:Aa (ANS=true):=⟨by rw[<-HANS.out];exact decide_eq_true (.inl (of_decide_eq_true HS0.out))⟩
  have HE:=Ac (Ab HX.out HB1.out);go_wp2;go_ret;exact⟨by rw[HF.out];rfl,HE.out⟩
 | false=>
  obtain⟨S1,hS1⟩:∃X,decide (1024<Ay s.base)=X:=⟨_,rfl⟩
  have HS1:=Ac hS1;have hca:=HX1.out.cells.2.1;clear hS1
  go_wp2_with fail
  refine(Ix (HBF.out.below HB1.out) he).mono ?_;rintro en w2 ⟨rfl,hb2⟩;rw[HS1.out];have HX2:=Ac (HX1.out.below hb2 HX1.out.lt);have HB2:=Ac (Ab HB1.out hb2);clear hb2 hca
  cases S1 with
  | true=>
   have HF:Aa (ANS=true):=⟨by rw[<-HANS.out];exact decide_eq_true (.inr (.inl (of_decide_eq_true HS1.out)))⟩
   have HE:=Ac (Ab HX.out HB2.out);go_wp2;go_ret;exact⟨by rw[HF.out];rfl,HE.out⟩
  | false=>
   obtain⟨S2,hS2⟩:∃X,s.ps.any (fun p=>decide (1024<Ay p))=X:=⟨_,rfl⟩
   have HS2:=Ac hS2;have HF:Aa (ANS=S2):=⟨by
    rw[<-HANS.out,<-hS2];have n0:=of_decide_eq_false HS0.out;have n1:=of_decide_eq_false HS1.out
    by_cases hx:∃p∈s.ps,1024<Ay p
    .obtain⟨p,hp,hl⟩:=hx;rw[decide_eq_true (show Dq s from .inr (.inr ⟨p,hp,hl⟩))];exact(List.any_eq_true.2 ⟨p,hp,decide_eq_true hl⟩).symm
    .have:¬Dq s:=fun ht=>by
      rcases ht with ht|ht|ht
      .exact n0 ht
      .exact n1 ht
      .exact hx ht
     rw[decide_eq_false this];refine Eq.symm ?_;rw[List.any_eq_false];exact fun p hp hc=>hx ⟨p,hp,of_decide_eq_true hc⟩⟩
   have hca:=HX2.out.cells.2.2;clear hS2
   go_wp2_with fail
   refine(Kq _ e q2 m2 d2 s.ps _ _ (enters_of Tryz.func237 (by kernel_rfl) rfl) (fun p=>decide (1024<Ay p)) (HP.out.below HB2.out) (Zq _ e s.ps he)).mono ?_;rintro en w3 ⟨rfl,hb3⟩;rw[HS2.out];have HE:=Ac (Ab HX.out (Ab HB2.out hb3));clear hb3 hca;go_wp2;go_ret;exact⟨by rw[HF.out];rfl,HE.out⟩
structure Yp (g:Nat) (lb:Array Value) (w:World) (e:Nat) (l:List Bn) (p:Bn->Bool):Prop where
 out:∀(W:World) (s:Bn) (v:Value),Below w.heap.size w W->s∈l->Ym e s v W->Calls Tryz.prog g (#[v]++lb) W fun en w'=>en=.returned (.bool (p s))/\Below W.heap.size W w'
theorem dP {l:List Bn}{p:Bn->Bool}{k:Nat}{X:Bn}(h:l[k]? = some X)(hp:p X=true):l.any p=true :=
 List.any_eq_true.2 ⟨X,List.mem_of_getElem? h,hp⟩
theorem aR {l:List Bn}{p:Bn->Bool}(h:∀(i:Nat) (X:Bn),l[i]? = some X->p X=false):l.any p=false:=by
 rw[List.any_eq_false];intro x hx;obtain⟨i,hi⟩:=List.getElem?_of_mem hx;rw[h i x hi];exact Bool.false_ne_true
theorem Tw (w:World)(e:Nat)(p0:Option Addr)(n c:Nat)(l:List Bn)(g:Nat)(lb:Array Value)(eg:∀args w,(callFunc g args).run Tryz.prog w=.ok (.enter g args) w)(p:Bn->Bool)(h:Ds w e p0 n c l)(hp:Yp g lb w e l p) :
  Calls Tryz.prog 216 #[.slice p0 n c,.func (.func g) #[] lb] w fun en w'=>∃K:Int,en=.returned (.int .i64 K)/\decide (0<=K)=l.any p/\Below w.heap.size w w':=by
 have HH:=Ac h;have hn:=h.len;have hmax:n<=9223372036854775807:=Eo h.cap h.max;have HLN:=Ac hn;clear h hn;go_enter Tryz.func216,Tryz.ntmps216;go_wp2
 go_loopw [5,8] (fun _ iv wr=>∃k:Nat,k<=n/\iv=.int .i64 k/\Aa (∀i X,i<k->l[i]? = some X->p X=false)/\Aa (Below w.heap.size w wr)) (fun _ iv _=>n-(intOf iv).toNat)
 case atStart=>exact⟨0,by omega,rfl,⟨fun i X h=>by omega⟩,⟨Bd _ _⟩⟩
 case round=>
  obtain⟨k,hk,rfl,HJ,HB⟩:=hrel
  by_cases hkn:k<n
  .obtain⟨X,hXk⟩:∃X,l[k]? = some X:=⟨l[k]'(by rw[<-HLN.out];exact hkn),List.getElem?_eq_getElem _⟩
   obtain⟨b,off,rfl,hb,hc⟩:=(HH.out.below HB.out).at_ (by omega)
   obtain⟨q0,m0,d0,q1,m1,d1,q2,m2,d2,x0,x1,x2,x3⟩:=hc k X hXk;have HC:=Ac (hp.out wr X _ HB.out (List.mem_of_getElem? hXk) ⟨q0,m0,d0,q1,m1,d1,q2,m2,d2,rfl,x3⟩);have HX:=Ac hXk;have hkn':(k:Int)<n:=by omega
   clear hc x3 hXk hp;obtain⟨P,hP⟩:∃P,p X=P:=⟨_,rfl⟩
   rw[hP]at HC
   have HP:=Ac hP;clear hP
   cases P with
   | true=>
    go_wp2_with (go_at_fn g;refine HC.out.mono ?_;rintro en w1 ⟨rfl,hb1⟩)
    go_ret;exact⟨_,rfl,by rw[dP HX.out HP.out];exact decide_eq_true (by omega),Ab HB.out hb1⟩
   | false=>
    have HJ':Aa (∀i Y,i<k+1->l[i]? = some Y->p Y=false):=⟨fun i Y hi hY=>by
     rcases(by omega:i<k ∨ i=k) with h|rfl
     .exact HJ.out i Y h hY
     .have:=HX.out;rw[hY]at this
      cases this;exact HP.out⟩
    go_wp2_with (go_at_fn g;refine HC.out.mono ?_;rintro en w1 ⟨rfl,hb1⟩)
    go_roundw
    case rel=>exact⟨k+1,by omega,by go_num,HJ',⟨Ab HB.out hb1⟩⟩
    case measure=>simp[intOf];omega
  .obtain rfl:k=n:=by omega
   have hkn':¬(k:Int)<k:=by omega
   go_wp2;go_ret;refine⟨_,rfl,?_,HB.out⟩;rw[aR fun i X hX=>HJ.out i X (by rw[HLN.out];exact(List.getElem?_eq_some_iff.1 hX).1) hX];rfl
theorem Ov (w:World)(e:Nat)(p0:Option Addr)(n c:Nat)(l:List Bn)(g:Nat)(lb:Array Value)(eg:∀args w,(callFunc g args).run Tryz.prog w=.ok (.enter g args) w)(p:Bn->Bool)(h:Ds w e p0 n c l)(hp:Yp g lb w e l p) :
  Calls Tryz.prog 180 #[.slice p0 n c,.func (.func g) #[] lb] w fun en w'=>en=.returned (.bool (l.any p))/\Below w.heap.size w w':=by
 go_enter Tryz.func180,Tryz.ntmps180
 go_wp2_with fail
 refine(Tw w e p0 n c l g lb eg p h hp).mono ?_;rintro en w1 ⟨K,rfl,hK,hb⟩;have HB:=Ac hb;have HK:=Ac hK;clear hK hb;go_wp2;go_ret;exact⟨by rw[<-HK.out];rfl,HB.out⟩
end Go.Proofs.YtokhckjemidbpaaGreatDoor
