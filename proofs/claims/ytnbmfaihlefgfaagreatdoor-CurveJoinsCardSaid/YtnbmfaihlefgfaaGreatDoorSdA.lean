/- The document's side of signatures: its group, its bytes, its challenge. -/
import Derived.RangeFuncNested
import Derived.RangeFuncBound
import Derived.RangeFuncCalls
import Derived.RangeFuncLeaves
import Derived.Test.YtnbmfaihlefgfaaGreatDoorGqB
import Derived.OwnWalkIn
import Derived.TacticsInMore
import Derived.LoopNIn
import Derived.LoopIn
import Derived.Lib.SmallJoins
set_option maxRecDepth 1000000
set_option maxHeartbeats 16000000
set_option linter.all false
namespace Go.Proofs.YtnbmfaihlefgfaaGreatDoor
open Go Go.RowKit
structure Mid (p:Nat->Prop) (W W':World):Prop where
 os:W'.os=W.os
 tape:W'.tape=W.tape
 output:W'.output=W.output
 size:W.heap.size<=W'.heap.size
 block:∀k,k<W.heap.size->p k->W'.heap[k]? = W.heap[k]?
theorem Mid.trans {p:Nat->Prop}{A B C:World}(h:Mid p A B)(k:Mid p B C):Mid p A C :=
 ⟨k.os.trans h.os,k.tape.trans h.tape,k.output.trans h.output,Dm h.size k.size,fun i hi hp=>(k.block i (Eh hi h.size) hp).trans (h.block i hi hp)⟩
theorem Mid.of {p:Nat->Prop}{W W':World}(h:Below W.heap.size W W'):Mid p W W':=⟨h.os,h.tape,h.output,h.size,fun k hk _=>h.block k hk⟩
theorem Mid.putObj {p:Nat->Prop}(W:World)(l:Nat)(o:Obj)(h:¬p l):Mid p W (W.putObj l o) :=
 let g:=grownBy_putObj' W l o
 ⟨g.os,g.tape,g.output,g.size,fun k hk hp=>g.block k hk (fun e=>by cases e;exact h hp)⟩
theorem Mid.below {p:Nat->Prop}{W W':World}(h:Mid p W W'){B:Nat}(hB:B<=W.heap.size)(hp:∀k,k<B->p k):Below B W W' :=
 ⟨h.os,h.tape,h.output,h.size,fun k hk=>h.block k (Eh hk hB) (hp k hk)⟩
theorem Mid.cell {p:Nat->Prop}{W W':World}(h:Mid p W W'){a:Addr}{u:Value}(hp:p a.block)(hc:W.cell? a=some u):W'.cell? a=some u:=by
 have hlt:a.block<W.heap.size:=by
  unfold World.cell? at hc;rcases Nat.lt_or_ge a.block W.heap.size with h1|h1
  .exact h1
  .simp[Array.getElem?_eq_none h1]at hc
 rw[World.cell?_of_block (w:=W) (h.block _ hlt hp)];exact hc
theorem grown_of {W W':World}(h:Below W.heap.size W W'):W.grownBy W' none:=⟨h.os,h.tape,h.output,h.size,fun k hk _=>h.block k hk⟩
theorem OwnFrom.step {β:Type}{B:Nat}{I:β->World->Prop}(h:OwnFrom B I){s:β}{W W':World}(hs:I s W)(hb:Below W.heap.size W W'):I s W' :=
 h s W W' none hs (grown_of hb) (fun r e=>by cases e)
theorem Wi {β:Type}{B B':Nat}{I:β->World->Prop}(h:OwnFrom B I)(hB:B<=B'):OwnFrom B' I :=
 fun s W W' row hs hg hr=>h s W W' row hs hg (fun r e=>⟨Dm hB (hr r e).1,(hr r e).2⟩)
variable {F:Fence} {n:Nat} {P:Program}
def dP (F:Fence)(n:Nat)(P:Program)(g:Nat)(lb:Array Value)(B l N:Nat)(Kp:World->World->Prop)(Gd:Nat->Array Value->World->Prop)(W:World):Prop :=
 ∀J:Nat->World->Prop,OwnFrom B J ->
  (∀k v W1,k<N->J k W1->Gd k v W1->YieldAt F (n-1) P l v W1 fun e W'=>e=.returned (.bool true)/\J (k+1) W'/\Kp W1 W')->J 0 W ->
  CallsIn F n P g (#[.func (.yield l) #[] #[]]++lb) W fun e W'=>(∃v,e=.returned v)/\J N W'
variable {F:Fence} {n:Nat} {P:Program}
theorem Fw {g:Operand}{ts:Array Tmp}{assign body:Code}{Q:Exit->Act->World->Prop}{a:Act}{w:World}(hro:F.round=none)(h1:1<=n){gf:Nat}{lb:Array Value}(hg:a.eval g=.func (.func gf) #[] lb)(hFg:F.fn gf)(eg:∀args w,(callFunc gf args).run P w=.ok (.enter gf args) w){N:Nat}{Kp:World->World->Prop}{Gd:Nat->Array Value->World->Prop}(hGd:∀k vs W,Gd k vs W->vs.size=ts.size)(hseq:∀W,W.heap.size=w.heap.size+2->Below w.heap.size w W->dP F (n-1) P gf lb (w.heap.size+2) (w.heap.size+1) N Kp Gd W)(hKt:∀ {A B C:World},Kp A B->Kp B C->Kp A C)(hKb:∀W o,Kp W (W.putObj (w.heap.size+1) o))(I:Nat->World->Prop)(hI:OwnFrom w.heap.size I)(h0:I 0 w)(Ax:Nat->Act->World->Prop)(hAx:∀k a',OwnFrom w.heap.size (fun(_:Unit) W=>Ax k a' W))(hassign:∀(l k:Nat) (v:Array Value) (W:World) (K:Act->World->Prop),k<N->I k W->Gd k v W->(∀a' W',KeepsFrom w.heap.size W W'->Kp W W'->Ax k a' W'->K a' W') ->
   assign.wpIn (F.inRound l) (n-1-1) P (Exit.then K (fun _ _ _=>False)) { tmps:=(ts.zip v).foldl (fun t (p,v)=>t.setIfInBounds p v) a.tmps,defers:=[] } W)(hbody:∀(l k:Nat) (a':Act) (W:World),k<N->Ax k a' W->body.wpIn (F.inRound l) (n-1-1) P (fun e _ W'=>e=.normal/\KeepsFrom w.heap.size W W'/\Kp W W'/\I (k+1) W') a' W)(hdone:∀(D:Nat) (W:World),w.heap.size<=D->I N W->W.heap[D]? = some (.deferred (some []))->Q .normal { a with defers:={ target:=.collected D,args:=#[] }::a.defers } W) :
  (Code.rangeFunc g ts assign body).wpIn F n P Q a w:=by
 refine wpIn_rangeFunc fun fn hfn=>?_
 rw[hro]
 -- the record, as it stands and as it is in a round
 let st (s:LoopState):Obj:=.loop { state:=s,pending:=none,fn,tmps:=a.tmps,params:=ts,assign,body,defers:=w.heap.size }
 let W1:World:=(w.alloc (.deferred (some []))).alloc (st .ready)
 have hs1:W1.heap.size=w.heap.size+2:=by simp[W1]
 have hr1:W1.heap[w.heap.size+1]? = some (st .ready):=by
  have:=World.alloc_heap_new (w.alloc (.deferred (some []))) (st .ready);rwa [World.size_alloc]at this
 have hd1:W1.heap[w.heap.size]? = some (.deferred (some [])):=(Below.heap_alloc _ _ _ (by simp)).trans (World.alloc_heap_new w _);have hb1:Below w.heap.size w W1:=((Br _ w).alloc (Av _) _).alloc (by simp) _;have hI1:I 0 W1:=hI.alloc _ (hI.alloc _ h0);refine⟨w.heap.size+1,[{ target:=.collected w.heap.size,args:=#[] }],W1,{ target:=.fn (.func gf) lb,args:=#[.func (.yield (w.heap.size+1)) #[] #[]] },W1,gf,
  #[.func (.yield (w.heap.size+1)) #[] #[]]++lb,W1,run_enterLoop_outer _ _ _ _ _,?_,?_,?_,fun _=>h1,?_⟩
 .simp only[resolve,hg];simp[go_sem]
 .intro f' hf';simp[Target.leads]at hf';subst hf';exact hFg
 .simp[invoke,go_sem,eg]
 -- what holds between two rounds
 let J:Nat->World->Prop:=fun k W=>I k W/\W.heap[w.heap.size+1]? = some (st .ready)/\W.heap[w.heap.size]? = some (.deferred (some []))
 have hJ:OwnFrom (w.heap.size+2) J:=fun k A B row hs hgr hr=>by
  have far:∀j,j<w.heap.size+2->some j≠row:=fun j hj e=>by have:=(hr j e.symm).1;omega
  refine⟨Wi hI (by omega) k A B row hs.1 hgr hr,?_,?_⟩
  .exact(hgr.block _ (Hy hs.2.1).1 (far _ (by omega))).trans hs.2.1
  .exact(hgr.block _ (Hy hs.2.2).1 (far _ (by omega))).trans hs.2.2
 refine(hseq W1 hs1 hb1 J hJ ?_ ⟨hI1,hr1,hd1⟩).mono ?_
 ·-- one round
  rintro k v W hkN ⟨hi,hl,hd⟩ hgd;have hy:=run_yield (P:=P) (args:=v) hl (hGd k v W hgd);refine⟨fn,_,assign,body,hy,roundIn_of_wpIn hfn ?_⟩;refine hassign _ k v W _ hkN hi hgd ?_;intro a' Wa hka hkpa hax;have hla:=hka.same _ _ (by omega) hl rfl;have hda:=hka.same _ _ (Av _) hd rfl;have hlt:=(Hy hla).1;refine⟨_,run_beginRound hla rfl,?_⟩
  let Wb:World:=Wa.putObj (w.heap.size+1) (st .busy)
  have hlb:Wb.heap[w.heap.size+1]? = some (st .busy):=World.putObj_heap_same hlt;have hdb:Wb.heap[w.heap.size]? = some (.deferred (some [])):=(World.putObj_heap_other (by omega)).trans hda;refine wpIn_mono (hbody _ k a' Wb hkN ((hAx k a').putObj (s:=()) _ hax (by omega) hla rfl)) ?_;rintro e a3 W3 ⟨rfl,hk3,hp3,hi3⟩;have hl3:=hk3.same _ _ (by omega) hlb rfl;have hd3:=hk3.same _ _ (Av _) hdb rfl;have hlt3:=(Hy hl3).1;refine⟨_,_,run_endRound (P:=P) none hl3,rfl,⟨hI.putObj _ hi3 (by omega) hl3 rfl,World.putObj_heap_same hlt3,(World.putObj_heap_other (by omega)).trans hd3⟩,?_⟩;exact hKt hkpa (hKt (hKb Wa _) (hKt hp3 (hKb W3 _)))
 ·-- behind the iterator
  rintro e W2 ⟨⟨v,rfl⟩,hi,hl,hd⟩;exact⟨none,_,run_endLoop (P:=P) hl (by simp),hdone _ _ (Av _) (hI.putObj _ hi (by omega) hl rfl) ((World.putObj_heap_other (by omega)).trans hd)⟩
open Go Go.RowKit Go.Proofs.YtnbmfaihlefgfaaGreatDoor.Flow
def sv (x:Option Addr×Nat×Nat):Value:=.slice x.1 x.2.1 x.2.2
def Du (w:World)(g:Nat)(us:List (Option Addr×Nat×Nat)):Prop:=w.heap[g]? = some (.cells (us.map sv).toArray 36 (0,0))
theorem Du.lt {w:World}{g:Nat}{us:List (Option Addr×Nat×Nat)}(h:Du w g us):g<w.heap.size:=(Hy h).1
theorem Du.below {w w':World}{g B:Nat}{us:List (Option Addr×Nat×Nat)}(h:Du w g us)(hb:Below B w w')(hg:g<B):Du w' g us:=by
 unfold Du at *;rw[hb.block g hg];exact h
theorem Du.cell {w:World}{g j:Nat}{us:List (Option Addr×Nat×Nat)}{x:Option Addr×Nat×Nat}(h:Du w g us)(hj:us[j]? = some x):w.cell? ⟨g,j,none⟩=some (.slice x.1 x.2.1 x.2.2):=by
 unfold Du at h;simp[World.cell?,h,hj,sv]
theorem Du.free {w:World}{g:Nat}{us:List (Option Addr×Nat×Nat)}(h:Du w g us)(j:Nat):w.frozen? ⟨g,j,none⟩=false:=by
 unfold Du at h;simp[World.frozen?,h]
theorem Du.set {w:World}{g:Nat}{us:List (Option Addr×Nat×Nat)}(h:Du w g us)(j:Nat)(p:Option Addr)(n c:Nat):Du (w.setCell ⟨g,j,none⟩ (.slice p n c)) g (us.set j (p,n,c)):=by
 unfold Du at *;simp[World.setCell,Array.getElem?_modify,h,List.map_set,sv]
theorem Du.apart {w:World}{p:Option Addr}{n c N g:Nat}{us:List (Option Addr×Nat×Nat)}(hb:Du w g us)(h:Ai w p n c N)(h0:0<n):∀q,p=some q->q.block≠g:=by
 obtain⟨ws,r1,r2,r3,r4⟩:=h.ex;intro a ha hab;obtain⟨b',off,k1,k2,k3⟩:=r1.pos h0;rw[k1]at ha;cases ha
 have hbb:b'=g:=hab;subst hbb;have h1:=k3 0 (ws.getD 0 0) (by rw[Ex];simp[show 0<ws.length by rw[<-r1.len];exact h0]);rw[Nat.add_zero]at h1
 rcases Nat.lt_or_ge off us.length with h2|h2
 .rw[hb.cell (List.getElem?_eq_getElem h2)]at h1
  cases h1
 .unfold Du at hb;simp[World.cell?,hb,List.getElem?_eq_none h2]at h1
theorem Du.nat {w:World}{p:Option Addr}{n c N g:Nat}{us:List (Option Addr×Nat×Nat)}(hb:Du w g us)(h:Ai w p n c N)(j:Nat)(v:Value):Ai (w.setCell ⟨g,j,none⟩ v) p n c N:=by
 rcases Nat.eq_zero_or_pos n with rfl|h0
 .exact h.empty (by simp)
 .exact h.setCell (a:=⟨g,j,none⟩) (fun q hq=>hb.apart h h0 q hq) v
theorem Ap.store_row {B:Nat}{w:World}{g:Nat}{us:List (Option Addr×Nat×Nat)}(hb:Du w g us)(hB:B<=g)(j:Nat)(v:Value):Ap B w (w.setCell ⟨g,j,none⟩ v) :=
 ⟨(Br _ _).setCell hB _,fun _ _ _ _ k=>hb.nat k j v⟩
theorem RG.store_row {B:Nat}{wx:World}{l:List (Nat×Obj)}{w:World}{g:Nat}{us:List (Option Addr×Nat×Nat)}(h:RG B wx l w)(hb:Du w g us)(hB:B<=g)(hn:∀x∈l,x.1≠g)(j:Nat)(v:Value):RG B wx l (w.setCell ⟨g,j,none⟩ v) :=
 ⟨h.keep.trans (Ap.store_row hb hB j v),by simpa using h.base,fun x hx=>by
  have:=hn x hx;simp[World.setCell,Array.getElem?_modify,this.symm];exact h.blk x hx⟩
structure dQ (d:Bool) (g:Nat) (us:List (Option Addr×Nat×Nat)) (k N:Nat) (w:World):Prop where
 z:d=false->Du w g us
 o:d=true->∃p n c,Du w g (us.set k (p,n,c))/\Ai w p n c N
theorem dQ.later {d:Bool}{g k N:Nat}{us:List (Option Addr×Nat×Nat)}{w w':World}(h:dQ d g us k N w)(hb:Below w.heap.size w w'):dQ d g us k N w' :=
 ⟨fun e=>(h.z e).below hb (h.z e).lt,fun e=>let ⟨p,n,c,h1,h2⟩:=h.o e;⟨p,n,c,h1.below hb h1.lt,h2.below hb⟩⟩
theorem dQ.put {g k N:Nat}{us:List (Option Addr×Nat×Nat)}{w:World}(h:dQ false g us k N w){p:Option Addr}{n c:Nat}(hx:Ai w p n c N):dQ true g us k N (w.setCell ⟨g,k,none⟩ (.slice p n c)) :=
 ⟨(fun e=>by cases e),fun _=>⟨p,n,c,(h.z rfl).set k p n c,(h.z rfl).nat hx k _⟩⟩
theorem Oq (n:Nat)(h:n<=1000000)(w:World):(Instr.makeSlice 32 (.int .i64 (n:Nat)) (.int .i64 (n:Nat))).run Tryz.prog w =
  .ok (.slice (some ⟨w.heap.size,0,none⟩) n n) (w.alloc (.cells (madeCells #[.slice none 0 0] n) 36)):=by
 obtain⟨i,hi,hz,hs,hb⟩:=info_parts Tryz.info_Nat;have:=run_make (P:=Tryz.prog) w 32 36 i (.agg #[.slice none 0 0]) Tryz.underlying32 hi hz .i64 .i64 n n (by omega) (by omega) (by rw[hb];omega) (by omega);simp only[Int.toNat_natCast,hs,Nat.mul_one]at this;rw[this];rfl
theorem Du.made (w:World)(n:Nat):Du (w.alloc (.cells (madeCells #[.slice none 0 0] n) 36)) w.heap.size (List.replicate n (none,0,0)):=by
 unfold Du;have h:=toList_madeCells_one (Value.slice none 0 0) n;have h2:madeCells #[Value.slice none 0 0] n=((List.replicate n ((none,0,0):Option Addr×Nat×Nat)).map sv).toArray:=by
  rw[<-Array.toArray_toList (xs:=madeCells #[Value.slice none 0 0] n),h,List.map_replicate];rfl
 rw[<-h2];exact heap_alloc_new w _
def Ob (w:World)(e:Nat)(us:List (Option Addr×Nat×Nat))(Ns:List Nat)(k:Nat):Prop:=∀j N,j<k->Ns[j]? = some N->∃x,us[j]? = some x/\Ai w x.1 x.2.1 x.2.2 N/\N<Ao e
theorem Ob.keep {w w':World}{B e k:Nat}{us:List (Option Addr×Nat×Nat)}{Ns:List Nat}(h:Ob w e us Ns k)(hk:Ap B w w'):Ob w' e us Ns k:=fun j N hj hN=>
 let ⟨x,h1,h2,h3⟩:=h j N hj hN
 ⟨x,h1,hk.nat _ _ _ _ h2,h3⟩
theorem Ob.step {w:World}{e k N:Nat}{us:List (Option Addr×Nat×Nat)}{Ns:List Nat}(h:Ob w e us Ns k)(hk:k<us.length)(hN:Ns[k]? = some N){p:Option Addr}{n c:Nat}(hn:Ai w p n c N)(hl:N<Ao e):Ob w e (us.set k (p,n,c)) Ns (k+1):=fun j M hj hM=>by
 rcases Nat.lt_or_ge j k with h1|h1
 .obtain⟨x,h2,h3⟩:=h j M h1 hM;exact⟨x,by rw[List.getElem?_set_ne (by omega)];exact h2,h3⟩
 .obtain rfl:j=k:=by omega
  rw[hN]at hM;cases hM
  exact⟨(p,n,c),List.getElem?_set_self hk,hn,hl⟩
theorem Ob.plist {w:World}{g e n:Nat}{us:List (Option Addr×Nat×Nat)}{Ns:List Nat}(h:Ob w e us Ns n)(hr:Du w g us)(hn:Ns.length=n)(hl:n<=1000000):Aw w e (some ⟨g,0,none⟩) n n Ns :=
 ⟨hn.symm,Av _,by omega,(fun e=>by cases e),fun _=>⟨g,0,rfl,hr.lt,fun i N hN=>by
  have hi:i<n:=by have:=(List.getElem?_eq_some_iff.1 hN).1;omega
  obtain⟨x,h1,h2,h3⟩:=h i N hi hN;exact⟨x.1,x.2.1,x.2.2,by rw[Nat.zero_add];exact hr.cell h1,h2,h3⟩⟩⟩
section
variable {W W':World} {row:Option Nat}
def Calm (W:World)(row:Option Nat):Prop:=∀r,row=some r->∃o:Obj,W.heap[r]? = some o/\o.isCells=false
theorem Dt (hg:W.grownBy W' row)(hr:Calm W row){b:Nat}{cs:Array Value}{t:TypeId}{m:Nat×Nat}(h:W.heap[b]? = some (.cells cs t m)):W'.heap[b]? = some (.cells cs t m):=by
 rw[hg.block b (Hy h).1 (fun e=>by
  obtain⟨o,ho,hc⟩:=hr b e.symm;rw[h]at ho;cases ho;cases hc)]
 exact h
theorem Row.kept {k:IntKind}{p:Option Addr}{n c:Nat}{xs:List Nat}(h:Row W k p n c xs)(hg:W.grownBy W' row)(hr:Calm W row):Row W' k p n c xs:=by
 refine⟨h.len,h.cap,h.max,?_⟩;rcases h.at_ with h1|⟨b,off,h1,h2,h3⟩
 .exact .inl h1
 .exact .inr ⟨b,off,h1,Eh h2 hg.size,fun i x hx=>cell_kept (h3 i x hx) hg hr⟩
theorem Ai.kept {p:Option Addr}{n c N:Nat}(h:Ai W p n c N)(hg:W.grownBy W' row)(hr:Calm W row):Ai W' p n c N:=by
 obtain⟨ws,r1,r2,r3,r4⟩:=h.ex;exact⟨ws,r1.kept hg hr,r2,r3,r4⟩
theorem Fit.kept {e N:Nat}{v:Value}(h:Fit e N v W)(hg:W.grownBy W' row)(hr:Calm W row):Fit e N v W' :=
 let ⟨p,n,c,h1,h2,h3⟩:=h
 ⟨p,n,c,h1,h2.kept hg hr,h3⟩
end
attribute [local go_sem] Oper.semAt_some
structure dO (w:World) (e:Nat) (us:List (Option Addr×Nat×Nat)) (Ns:List Nat):Prop where
 len:us.length=Ns.length
 at_:∀(i N:Nat),Ns[i]? = some N->∃x,us[i]? = some x/\Jp w x N/\N<Ao e
theorem dO.get {w:World}{e i:Nat}{us:List (Option Addr×Nat×Nat)}{Ns:List Nat}{x:Option Addr×Nat×Nat}(h:dO w e us Ns)(hx:us[i]? = some x):∃N,Ns[i]? = some N/\Jp w x N/\N<Ao e:=by
 have hi:i<Ns.length:=by rw[<-h.len];exact(List.getElem?_eq_some_iff.1 hx).1
 obtain⟨y,h1,h2⟩:=h.at_ i _ (List.getElem?_eq_getElem hi)
 rw[hx]at h1;cases h1
 exact⟨_,List.getElem?_eq_getElem hi,h2⟩
structure Pe (w:World) (p:Option Addr) (n c b off:Nat) (us:List (Option Addr×Nat×Nat)):Prop where
 len:us.length=n
 cap:n<=c
 max:c<=9223372036854775807
 ptr:0<n->p=some ⟨b,off,none⟩/\b<w.heap.size
 cell:∀(i:Nat) (x:Option Addr×Nat×Nat),us[i]? = some x->w.cell? ⟨b,off+i,none⟩=some (sv x)
theorem Pe.below {w w':World}{p:Option Addr}{n c b off:Nat}{us:List (Option Addr×Nat×Nat)}(h:Pe w p n c b off us)(hb:Below w.heap.size w w'):Pe w' p n c b off us :=
 ⟨h.len,h.cap,h.max,fun h0=>⟨(h.ptr h0).1,Eh (h.ptr h0).2 hb.size⟩,fun i x hx=>by
  have h0:0<n:=by rw[<-h.len];have:=(List.getElem?_eq_some_iff.1 hx).1;omega
  rw[hb.cell (p:=⟨b,off+i,none⟩) (h.ptr h0).2];exact h.cell i x hx⟩
theorem Qn {w:World}{e:Nat}{p:Option Addr}{n c:Nat}{Ns:List Nat}(h:Aw w e p n c Ns):∃us b off,dO w e us Ns/\Pe w p n c b off us:=by
 rcases Nat.eq_zero_or_pos n with h0|h0
 .have hN:Ns=[]:=List.eq_nil_of_length_eq_zero (by rw[<-h.len];exact h0);subst hN;exact⟨[],0,0,⟨rfl,fun i N hN=>by simp at hN⟩,⟨h0.symm,h.cap,h.max,fun h1=>by omega,fun i x hx=>by simp at hx⟩⟩
 .obtain⟨b,off,h1,h2,h3⟩:=h.at_ h0
  have hex:∀i:Nat,∃x:Option Addr×Nat×Nat,∀N,Ns[i]? = some N->w.cell? ⟨b,off+i,none⟩=some (sv x)/\Jp w x N/\N<Ao e:=fun i=>by
   cases hi:Ns[i]? with
   | none=>exact⟨(none,0,0),fun N hN=>by cases hN⟩
   | some N=>
    obtain⟨q,m,d,k1,k2,k3⟩:=h3 i N hi;exact⟨(q,m,d),fun M hM=>by cases hM;exact⟨k1,k2,k3⟩⟩
  let f:Nat->Option Addr×Nat×Nat:=fun i=>Classical.choose (hex i)
  have hf:∀(i N:Nat),Ns[i]? = some N->w.cell? ⟨b,off+i,none⟩=some (sv (f i))/\Jp w (f i) N/\N<Ao e:=fun i=>Classical.choose_spec (hex i)
  have hg:∀(i:Nat) (x:Option Addr×Nat×Nat),((List.range Ns.length).map f)[i]? = some x->i<Ns.length/\x=f i:=fun i x hx=>by
   rw[List.getElem?_map]at hx
   rcases Nat.lt_or_ge i Ns.length with hi|hi
   .rw[List.getElem?_range hi]at hx
    simp at hx;exact⟨hi,hx.symm⟩
   .rw[List.getElem?_eq_none (by simpa using hi)]at hx
    simp at hx
  refine⟨(List.range Ns.length).map f,b,off,⟨by simp,fun i N hN=>?_⟩,⟨by rw[List.length_map,List.length_range];exact h.len.symm,h.cap,h.max,fun _=>⟨h1,h2⟩,fun i x hx=>?_⟩⟩
  .have hi:i<Ns.length:=(List.getElem?_eq_some_iff.1 hN).1;exact⟨f i,by rw[List.getElem?_map,List.getElem?_range hi];rfl,(hf i N hN).2⟩
  .obtain⟨hi,rfl⟩:=hg i x hx;exact(hf i _ (List.getElem?_eq_getElem hi)).1
theorem Vv (w:World)(p:Option Addr)(n c:Nat) :
  Calls Tryz.prog 197 #[.slice p n c] w fun e w'=>e=.returned (.func (.func 226) #[] #[.pointer (some ⟨w.heap.size,0,none⟩)]) /\
   w'=w.alloc (.cells #[.slice p n c] 32):=by
 go_enter Tryz.func197,Tryz.ntmps197;go_wp2;go_ret;exact⟨rfl,rfl⟩
theorem Tt (n B l b1 b off len cap:Nat)(p:Option Addr)(us:List (Option Addr×Nat×Nat))(w0 W:World)(hr:Pe w0 p len cap b off us)(hlen:len<=1000000)(Kp:World->World->Prop)(hW:Below w0.heap.size w0 W)(hc1:W.cell? ⟨b1,0,none⟩=some (.slice p len cap))(hkp:∀A C,Kp A C->w0.heap.size<=A.heap.size->Below w0.heap.size A C) :
  dP Fence.wide n Tryz.prog 226 #[.pointer (some ⟨b1,0,none⟩)] B l len Kp (fun k vs _=>∃x,us[k]? = some x/\vs=#[.agg #[sv x]]) W:=by
 intro J hJ hY h0;have HJ:Ab (OwnFrom B J):=⟨hJ⟩
 have HY:=Aa hY;have HK:=Aa hkp;have HR:=Aa hr;have HJ0:=Aa h0;have HW:=Aa hW;clear hJ hY hkp hr h0 hW;refine callsIn_of_wp Tryz.func226 rfl trivial ?_ rfl;simp only[Tryz.ntmps226,List.size_toArray,List.length_cons,List.length_nil,Nat.reduceAdd,Nat.reduceSub,Array.replicate_succ,Array.replicate_zero,List.push_toArray,List.append_toArray,List.nil_append,List.cons_append]
 gi_wp2
 gi_loopw [4,7] (fun _ i wr=>∃k:Nat,k<=len/\i=.int .i64 (k:Nat)/\Ab (J k wr)/\Ab (Below w0.heap.size w0 wr)) (fun _ i _=>len-(intOf i).toNat)
 case atStart=>exact⟨0,by omega,rfl,HJ0,HW⟩
 case round=>
  obtain⟨k,hk,rfl,HJk,HB⟩:=hrel
  by_cases hkn:k<len
  .obtain⟨x,hx⟩:∃x,us[k]? = some x:=⟨us[k]'(by rw[HR.out.len];exact hkn),List.getElem?_eq_getElem _⟩
   obtain⟨rfl,hblt⟩:=HR.out.ptr (by omega);obtain⟨q,m,d⟩:=x;have hc:wr.cell? ⟨b,off+k,none⟩=some (.slice q m d):=(HB.out.cell (p:=⟨b,off+k,none⟩) hblt).trans (HR.out.cell k _ hx);have hkn':(k:Int)<len:=by omega
   obtain⟨wa,hwa⟩:∃wa,wr.alloc (.cells #[.slice q m d] 36)=wa:=⟨_,rfl⟩
   have hba:Below wr.heap.size wr wa:=by rw[<-hwa];exact(Br _ _).alloc (Av _) _
   have hbx:Af wa wr.heap.size (.slice q m d):=by rw[<-hwa];exact Af.made wr _
   have c4:=hbx.cell;have HBa:Ab (Below w0.heap.size w0 wa):=⟨HB.out.trans (hba.mono HB.out.size)⟩
   obtain⟨fn,tmps,assign,body,hy,hR⟩:=HY.out k #[.agg #[.slice q m d]] wa hkn (OwnFrom.step HJ.out HJk.out hba) ⟨_,hx,rfl⟩;have HRn:=Aa hR;clear hx hblt hba hbx hR
   gi_wp2_with fail
   refine⟨fun h=>by simp[Fence.wide]at h,HRn.out.mono ?_⟩;rintro e W3 ⟨rfl,hJ3,hk3⟩;have HJ3:=Aa hJ3;have HB3:=Aa (HBa.out.trans (HK.out _ _ hk3 HBa.out.size));clear hJ3 hk3 hy c4 hc
   gi_wp2
   go_roundw
   case rel=>exact⟨k+1,by omega,by go_num,HJ3,HB3⟩
   case measure=>simp[intOf];omega
  .have hkN:k=len:=by omega
   subst hkN;have hkn':¬(k:Int)<k:=by omega
   gi_wp2
   go_end0
   exact⟨⟨_,rfl⟩,HJk.out⟩
theorem Aw.tight {w:World}{e f:Nat}{p:Option Addr}{n c:Nat}{Ns:List Nat}(h:Aw w e p n c Ns)(hl:∀N∈Ns,N<Ao f):Aw w f p n c Ns:=by
 refine⟨h.len,h.cap,h.max,h.nil,fun h0=>?_⟩;obtain⟨b,off,h1,h2,h3⟩:=h.at_ h0
 exact⟨b,off,h1,h2,fun i N hN=>let ⟨q,m,d,k1,k2,_⟩:=h3 i N hN;⟨q,m,d,k1,k2,hl N (List.mem_of_getElem? hN)⟩⟩
theorem Aw.wide {w:World}{e f:Nat}{p:Option Addr}{n c:Nat}{Ns:List Nat}(h:Aw w e p n c Ns)(hf:e<=f):Aw w f p n c Ns:=by
 refine⟨h.len,h.cap,h.max,h.nil,fun h0=>?_⟩;obtain⟨b,off,h1,h2,h3⟩:=h.at_ h0
 exact⟨b,off,h1,h2,fun i N hN=>let ⟨q,m,d,k1,k2,k3⟩:=h3 i N hN;⟨q,m,d,k1,k2,Eh k3 (Cu hf)⟩⟩
theorem Fa.wide {w:World}{e f:Nat}{p:Option Addr}{n c:Nat}{l:List Ce}(h:Fa w e p n c l)(hf:e<=f):Fa w f p n c l:=by
 refine⟨h.len,h.cap,h.max,h.nil,fun h0=>?_⟩;obtain⟨b,off,h1,h2,h3⟩:=h.at_ h0
 refine⟨b,off,h1,h2,fun i s hs=>?_⟩;obtain⟨q0,m0,d0,q1,m1,d1,q2,m2,d2,k0,k1,k2,k3,k4,k5,k6,k7⟩:=h3 i s hs;exact⟨q0,m0,d0,q1,m1,d1,q2,m2,d2,k0,k1,k2,k3,Eh k4 (Cu hf),k5,Eh k6 (Cu hf),k7.wide hf⟩
theorem cP (w:World)(e:Nat)(l:List Ce)(he:e<=900000):eY 221 #[] w e l (fun s=>@decide (Ew s) (Classical.propDecidable _)):=by
 refine⟨fun W M u _ _ hu=>?_⟩;rw[Array.append_empty];exact cO hu he
theorem gA (n:Nat)(h:n<=1000000)(w:World):(Instr.makeSlice 32 (.int .i64 0) (.int .i64 (n:Nat))).run Tryz.prog w =
  .ok (.slice (some ⟨w.heap.size,0,none⟩) 0 n) (w.alloc (.cells (madeCells #[.slice none 0 0] n) 36)):=by
 obtain⟨i,hi,hz,hs,hb⟩:=info_parts Tryz.info_Nat;have:=run_make (P:=Tryz.prog) w 32 36 i (.agg #[.slice none 0 0]) Tryz.underlying32 hi hz .i64 .i64 0 n (by omega) (by omega) (by rw[hb];omega) (by omega);simp only[Int.toNat_natCast,hs,Nat.mul_one]at this;rw[this];rfl
theorem Fb.made (w:World)(B n:Nat)(hn:n<=1000000)(hB:B<=w.heap.size)(bad:Nat->Prop):Fb Ai 36 B bad (w.alloc (.cells (madeCells #[.slice Option.none 0 0] n) 36)) (.slice (some ⟨w.heap.size,0,Option.none⟩) 0 n) [] :=
 ⟨[],World.ownsRow_made w _ n hB (by simp only[maxLen];omega) (by rw[size_madeCells,Nat.mul_one]),rfl,fun i N h=>by simp at h⟩
theorem Te {l:List Ce}{k:Nat}{s:Ce}(h:l[k]? = some s):Cq [] (l.take (k+1)) ↔ Cq [] (l.take k)/\Gw s.n s.base s.ps ((l.take k).map (·.n)):=by
 rw[Dx h,Tf,List.nil_append]
theorem iB {l:List Ce}(k:Nat)(h:Cq [] l):Cq [] (l.take k):=by
 rw[<-List.take_append_drop k l]at h
 exact((Oz _ _ _).1 h).1
open Classical in
theorem oP (f:Nat)(hf:f<=100):∀(w:World) (p:Option Addr) (n c:Nat) (l:List Ce),Fa w 200 p n c l->n<=60->(∀s∈l,s.ps.length<=1000)->(∀s∈l,¬Ew s->s.n<Ao f/\s.base<Ao f/\∀q∈s.ps,q<Ao f) ->
  Calls Tryz.prog 193 #[.slice p n c] w fun en w'=>en=.returned (.int .i64 (if ∃s∈l,Ew s then 4 else if Cq [] l then 0 else 8))/\Below w.heap.size w w':=by
 intro w p n c l h hn hps hlim;have HH:=Aa h;have HLN:=Aa h.len;have HPS:=Aa hps;have HLIM:=Aa hlim;obtain⟨ANS,hANS⟩:∃X:Int,(if ∃s∈l,Ew s then 4 else if Cq [] l then 0 else 8)=X:=⟨_,rfl⟩
 have HANS:=Aa hANS;rw[hANS];clear h hps hlim hANS;have hn64:¬(64:Int)<n:=by omega
 obtain⟨S0,hS0⟩:∃X,l.any (fun s=>decide (Ew s))=X:=⟨_,rfl⟩
 have HS0:=Aa hS0;clear hS0;go_enter Tryz.func193,Tryz.ntmps193
 go_wp2_with fail
 refine(Se w 200 p n c l _ _ (enters_of Tryz.func221 (by kernel_rfl) rfl) (fun s=>decide (Ew s)) HH.out (cP _ 200 l (by decide))).mono ?_;rintro en w1 ⟨rfl,hb1⟩;rw[HS0.out];have HB1:=Aa hb1;clear hb1
 cases S0 with
 | true=>
  have HF:Ab (ANS=4):=⟨by
   rw[<-HANS.out];obtain⟨s,hs,ht⟩:=List.any_eq_true.1 HS0.out;exact if_pos ⟨s,hs,of_decide_eq_true ht⟩⟩
  go_wp2;go_ret;exact⟨by rw[HF.out];rfl,HB1.out⟩
 | false=>
  have hnl:∀s∈l,¬Ew s:=fun s hs ht=>by
   have:=List.any_eq_false.1 HS0.out s hs;exact this (decide_eq_true ht)
  have HNL:=Aa hnl;have HANS2:Ab ((if Cq [] l then 0 else 8:Int)=ANS):=⟨by
   rw[<-HANS.out];exact(if_neg (fun h=>by obtain⟨s,hs,ht⟩:=h;exact hnl s hs ht)).symm⟩
  have HLT:Ab (∀s∈l,s.n<Ao f/\s.base<Ao f/\∀q∈s.ps,q<Ao f):=⟨fun s hs=>HLIM.out s hs (hnl s hs)⟩
  clear hnl;have hmk:=fun wx=>gA n (by omega) wx
  have HOV:=Aa (Fb.made w1 w.heap.size n (by omega) HB1.out.size (fun g=>w.heap.size<=g));have hbm:Below w1.heap.size w1 (w1.alloc (.cells (madeCells #[.slice none 0 0] n) 36)):=Dl;have HBM:=Aa (Ae HB1.out hbm);clear hbm;go_wp2
  go_loopw [3,5,18] (fun vv _ iv wr=>∃k:Nat,k<=n/\iv=.int .i64 k/\Ab (Below w.heap.size w wr)/\Ab (Fb Ai 36 w.heap.size (fun g=>w.heap.size<=g) wr vv ((l.take k).map (·.n)))/\Ab (Cq [] (l.take k))) (fun _ _ iv _=>n-(intOf iv).toNat)
  case atStart=>exact⟨0,by omega,rfl,HBM,HOV,⟨trivial⟩⟩
  case round=>
   obtain⟨k,hk,rfl,HB,HO,HC⟩:=hrel
   by_cases hkn:k<n
   .obtain⟨S,hSk⟩:∃s,l[k]? = some s:=⟨l[k]'(by rw[<-HLN.out];exact hkn),List.getElem?_eq_getElem _⟩
    have HSk:=Aa hSk;have HM:=Aa (List.mem_of_getElem? hSk);obtain⟨b,off,rfl,hb,hc⟩:=HH.out.at_ (by omega)
    obtain⟨q0,m0,d0,q1,m1,d1,q2,m2,d2,y0,y1,y2,y3,y4,y5,y6,y7⟩:=hc k S hSk;have HNA:=Aa y3;have HNB:=Aa y5;have HNP:=Aa (y7.tight (HLT.out S HM.out).2.2);have hcl:∀o,wr.cell? ⟨b,o,none⟩=w.cell? ⟨b,o,none⟩:=fun o=>HB.out.cell (p:=⟨b,o,none⟩) hb
    have x0:wr.cell? ⟨b,off+k*3,none⟩=some (.slice q0 m0 d0):=by rw[hcl];exact y0
    have x1:wr.cell? ⟨b,off+k*3+1,none⟩=some (.slice q1 m1 d1):=by rw[hcl];exact y1
    have x2:wr.cell? ⟨b,off+k*3+2,none⟩=some (.slice q2 m2 d2):=by rw[hcl];exact y2
    have hkn':(k:Int)<n:=by omega
    have hbx:Below wr.heap.size wr (wr.alloc (.cells #[.slice q0 m0 d0,.slice q1 m1 d1,.slice q2 m2 d2] 182)):=Dl;have HBX3:=Aa (Qf.made 182 wr (.slice q0 m0 d0) (.slice q1 m1 d1) (.slice q2 m2 d2));obtain⟨wa,hwa⟩:∃wa,wr.alloc (.cells #[.slice q0 m0 d0,.slice q1 m1 d1,.slice q2 m2 d2] 182)=wa:=⟨_,rfl⟩
    rw[hwa]at hbx HBX3
    have HBa:=Aa (Ae HB.out hbx);have HOa:=Aa (HO.out.below hbx);have hmem:∀N∈(l.take k).map (·.n),N<Ao f:=fun N hN=>by
     obtain⟨s,hs,rfl⟩:=List.mem_map.1 hN;exact(HLT.out s (List.mem_of_mem_take hs)).1
    have HL60:Ab (((l.take k).map (·.n)).length<=1000):=⟨by rw[List.length_map,List.length_take];omega⟩
    obtain⟨Ks,hKs⟩:∃Ks,(l.take k).map (·.n)=Ks:=⟨_,rfl⟩
    have HKs:=Aa hKs;rw[hKs]at hmem HL60 HOa HO
    clear hKs;obtain⟨nk,hnk⟩:∃nk,Ks.length=nk:=⟨_,rfl⟩
    obtain⟨p1,c1,rfl,hp1⟩:=HOa.out.plist hmem;have HNk:=Aa hnk;rw[hnk]at hp1 HL60 HOa HO
    rw[hnk];clear hnk;have HP1:=Aa hp1;have z0:=HBX3.out.cells.1;have z1:=HBX3.out.cells.2.1;have z2:=HBX3.out.cells.2.2;clear hc hcl y0 y1 y2 y3 y4 y5 y6 y7 hbx hmem hp1 hSk;obtain⟨D,hD⟩:∃X,decide (Gw S.n S.base S.ps Ks)=X:=⟨_,rfl⟩
    have HD:=Aa hD;clear hD
    go_wp2_with fail
    refine(oI f hf wa S.n S.base q0 m0 d0 q1 m1 d1 q2 m2 d2 S.ps _ _ _ _ (HNA.out.below HBa.out) (HLT.out S HM.out).1 (HNB.out.below HBa.out) (HLT.out S HM.out).2.1 (HNP.out.below HBa.out) HP1.out (by rw[HNP.out.len];exact HPS.out S HM.out) HL60.out).mono ?_;rintro en w3 ⟨rfl,hb3⟩;rw[HD.out];have HB3:=Aa (Ae HBa.out hb3);have HO3:=Aa (HOa.out.below hb3);have HX3:=Aa (HBX3.out.below hb3 HBX3.out.lt);clear hb3 x0 x1 x2 z0 z1 z2
    cases D with
    | false=>
     have HF:Ab (ANS=8):=⟨by
      rw[<-HANS2.out,if_neg];intro hh;exact of_decide_eq_false HD.out (by rw[<-HKs.out];exact((Te HSk.out).1 (iB (k+1) hh)).2)⟩
     go_wp2;go_ret;exact⟨by rw[HF.out];rfl,HB3.out⟩
    | true=>
     have HC':Ab (Cq [] (l.take (k+1))):=⟨(Te HSk.out).2 ⟨HC.out,by rw[HKs.out];exact of_decide_eq_true HD.out⟩⟩
     have HTk:Ab ((l.take (k+1)).map (·.n)=Ks++[S.n]):=⟨by rw[Dx HSk.out,List.map_append,HKs.out];rfl⟩
     have hb4:Below w3.heap.size w3 (w3.alloc (.cells #[.slice q0 m0 d0] 36)):=Dl;have hx4:(w3.alloc (.cells #[.slice q0 m0 d0] 36)).cell? ⟨w3.heap.size,0,none⟩=some (.slice q0 m0 d0):=(Af.made w3 (.slice q0 m0 d0)).cell;obtain⟨w4,hw4⟩:∃w4,w3.alloc (.cells #[.slice q0 m0 d0] 36)=w4:=⟨_,rfl⟩
     rw[hw4]at hb4 hx4
     have hB4:=Ae HB3.out hb4;have hfirm:Jo (fun w=>Ai w q0 m0 d0 S.n) (fun g=>w.heap.size<=g) w4:=Je.firm (HNA.out.below hB4) fun q hq hle=>by
      have:=Je.lt HNA.out q hq;omega
     obtain⟨i1,hi1,hz1,hs1,hbb1⟩:=info_parts Tryz.info_Nat;obtain⟨v9,w9,happ,ho9,hg9,_⟩:=(HO3.out.below hb4).app Tryz.underlying32 hi1 hz1 hs1 hbb1 rfl (by decide) hB4.size (a:=⟨w3.heap.size,0,none⟩) (c:=1) (x:=(q0,m0,d0)) hx4 hfirm (fun g hg=>(HO3.out.block g hg).1) (by rw[HNk.out];exact Dm HL60.out (by decide)) 32;have HO9:=Aa ho9;have HB9:Ab (Below w.heap.size w w9):=⟨hB4.grown hg9 hB4.size fun g hg=>(HO3.out.block g hg).1⟩
     have z0:=HX3.out.cells.1;clear hb4 hx4 hB4 hfirm hi1 hz1 hs1 hbb1 ho9 hg9
     go_wp2_with (at_builtin;refine Lib.wpList_append_run _ rfl _ _ _ _ rfl _ _ rfl rfl _ _ happ ?_;refine Tn.out ?_)
     refine⟨?_⟩;clear happ z0;go_wp2;go_roundw
     case rel=>exact⟨k+1,by omega,by go_num,HB9,⟨by rw[HTk.out];exact HO9.out⟩,HC'⟩
     case measure=>simp[intOf];omega
   .obtain rfl:k=n:=by omega
    have hkn':¬(k:Int)<k:=by omega
    have htk:l.take k=l:=List.take_of_length_le (by rw[<-HLN.out];exact Av _);rw[htk]at HC
    have HF:Ab (ANS=0):=⟨by rw[<-HANS2.out,if_pos HC.out]⟩
    clear htk;go_wp2;go_ret;exact⟨by rw[HF.out];rfl,HB.out⟩
theorem Aw.lim {w:World}{e:Nat}{p:Option Addr}{n c:Nat}{Ns:List Nat}(h:Aw w e p n c Ns):∀N∈Ns,N<Ao e:=fun N hN=>by
 obtain⟨i,hi⟩:=List.getElem?_of_mem hN;obtain⟨b,off,_,_,h3⟩:=h.at_ (by rw[h.len];have:=(List.getElem?_eq_some_iff.1 hi).1;omega)
 obtain⟨_,_,_,_,_,h4⟩:=h3 i N hi;exact h4
theorem Fa.lim {w:World}{e:Nat}{p:Option Addr}{n c:Nat}{l:List Ce}(h:Fa w e p n c l):∀s∈l,s.n<Ao e/\s.base<Ao e/\∀q∈s.ps,q<Ao e:=fun s hs=>by
 obtain⟨i,hi⟩:=List.getElem?_of_mem hs;obtain⟨b,off,_,_,h3⟩:=h.at_ (by rw[h.len];have:=(List.getElem?_eq_some_iff.1 hi).1;omega)
 obtain⟨_,_,_,_,_,_,_,_,_,_,_,_,_,k4,_,k6,k7⟩:=h3 i s hi;exact⟨k4,k6,k7.lim⟩
theorem Xr {e N:Nat}(he:e<=32)(h:N<Ao e):¬1024<Ak N:=by
 have:Ak N<=32*e:=(Bq N _).2 (by
  have:Ao e=2^(32*e):=by unfold Ao;rw[Nat.pow_mul]
  rw[<-this];exact h)
 omega
theorem kD (w:World)(e f:Nat)(l:List Ce)(b:Nat)(v:Value)(N:Nat)(hb:b<w.heap.size)(hc:w.cell? ⟨b,0,none⟩=some v)(hv:Fit f N (.agg #[v]) w)(he:e<=900000)(hf:f<=900000) :
  eY 191 #[.pointer (some ⟨b,0,none⟩)] w e l (fun s=>decide (s.n=N)):=by
 refine⟨fun W s u hbw _ hu=>?_⟩;have hc':W.cell? ⟨b,0,none⟩=some v:=(hbw.cell (p:=⟨b,0,none⟩) hb).trans hc;have hv':=hv.below hbw;obtain⟨q0,m0,d0,q1,m1,d1,q2,m2,d2,rfl,h0,l0,h1,l1,h2⟩:=hu.ex;have hbW:b<W.heap.size:=Eh hb hbw.size;have hbx:Below W.heap.size W (W.alloc (.cells #[.slice q0 m0 d0,.slice q1 m1 d1,.slice q2 m2 d2] 182)):=Dl;have HBX3:=Aa (Qf.made 182 W (.slice q0 m0 d0) (.slice q1 m1 d1) (.slice q2 m2 d2));obtain⟨wa,hwa⟩:∃wa,W.alloc (.cells #[.slice q0 m0 d0,.slice q1 m1 d1,.slice q2 m2 d2] 182)=wa:=⟨_,rfl⟩
 rw[hwa]at hbx HBX3
 have hc2:wa.cell? ⟨b,0,none⟩=some v:=(hbx.cell (p:=⟨b,0,none⟩) hbW).trans hc';have HA:=Aa ((Fit.of h0 l0).below hbx);have HV:=Aa (hv'.below hbx);have HX:=Aa hbx;have hca:=HBX3.out.cells.1;obtain⟨pv,nv,cv,hev,_,_⟩:=hv;cases hev;obtain⟨SN,hSN⟩:∃x,s.n=x:=⟨_,rfl⟩
 rw[hSN]at HA
 have HSN:=Aa hSN;clear hSN hu h0 l0 h1 l1 h2 hbx hv' hc' hc;go_enter Tryz.func191,Tryz.ntmps191
 go_wp2_with fail
 refine(Im HA.out HV.out he hf).mono ?_;rintro en w1 ⟨_,rfl,rfl,hb1⟩;have HB1:=Aa (Ae HX.out hb1);have e0:((By SN N:Int)==0)=decide (SN=N):=by
  by_cases hnm:SN=N
  .simp[hnm,Cr.2]
  .have:By SN N≠0:=fun h0=>hnm (Cr.1 h0)
   simp[hnm,this]
 have HE:=Aa e0;clear e0 hb1 hc2 hca;generalize By SN N=K at *;go_wp2;go_ret;exact⟨by rw[HSN.out,<-HE.out];rfl,HB1.out⟩
open Classical in
theorem eJ (e:Nat)(he:e<=32):∀(w:World) (N:Nat) (v:Value) (p:Option Addr) (n c:Nat) (l:List Ce),Fit e N v w->Fa w e p n c l->n<=60->(∀s∈l,s.ps.length<=1000) ->
  Calls Tryz.prog 141 #[v,.slice p n c] w fun en w'=>en=.returned (.bool (decide (Cy N ∨ (Cq [] l/\∃s∈l,s.n=N))))/\Below w.heap.size w w':=by
 intro w N v p n c l hv h hn hps;obtain⟨pu,nu,cu,rfl,hu1,hu2⟩:=hv;have hbx:=Dq.mk1 w (.slice pu nu cu) 36;obtain⟨wa,hwa⟩:∃wa,w.alloc (.cells #[.slice pu nu cu] 36)=wa:=⟨_,rfl⟩
 have hbox:=Af.made w (.slice pu nu cu);rw[hwa]at hbx hbox
 have HBOX:=Aa hbox;have HX:=Aa hbx.bel;have HF:=Aa ((Fit.of hu1 hu2).below hbx.bel);have HP:=Aa (h.below hbx.bel);have HPS:=Aa hps;have HLIM:=Aa h.lim;obtain⟨ANS,hANS⟩:∃X,decide (Cy N ∨ (Cq [] l/\∃s∈l,s.n=N))=X:=⟨_,rfl⟩
 have HANS:=Aa hANS;rw[hANS];have hca:=hbox.cell;clear hANS hps h hu1 hu2 hbx hbox;obtain⟨S,hS⟩:∃X,decide (Cy N)=X:=⟨_,rfl⟩
 have HS:=Aa hS;clear hS;go_enter Tryz.func141,Tryz.ntmps141
 go_wp2_with fail
 refine(Ju wa N e _ HF.out (by omega)).mono ?_;rintro en w1 ⟨rfl,hb1⟩;rw[HS.out];have HB1:=Aa hb1;have HBOX1:=Aa (HBOX.out.below hb1 HBOX.out.lt);clear hb1 hca
 cases S with
 | true=>
  have HA:Ab (ANS=true):=⟨by rw[<-HANS.out];exact decide_eq_true (.inl (of_decide_eq_true HS.out))⟩
  have HE:=Aa (Ae HX.out HB1.out);go_wp2;go_ret;exact⟨by rw[HA.out];rfl,HE.out⟩
 | false=>
  obtain⟨C,hC⟩:∃X,l.any (fun s=>decide (s.n=N))=X:=⟨_,rfl⟩
  have HC:=Aa hC;clear hC;have HAS:=Aa (kD w1 e e l w.heap.size (.slice pu nu cu) N HBOX1.out.lt HBOX1.out.cell (HF.out.below HB1.out) (by omega) (by omega))
  go_wp2_with fail
  refine(Se w1 e p n c l _ _ (enters_of Tryz.func191 (by kernel_rfl) rfl) _ (HP.out.below HB1.out) HAS.out).mono ?_;rintro en w2 ⟨rfl,hb2⟩;rw[HC.out];have HB2:=Aa (Ae HB1.out hb2);clear hb2
  cases C with
  | false=>
   have HA:Ab (ANS=false):=⟨by
    rw[<-HANS.out];refine decide_eq_false fun hh=>?_
    rcases hh with hh|⟨_,s,hs,hsn⟩
    .exact of_decide_eq_false HS.out hh
    .exact List.any_eq_false.1 HC.out s hs (decide_eq_true hsn)⟩
   have HE:=Aa (Ae HX.out HB2.out);go_wp2;go_ret;exact⟨by rw[HA.out];rfl,HE.out⟩
  | true=>
   have hnl:∀s∈l,¬Ew s:=fun s hs ht=>by
    have:=HLIM.out s hs;rcases ht with ht|ht|⟨q,hq,ht⟩
    .exact Xr he this.1 ht
    .exact Xr he this.2.1 ht
    .exact Xr he (this.2.2 q hq) ht
   have hne:¬ ∃s∈l,Ew s:=fun hh=>by obtain⟨s,hs,ht⟩:=hh;exact hnl s hs ht
   have hex:∃s∈l,s.n=N:=by
    obtain⟨s,hs,ht⟩:=List.any_eq_true.1 HC.out;exact⟨s,hs,of_decide_eq_true ht⟩
   have HNE:=Aa hne;have HEX:=Aa hex;clear hnl hne hex
   go_wp2_with fail
   refine(oP e (by omega) w2 p n c l ((HP.out.below HB2.out).wide (by omega)) hn HPS.out (fun s hs _=>HLIM.out s hs)).mono ?_;rintro en w3 ⟨rfl,hb3⟩;rw[if_neg HNE.out];have HE:=Aa (Ae HX.out (Ae HB2.out hb3));clear hb3
   by_cases hch:Cq [] l
   .rw[if_pos hch];have HA:Ab (ANS=true):=⟨by rw[<-HANS.out];exact decide_eq_true (.inr ⟨hch,HEX.out⟩)⟩
    clear hch;go_wp2;go_ret;exact⟨by rw[HA.out];rfl,HE.out⟩
   .rw[if_neg hch];have HA:Ab (ANS=false):=⟨by
     rw[<-HANS.out];refine decide_eq_false fun hh=>?_
     rcases hh with hh|hh
     .exact of_decide_eq_false HS.out hh
     .exact hch hh.1⟩
    clear hch;go_wp2;go_ret;exact⟨by rw[HA.out];rfl,HE.out⟩
structure dS (B:Nat) (w:World) (e:Nat) (p:Option Addr) (n c:Nat) (Ns:List Nat):Prop where
 pl:Aw w e p n c Ns
 lo:0<n->∀q,p=some q->q.block<B
theorem dS.keep {B:Nat}{w w':World}{e:Nat}{p:Option Addr}{n c:Nat}{Ns:List Nat}(h:dS B w e p n c Ns)(k:Ap B w w'):dS B w' e p n c Ns:=by
 refine⟨⟨h.pl.len,h.pl.cap,h.pl.max,h.pl.nil,fun h0=>?_⟩,h.lo⟩;obtain⟨b,off,h1,h2,h3⟩:=h.pl.at_ h0
 have hb:b<B:=h.lo h0 _ h1;exact⟨b,off,h1,Eh h2 k.bel.size,fun i N hN=>
  let ⟨q,m,d,k1,k2,k3⟩:=h3 i N hN
  ⟨q,m,d,(k.bel.cell (p:=⟨b,off+i,none⟩) hb).trans k1,k.nat _ _ _ _ k2,k3⟩⟩
theorem dS.of {B:Nat}{w w':World}{e:Nat}{p:Option Addr}{n c:Nat}{Ns:List Nat}(h:Aw w e p n c Ns)(hb:Below w.heap.size w w')(hB:w.heap.size<=B):dS B w' e p n c Ns :=
 ⟨h.below hb,fun h0 q hq=>by
  obtain⟨b,off,h1,h2,_⟩:=h.at_ h0
  rw[h1]at hq;cases hq
  exact Eh h2 hB⟩
structure mR (d:Bool) (b:Nat) (p0:Option Addr) (n0 c0 N:Nat) (w:World):Prop where
 z:d=false->Af w b (.slice p0 n0 c0)
 o:d=true->∃p n c,Af w b (.slice p n c)/\Ai w p n c N
theorem mR.later {d:Bool}{b n0 c0 N:Nat}{p0:Option Addr}{w w':World}(h:mR d b p0 n0 c0 N w)(hb:Below w.heap.size w w'):mR d b p0 n0 c0 N w' :=
 ⟨fun e=>(h.z e).below hb (h.z e).lt,fun e=>let ⟨p,n,c,h1,h2⟩:=h.o e;⟨p,n,c,h1.below hb h1.lt,h2.below hb⟩⟩
theorem mR.put {b n0 c0 N:Nat}{p0:Option Addr}{w:World}(h:mR false b p0 n0 c0 N w){p:Option Addr}{n c:Nat}(hx:Ai w p n c N):∃q m k,Af w b (.slice q m k)/\mR true b p0 n0 c0 N (w.setCell ⟨b,0,none⟩ (.slice p n c)) :=
 ⟨p0,n0,c0,h.z rfl,(fun e=>by cases e),fun _=>⟨p,n,c,(h.z rfl).set _,hx.store (h.z rfl) _⟩⟩
theorem Vt {Bs Es:List Nat}{k b e:Nat}(h1:Bs[k]? = some b)(h2:Es[k]? = some e):(Bs.zip Es)[k]? = some (b,e):=by
 rw[List.getElem?_zip_eq_some];exact⟨h1,h2⟩
def He (w:World)(b N:Nat):Prop:=∃p n c,Af w b (.slice p n c)/\Ai w p n c N
theorem gT {N:Nat}(h:Ay N<=16):Ak N<=100000:=by unfold Ay at h;omega
theorem Zp {w:World}{b P Q G H:Nat}(h:Cp w b P Q G H) :
  Calls Tryz.prog 20 #[.pointer (some ⟨b,0,none⟩)] w fun e w'=>∃x,e=.returned x/\nE Q x w'/\Below w.heap.size w w':=by
 refine(Gg h).mono ?_;rintro en w' ⟨r,rfl,hr,hb⟩;exact⟨_,rfl,⟨r,rfl,hr⟩,hb⟩
theorem Yo {w:World}{b P Q G H:Nat}(hg:Cp w b P Q G H) :
  Calls Tryz.prog 17 #[.pointer (some ⟨b,0,none⟩)] w fun e w'=>∃x,e=.returned x/\Gv P Q G H x w'/\Below w.heap.size w w':=by
 have hbx:Below w.heap.size w (w.alloc (.cells #[.slice none 0 0,.slice none 0 0,.slice none 0 0,.slice none 0 0] 30)):=Dl;have HBX:=Aa (Dp.made 30 w (.slice none 0 0) (.slice none 0 0) (.slice none 0 0) (.slice none 0 0));obtain⟨wa,hwa⟩:∃wa,w.alloc (.cells #[.slice none 0 0,.slice none 0 0,.slice none 0 0,.slice none 0 0] 30)=wa:=⟨_,rfl⟩
 rw[hwa]at hbx HBX
 have HG:=Aa (hg.below hbx);have HB:=Aa hbx;clear hg hbx;go_enter Tryz.func17,Tryz.ntmps17
 go_wp2_with fail
 refine(pX HG.out).mono ?_;rintro en w1 ⟨x1,rfl,h1,b1⟩;have H1:=Aa h1;have HG1:=Aa (HG.out.below b1);have HB1:=Aa b1;clear h1 b1
 go_wp2_with fail
 refine(Kb H1.out (by decide)).mono ?_;rintro en w2 ⟨_,rfl,⟨p0,n0,c0,rfl,h2⟩,b2⟩;have H2:=Aa h2;have HG2:=Aa (HG1.out.below b2);have HB2:=Aa (Ae HB1.out b2);clear h2 b2
 go_wp2_with fail
 refine(Zp HG2.out).mono ?_;rintro en w3 ⟨x3,rfl,h3,b3⟩;have H23:=Aa (H2.out.below b3);have HG3:=Aa (HG2.out.below b3);have HB3:=Aa (Ae HB2.out b3);obtain⟨r,rfl,hr3⟩:=h3.ex;have H3:Ab (Ring w3 r Q 33):=⟨hr3⟩
 clear h3 hr3 b3
 go_wp2_with fail
 refine(Gr H3.out).mono ?_;rintro en w4 ⟨x4,rfl,h4,b4⟩;have H24:=Aa (H23.out.below b4);have H4:=Aa h4;have HG4:=Aa (HG3.out.below b4);have HB4:=Aa (Ae HB3.out b4);clear h4 b4
 go_wp2_with fail
 refine(Kb H4.out (by decide)).mono ?_;rintro en w5 ⟨_,rfl,⟨p1,n1,c1,rfl,h5⟩,b5⟩;have H25:=Aa (H24.out.below b5);have H5:=Aa h5;have HG5:=Aa (HG4.out.below b5);have HB5:=Aa (Ae HB4.out b5);clear h5 b5
 go_wp2_with fail
 refine(qA HG5.out).mono ?_;rintro en w6 ⟨x6,rfl,h6,b6⟩;have H26:=Aa (H25.out.below b6);have H56:=Aa (H5.out.below b6);have H6:=Aa h6;have HG6:=Aa (HG5.out.below b6);have HB6:=Aa (Ae HB5.out b6);clear h6 b6
 go_wp2_with fail
 refine(Kb H6.out (by decide)).mono ?_;rintro en w7 ⟨_,rfl,⟨p2,n2,c2,rfl,h7⟩,b7⟩;have H27:=Aa (H26.out.below b7);have H57:=Aa (H56.out.below b7);have H7:=Aa h7;have HG7:=Aa (HG6.out.below b7);have HB7:=Aa (Ae HB6.out b7);clear h7 b7
 go_wp2_with fail
 refine(pZ HG7.out).mono ?_;rintro en w8 ⟨x8,rfl,h8,b8⟩;have H28:=Aa (H27.out.below b8);have H58:=Aa (H57.out.below b8);have H78:=Aa (H7.out.below b8);have H8:=Aa h8;have HB8:=Aa (Ae HB7.out b8);clear h8 b8
 go_wp2_with fail
 refine(Kb H8.out (by decide)).mono ?_;rintro en w9 ⟨_,rfl,⟨p3,n3,c3,rfl,h9⟩,b9⟩;have H29:=Aa (H28.out.below b9);have H59:=Aa (H58.out.below b9);have H79:=Aa (H78.out.below b9);have H9:=Aa h9;have HB9:=Aa (Ae HB8.out b9);have hbx9:=HBX.out.below HB9.out HBX.out.lt;have g0:=hbx9.cells.1;have g1:=hbx9.cells.2.1;have g2:=hbx9.cells.2.2.1;have g3:=hbx9.cells.2.2.2;have f0:=hbx9.free;clear h9 b9;go_wp2;obtain⟨wf,hwf⟩:∃wf,wf=(((w9.setCell ⟨w.heap.size,0,none⟩ (.slice p0 n0 c0)).setCell ⟨w.heap.size,1,none⟩ (.slice p1 n1 c1)).setCell ⟨w.heap.size,2,none⟩ (.slice p2 n2 c2)).setCell ⟨w.heap.size,3,none⟩ (.slice p3 n3 c3):=⟨_,rfl⟩
 have hkp:Gy w9 wf:=by rw[hwf];exact gL (x0:=(none,0,0)) (x1:=(none,0,0)) (x2:=(none,0,0)) (x3:=(none,0,0)) hbx9 _ _ _ _
 have hst:=Ik hbx9 hwf;have e0:=hst.1.cells.1;have e1:=hst.1.cells.2.1;have e2:=hst.1.cells.2.2.1;have e3:=hst.1.cells.2.2.2;have hbf:=hst.2.2 w.heap.size w (Ae HB.out HB9.out) (Av _);rw[<-hwf];refine bodyPost_ret (v:=.agg #[.slice p0 n0 c0,.slice p1 n1 c1,.slice p2 n2 c2,.slice p3 n3 c3]) (by simp[results,Tryz.results17,go_sem,e0,e1,e2,e3]) rfl ⟨_,rfl,⟨p0,n0,c0,p1,n1,c1,p2,n2,c2,p3,n3,c3,rfl,Pd.kept H29.out hkp,Pd.kept H59.out hkp,Pd.kept H79.out hkp,Pd.kept H9.out hkp⟩,hbf⟩
theorem aG {w:World}{v u t:Value}{P Q G H A E:Nat}(h:Gv P Q G H v w)(hu:Al A u w)(ht:Al E t w)(lA:Ak A<=100000)(lE:Ak E<=100000)(lP:Ak P<=100000)(hP:0<P) :
  Calls Tryz.prog 72 #[v,u,t] w fun e w'=>∃x,e=.returned x/\Al (A^E%P) x w'/\Below w.heap.size w w':=by
 obtain⟨p0,n0,c0,p1,n1,c1,p2,n2,c2,p3,n3,c3,rfl,h0,h1,h2,h3⟩:=h.ex;have hbx:Below w.heap.size w (w.alloc (.cells #[.slice p0 n0 c0,.slice p1 n1 c1,.slice p2 n2 c2,.slice p3 n3 c3] 30)):=Dl;have hbo:=Dp.made 30 w (.slice p0 n0 c0) (.slice p1 n1 c1) (.slice p2 n2 c2) (.slice p3 n3 c3);obtain⟨wa,hwa⟩:∃wa,w.alloc (.cells #[.slice p0 n0 c0,.slice p1 n1 c1,.slice p2 n2 c2,.slice p3 n3 c3] 30)=wa:=⟨_,rfl⟩
 rw[hwa]at hbx hbo
 have HB:=Aa hbx;have HBX:=Aa hbo;have HV:Ab (Gv P Q G H (.agg #[.slice p0 n0 c0,.slice p1 n1 c1,.slice p2 n2 c2,.slice p3 n3 c3]) wa):=⟨⟨p0,n0,c0,p1,n1,c1,p2,n2,c2,p3,n3,c3,rfl,h0.below hbx,h1.below hbx,h2.below hbx,h3.below hbx⟩⟩
 obtain⟨q0,m0,d0,rfl,hu0⟩:=hu;obtain⟨q1,m1,d1,rfl,ht0⟩:=ht;have HC:=Aa (lV (Al.of (hu0.below hbx)) (Al.of (ht0.below hbx)) (Al.of (h0.below hbx)) lA lE lP hP);have g0:=HBX.out.cells.1;clear h h0 h1 h2 h3 hbx hbo hu0 ht0 lA lE lP hP;go_enter Tryz.func72,Tryz.ntmps72
 go_wp2_with fail
 refine HC.out.mono ?_;rintro en w1 ⟨x,rfl,hx,hb1⟩;have HX:=Aa hx;have HB1:=Aa (Ae HB.out hb1);clear hx hb1 g0;go_wp2;go_ret;exact⟨x,rfl,HX.out,HB1.out⟩
theorem aF {w:World}{v u t:Value}{P Q G H A E:Nat}(h:Gv P Q G H v w)(hu:Al A u w)(ht:Al E t w)(lA:Ak A<=100000)(lE:Ak E<=100000)(lP:Ak P<=100000)(hP:0<P) :
  Calls Tryz.prog 100 #[v,u,t] w fun e w'=>∃x,e=.returned x/\Al (A*E%P) x w'/\Below w.heap.size w w':=by
 obtain⟨p0,n0,c0,p1,n1,c1,p2,n2,c2,p3,n3,c3,rfl,h0,h1,h2,h3⟩:=h.ex;have hbx:Below w.heap.size w (w.alloc (.cells #[.slice p0 n0 c0,.slice p1 n1 c1,.slice p2 n2 c2,.slice p3 n3 c3] 30)):=Dl;have hbo:=Dp.made 30 w (.slice p0 n0 c0) (.slice p1 n1 c1) (.slice p2 n2 c2) (.slice p3 n3 c3);obtain⟨wa,hwa⟩:∃wa,w.alloc (.cells #[.slice p0 n0 c0,.slice p1 n1 c1,.slice p2 n2 c2,.slice p3 n3 c3] 30)=wa:=⟨_,rfl⟩
 rw[hwa]at hbx hbo
 have HB:=Aa hbx;have HBX:=Aa hbo;have HV:Ab (Gv P Q G H (.agg #[.slice p0 n0 c0,.slice p1 n1 c1,.slice p2 n2 c2,.slice p3 n3 c3]) wa):=⟨⟨p0,n0,c0,p1,n1,c1,p2,n2,c2,p3,n3,c3,rfl,h0.below hbx,h1.below hbx,h2.below hbx,h3.below hbx⟩⟩
 obtain⟨q0,m0,d0,rfl,hu0⟩:=hu;obtain⟨q1,m1,d1,rfl,ht0⟩:=ht;have HC:=Aa (Hs (Al.of (hu0.below hbx)) (Al.of (ht0.below hbx)) (Al.of (h0.below hbx)) lA lE lP hP);have g0:=HBX.out.cells.1;clear h h0 h1 h2 h3 hbx hbo hu0 ht0 lA lE lP hP;go_enter Tryz.func100,Tryz.ntmps100
 go_wp2_with fail
 refine HC.out.mono ?_;rintro en w1 ⟨x,rfl,hx,hb1⟩;have HX:=Aa hx;have HB1:=Aa (Ae HB.out hb1);clear hx hb1 g0;go_wp2;go_ret;exact⟨x,rfl,HX.out,HB1.out⟩
end Go.Proofs.YtnbmfaihlefgfaaGreatDoor
