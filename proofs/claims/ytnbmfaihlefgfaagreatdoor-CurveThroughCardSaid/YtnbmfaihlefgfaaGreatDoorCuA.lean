/- Rows of numbers by their places; the functions of slices.Values and slices.Backward over them. -/
import Derived.RangeFuncNested
import Derived.RangeFuncBound
import Derived.RangeFuncCalls
import Derived.RangeFuncLeaves
import Derived.Test.YtnbmfaihlefgfaaGreatDoorGqB
import Derived.Test.YtnbmfaihlefgfaaGreatDoorCpF
import Derived.OwnWalkIn
import Derived.TacticsInMore
import Derived.LoopNIn
import Derived.LoopIn
set_option maxRecDepth 1000000
set_option maxHeartbeats 16000000
set_option linter.all false
namespace Go.Proofs.YtnbmfaihlefgfaaGreatDoor
open Go Go.RowKit
structure Mid (p:Nat->Prop) (W W':World):Prop where
 os:W'.os=W.os
 tape:W'.tape=W.tape
 output:W'.output=W.output
 size:W.heap.size<=W'.heap.size
 block:∀k,k<W.heap.size->p k->W'.heap[k]? = W.heap[k]?
theorem Mid.trans {p:Nat->Prop}{A B C:World}(h:Mid p A B)(k:Mid p B C):Mid p A C :=
 ⟨k.os.trans h.os,k.tape.trans h.tape,k.output.trans h.output,Eu h.size k.size,fun i hi hp=>(k.block i (Dh hi h.size) hp).trans (h.block i hi hp)⟩
theorem Mid.of {p:Nat->Prop}{W W':World}(h:Below W.heap.size W W'):Mid p W W':=⟨h.os,h.tape,h.output,h.size,fun k hk _=>h.block k hk⟩
theorem Mid.putObj {p:Nat->Prop}(W:World)(l:Nat)(o:Obj)(h:¬p l):Mid p W (W.putObj l o) :=
 let g:=grownBy_putObj' W l o
 ⟨g.os,g.tape,g.output,g.size,fun k hk hp=>g.block k hk (fun e=>by cases e;exact h hp)⟩
theorem Mid.below {p:Nat->Prop}{W W':World}(h:Mid p W W'){B:Nat}(hB:B<=W.heap.size)(hp:∀k,k<B->p k):Below B W W' :=
 ⟨h.os,h.tape,h.output,h.size,fun k hk=>h.block k (Dh hk hB) (hp k hk)⟩
theorem Mid.cell {p:Nat->Prop}{W W':World}(h:Mid p W W'){a:Addr}{u:Value}(hp:p a.block)(hc:W.cell? a=some u):W'.cell? a=some u:=by
 have hlt:a.block<W.heap.size:=by
  unfold World.cell? at hc;rcases Nat.lt_or_ge a.block W.heap.size with h1|h1
  .exact h1
  .simp[Array.getElem?_eq_none h1]at hc
 rw[World.cell?_of_block (w:=W) (h.block _ hlt hp)];exact hc
theorem grown_of {W W':World}(h:Below W.heap.size W W'):W.grownBy W' none:=⟨h.os,h.tape,h.output,h.size,fun k hk _=>h.block k hk⟩
theorem OwnFrom.step {β:Type}{B:Nat}{I:β->World->Prop}(h:OwnFrom B I){s:β}{W W':World}(hs:I s W)(hb:Below W.heap.size W W'):I s W' :=
 h s W W' none hs (grown_of hb) (fun r e=>by cases e)
theorem Se {β:Type}{B B':Nat}{I:β->World->Prop}(h:OwnFrom B I)(hB:B<=B'):OwnFrom B' I :=
 fun s W W' row hs hg hr=>h s W W' row hs hg (fun r e=>⟨Eu hB (hr r e).1,(hr r e).2⟩)
variable {F:Fence} {n:Nat} {P:Program}
def Xk (F:Fence)(n:Nat)(P:Program)(g:Nat)(lb:Array Value)(B l N:Nat)(Kp:World->World->Prop)(Gd:Nat->Array Value->World->Prop)(W:World):Prop :=
 ∀J:Nat->World->Prop,OwnFrom B J ->
  (∀k v W1,k<N->J k W1->Gd k v W1->YieldAt F (n-1) P l v W1 fun e W'=>e=.returned (.bool true)/\J (k+1) W'/\Kp W1 W')->J 0 W ->
  CallsIn F n P g (#[.func (.yield l) #[] #[]]++lb) W fun e W'=>(∃v,e=.returned v)/\J N W'
variable {F:Fence} {n:Nat} {P:Program}
theorem Eg {g:Operand}{ts:Array Tmp}{assign body:Code}{Q:Exit->Act->World->Prop}{a:Act}{w:World}(hro:F.round=none)(h1:1<=n){gf:Nat}{lb:Array Value}(hg:a.eval g=.func (.func gf) #[] lb)(hFg:F.fn gf)(eg:∀args w,(callFunc gf args).run P w=.ok (.enter gf args) w){N:Nat}{Kp:World->World->Prop}{Gd:Nat->Array Value->World->Prop}(hGd:∀k vs W,Gd k vs W->vs.size=ts.size)(hseq:∀W,W.heap.size=w.heap.size+2->Below w.heap.size w W->Xk F (n-1) P gf lb (w.heap.size+2) (w.heap.size+1) N Kp Gd W)(hKt:∀ {A B C:World},Kp A B->Kp B C->Kp A C)(hKb:∀W o,Kp W (W.putObj (w.heap.size+1) o))(I:Nat->World->Prop)(hI:OwnFrom w.heap.size I)(h0:I 0 w)(Ax:Nat->Act->World->Prop)(hAx:∀k a',OwnFrom w.heap.size (fun(_:Unit) W=>Ax k a' W))(hassign:∀(l k:Nat) (v:Array Value) (W:World) (K:Act->World->Prop),k<N->I k W->Gd k v W->(∀a' W',KeepsFrom w.heap.size W W'->Kp W W'->Ax k a' W'->K a' W') ->
   assign.wpIn (F.inRound l) (n-1-1) P (Exit.then K (fun _ _ _=>False)) { tmps:=(ts.zip v).foldl (fun t (p,v)=>t.setIfInBounds p v) a.tmps,defers:=[] } W)(hbody:∀(l k:Nat) (a':Act) (W:World),k<N->Ax k a' W->body.wpIn (F.inRound l) (n-1-1) P (fun e _ W'=>e=.normal/\KeepsFrom w.heap.size W W'/\Kp W W'/\I (k+1) W') a' W)(hdone:∀(D:Nat) (W:World),w.heap.size<=D->I N W->W.heap[D]? = some (.deferred (some []))->Q .normal { a with defers:={ target:=.collected D,args:=#[] }::a.defers } W) :
  (Code.rangeFunc g ts assign body).wpIn F n P Q a w:=by
 refine wpIn_rangeFunc fun fn hfn=>?_
 rw[hro]
 -- the record, as it stands and as it is in a round
 let st (s:LoopState):Obj:=.loop { state:=s,pending:=none,fn,tmps:=a.tmps,params:=ts,assign,body,defers:=w.heap.size }
 let W1:World:=(w.alloc (.deferred (some []))).alloc (st .ready)
 have hs1:W1.heap.size=w.heap.size+2:=by simp[W1]
 have hr1:W1.heap[w.heap.size+1]? = some (st .ready):=by
  have:=World.alloc_heap_new (w.alloc (.deferred (some []))) (st .ready);rwa [World.size_alloc]at this
 have hd1:W1.heap[w.heap.size]? = some (.deferred (some [])):=(Below.heap_alloc _ _ _ (by simp)).trans (World.alloc_heap_new w _);have hb1:Below w.heap.size w W1:=((Aw _ w).alloc (Ar _) _).alloc (by simp) _;have hI1:I 0 W1:=hI.alloc _ (hI.alloc _ h0);refine⟨w.heap.size+1,[{ target:=.collected w.heap.size,args:=#[] }],W1,{ target:=.fn (.func gf) lb,args:=#[.func (.yield (w.heap.size+1)) #[] #[]] },W1,gf,
  #[.func (.yield (w.heap.size+1)) #[] #[]]++lb,W1,run_enterLoop_outer _ _ _ _ _,?_,?_,?_,fun _=>h1,?_⟩
 .simp only[resolve,hg];simp[go_sem]
 .intro f' hf';simp[Target.leads]at hf';subst hf';exact hFg
 .simp[invoke,go_sem,eg]
 -- what holds between two rounds
 let J:Nat->World->Prop:=fun k W=>I k W/\W.heap[w.heap.size+1]? = some (st .ready)/\W.heap[w.heap.size]? = some (.deferred (some []))
 have hJ:OwnFrom (w.heap.size+2) J:=fun k A B row hs hgr hr=>by
  have far:∀j,j<w.heap.size+2->some j≠row:=fun j hj e=>by have:=(hr j e.symm).1;omega
  refine⟨Se hI (by omega) k A B row hs.1 hgr hr,?_,?_⟩
  .exact(hgr.block _ (Ga hs.2.1).1 (far _ (by omega))).trans hs.2.1
  .exact(hgr.block _ (Ga hs.2.2).1 (far _ (by omega))).trans hs.2.2
 refine(hseq W1 hs1 hb1 J hJ ?_ ⟨hI1,hr1,hd1⟩).mono ?_
 ·-- one round
  rintro k v W hkN ⟨hi,hl,hd⟩ hgd;have hy:=run_yield (P:=P) (args:=v) hl (hGd k v W hgd);refine⟨fn,_,assign,body,hy,roundIn_of_wpIn hfn ?_⟩;refine hassign _ k v W _ hkN hi hgd ?_;intro a' Wa hka hkpa hax;have hla:=hka.same _ _ (by omega) hl rfl;have hda:=hka.same _ _ (Ar _) hd rfl;have hlt:=(Ga hla).1;refine⟨_,run_beginRound hla rfl,?_⟩
  let Wb:World:=Wa.putObj (w.heap.size+1) (st .busy)
  have hlb:Wb.heap[w.heap.size+1]? = some (st .busy):=World.putObj_heap_same hlt;have hdb:Wb.heap[w.heap.size]? = some (.deferred (some [])):=(World.putObj_heap_other (by omega)).trans hda;refine wpIn_mono (hbody _ k a' Wb hkN ((hAx k a').putObj (s:=()) _ hax (by omega) hla rfl)) ?_;rintro e a3 W3 ⟨rfl,hk3,hp3,hi3⟩;have hl3:=hk3.same _ _ (by omega) hlb rfl;have hd3:=hk3.same _ _ (Ar _) hdb rfl;have hlt3:=(Ga hl3).1;refine⟨_,_,run_endRound (P:=P) none hl3,rfl,⟨hI.putObj _ hi3 (by omega) hl3 rfl,World.putObj_heap_same hlt3,(World.putObj_heap_other (by omega)).trans hd3⟩,?_⟩;exact hKt hkpa (hKt (hKb Wa _) (hKt hp3 (hKb W3 _)))
 ·-- behind the iterator
  rintro e W2 ⟨⟨v,rfl⟩,hi,hl,hd⟩;exact⟨none,_,run_endLoop (P:=P) hl (by simp),hdone _ _ (Ar _) (hI.putObj _ hi (by omega) hl rfl) ((World.putObj_heap_other (by omega)).trans hd)⟩
open Go Go.RowKit Go.Proofs.YtnbmfaihlefgfaaGreatDoor.Flow
def sv (x:Option Addr×Nat×Nat):Value:=.slice x.1 x.2.1 x.2.2
def Ck (w:World)(g:Nat)(us:List (Option Addr×Nat×Nat)):Prop:=w.heap[g]? = some (.cells (us.map sv).toArray 36 (0,0))
theorem Ck.lt {w:World}{g:Nat}{us:List (Option Addr×Nat×Nat)}(h:Ck w g us):g<w.heap.size:=(Ga h).1
theorem Ck.below {w w':World}{g B:Nat}{us:List (Option Addr×Nat×Nat)}(h:Ck w g us)(hb:Below B w w')(hg:g<B):Ck w' g us:=by
 unfold Ck at *;rw[hb.block g hg];exact h
theorem Ck.cell {w:World}{g j:Nat}{us:List (Option Addr×Nat×Nat)}{x:Option Addr×Nat×Nat}(h:Ck w g us)(hj:us[j]? = some x):w.cell? ⟨g,j,none⟩=some (.slice x.1 x.2.1 x.2.2):=by
 unfold Ck at h;simp[World.cell?,h,hj,sv]
theorem Ck.free {w:World}{g:Nat}{us:List (Option Addr×Nat×Nat)}(h:Ck w g us)(j:Nat):w.frozen? ⟨g,j,none⟩=false:=by
 unfold Ck at h;simp[World.frozen?,h]
theorem Ck.set {w:World}{g:Nat}{us:List (Option Addr×Nat×Nat)}(h:Ck w g us)(j:Nat)(p:Option Addr)(n c:Nat):Ck (w.setCell ⟨g,j,none⟩ (.slice p n c)) g (us.set j (p,n,c)):=by
 unfold Ck at *;simp[World.setCell,Array.getElem?_modify,h,List.map_set,sv]
theorem Ck.apart {w:World}{p:Option Addr}{n c N g:Nat}{us:List (Option Addr×Nat×Nat)}(hb:Ck w g us)(h:Ag w p n c N)(h0:0<n):∀q,p=some q->q.block≠g:=by
 obtain⟨ws,r1,r2,r3,r4⟩:=h.ex;intro a ha hab;obtain⟨b',off,k1,k2,k3⟩:=r1.pos h0;rw[k1]at ha;cases ha
 have hbb:b'=g:=hab;subst hbb;have h1:=k3 0 (ws.getD 0 0) (by rw[Dx];simp[show 0<ws.length by rw[<-r1.len];exact h0]);rw[Nat.add_zero]at h1
 rcases Nat.lt_or_ge off us.length with h2|h2
 .rw[hb.cell (List.getElem?_eq_getElem h2)]at h1
  cases h1
 .unfold Ck at hb;simp[World.cell?,hb,List.getElem?_eq_none h2]at h1
theorem Ck.nat {w:World}{p:Option Addr}{n c N g:Nat}{us:List (Option Addr×Nat×Nat)}(hb:Ck w g us)(h:Ag w p n c N)(j:Nat)(v:Value):Ag (w.setCell ⟨g,j,none⟩ v) p n c N:=by
 rcases Nat.eq_zero_or_pos n with rfl|h0
 .exact h.empty (by simp)
 .exact h.setCell (a:=⟨g,j,none⟩) (fun q hq=>hb.apart h h0 q hq) v
theorem Ao.store_row {B:Nat}{w:World}{g:Nat}{us:List (Option Addr×Nat×Nat)}(hb:Ck w g us)(hB:B<=g)(j:Nat)(v:Value):Ao B w (w.setCell ⟨g,j,none⟩ v) :=
 ⟨(Aw _ _).setCell hB _,fun _ _ _ _ k=>hb.nat k j v⟩
theorem RG.store_row {B:Nat}{wx:World}{l:List (Nat×Obj)}{w:World}{g:Nat}{us:List (Option Addr×Nat×Nat)}(h:RG B wx l w)(hb:Ck w g us)(hB:B<=g)(hn:∀x∈l,x.1≠g)(j:Nat)(v:Value):RG B wx l (w.setCell ⟨g,j,none⟩ v) :=
 ⟨h.keep.trans (Ao.store_row hb hB j v),by simpa using h.base,fun x hx=>by
  have:=hn x hx;simp[World.setCell,Array.getElem?_modify,this.symm];exact h.blk x hx⟩
structure Xl (d:Bool) (g:Nat) (us:List (Option Addr×Nat×Nat)) (k N:Nat) (w:World):Prop where
 z:d=false->Ck w g us
 o:d=true->∃p n c,Ck w g (us.set k (p,n,c))/\Ag w p n c N
theorem Xl.later {d:Bool}{g k N:Nat}{us:List (Option Addr×Nat×Nat)}{w w':World}(h:Xl d g us k N w)(hb:Below w.heap.size w w'):Xl d g us k N w' :=
 ⟨fun e=>(h.z e).below hb (h.z e).lt,fun e=>let ⟨p,n,c,h1,h2⟩:=h.o e;⟨p,n,c,h1.below hb h1.lt,h2.below hb⟩⟩
theorem Xl.put {g k N:Nat}{us:List (Option Addr×Nat×Nat)}{w:World}(h:Xl false g us k N w){p:Option Addr}{n c:Nat}(hx:Ag w p n c N):Xl true g us k N (w.setCell ⟨g,k,none⟩ (.slice p n c)) :=
 ⟨(fun e=>by cases e),fun _=>⟨p,n,c,(h.z rfl).set k p n c,(h.z rfl).nat hx k _⟩⟩
theorem Pa (n:Nat)(h:n<=1000000)(w:World):(Instr.makeSlice 32 (.int .i64 (n:Nat)) (.int .i64 (n:Nat))).run Tryz.prog w =
  .ok (.slice (some ⟨w.heap.size,0,none⟩) n n) (w.alloc (.cells (madeCells #[.slice none 0 0] n) 36)):=by
 obtain⟨i,hi,hz,hs,hb⟩:=info_parts Tryz.info_Nat;have:=run_make (P:=Tryz.prog) w 32 36 i (.agg #[.slice none 0 0]) Tryz.underlying32 hi hz .i64 .i64 n n (by omega) (by omega) (by rw[hb];omega) (by omega);simp only[Int.toNat_natCast,hs,Nat.mul_one]at this;rw[this];rfl
theorem Ck.made (w:World)(n:Nat):Ck (w.alloc (.cells (madeCells #[.slice none 0 0] n) 36)) w.heap.size (List.replicate n (none,0,0)):=by
 unfold Ck;have h:=toList_madeCells_one (Value.slice none 0 0) n;have h2:madeCells #[Value.slice none 0 0] n=((List.replicate n ((none,0,0):Option Addr×Nat×Nat)).map sv).toArray:=by
  rw[<-Array.toArray_toList (xs:=madeCells #[Value.slice none 0 0] n),h,List.map_replicate];rfl
 rw[<-h2];exact heap_alloc_new w _
def Lm (w:World)(e:Nat)(us:List (Option Addr×Nat×Nat))(Ns:List Nat)(k:Nat):Prop:=∀j N,j<k->Ns[j]? = some N->∃x,us[j]? = some x/\Ag w x.1 x.2.1 x.2.2 N/\N<Am e
theorem Lm.keep {w w':World}{B e k:Nat}{us:List (Option Addr×Nat×Nat)}{Ns:List Nat}(h:Lm w e us Ns k)(hk:Ao B w w'):Lm w' e us Ns k:=fun j N hj hN=>
 let ⟨x,h1,h2,h3⟩:=h j N hj hN
 ⟨x,h1,hk.nat _ _ _ _ h2,h3⟩
theorem Lm.step {w:World}{e k N:Nat}{us:List (Option Addr×Nat×Nat)}{Ns:List Nat}(h:Lm w e us Ns k)(hk:k<us.length)(hN:Ns[k]? = some N){p:Option Addr}{n c:Nat}(hn:Ag w p n c N)(hl:N<Am e):Lm w e (us.set k (p,n,c)) Ns (k+1):=fun j M hj hM=>by
 rcases Nat.lt_or_ge j k with h1|h1
 .obtain⟨x,h2,h3⟩:=h j M h1 hM;exact⟨x,by rw[List.getElem?_set_ne (by omega)];exact h2,h3⟩
 .obtain rfl:j=k:=by omega
  rw[hN]at hM;cases hM
  exact⟨(p,n,c),List.getElem?_set_self hk,hn,hl⟩
theorem Lm.plist {w:World}{g e n:Nat}{us:List (Option Addr×Nat×Nat)}{Ns:List Nat}(h:Lm w e us Ns n)(hr:Ck w g us)(hn:Ns.length=n)(hl:n<=1000000):Au w e (some ⟨g,0,none⟩) n n Ns :=
 ⟨hn.symm,Ar _,by omega,(fun e=>by cases e),fun _=>⟨g,0,rfl,hr.lt,fun i N hN=>by
  have hi:i<n:=by have:=(List.getElem?_eq_some_iff.1 hN).1;omega
  obtain⟨x,h1,h2,h3⟩:=h i N hi hN;exact⟨x.1,x.2.1,x.2.2,by rw[Nat.zero_add];exact hr.cell h1,h2,h3⟩⟩⟩
section
variable {W W':World} {row:Option Nat}
def Calm (W:World)(row:Option Nat):Prop:=∀r,row=some r->∃o:Obj,W.heap[r]? = some o/\o.isCells=false
theorem Cj (hg:W.grownBy W' row)(hr:Calm W row){b:Nat}{cs:Array Value}{t:TypeId}{m:Nat×Nat}(h:W.heap[b]? = some (.cells cs t m)):W'.heap[b]? = some (.cells cs t m):=by
 rw[hg.block b (Ga h).1 (fun e=>by
  obtain⟨o,ho,hc⟩:=hr b e.symm;rw[h]at ho;cases ho;cases hc)]
 exact h
theorem Row.kept {k:IntKind}{p:Option Addr}{n c:Nat}{xs:List Nat}(h:Row W k p n c xs)(hg:W.grownBy W' row)(hr:Calm W row):Row W' k p n c xs:=by
 refine⟨h.len,h.cap,h.max,?_⟩;rcases h.at_ with h1|⟨b,off,h1,h2,h3⟩
 .exact .inl h1
 .exact .inr ⟨b,off,h1,Dh h2 hg.size,fun i x hx=>cell_kept (h3 i x hx) hg hr⟩
theorem Ag.kept {p:Option Addr}{n c N:Nat}(h:Ag W p n c N)(hg:W.grownBy W' row)(hr:Calm W row):Ag W' p n c N:=by
 obtain⟨ws,r1,r2,r3,r4⟩:=h.ex;exact⟨ws,r1.kept hg hr,r2,r3,r4⟩
theorem Fit.kept {e N:Nat}{v:Value}(h:Fit e N v W)(hg:W.grownBy W' row)(hr:Calm W row):Fit e N v W' :=
 let ⟨p,n,c,h1,h2,h3⟩:=h
 ⟨p,n,c,h1,h2.kept hg hr,h3⟩
end
attribute [local go_sem] Oper.semAt_some
structure Cs (w:World) (e:Nat) (us:List (Option Addr×Nat×Nat)) (Ns:List Nat):Prop where
 len:us.length=Ns.length
 at_:∀(i N:Nat),Ns[i]? = some N->∃x,us[i]? = some x/\Gl w x N/\N<Am e
theorem Cs.below {w w':World}{e:Nat}{us:List (Option Addr×Nat×Nat)}{Ns:List Nat}(h:Cs w e us Ns)(hb:Below w.heap.size w w'):Cs w' e us Ns :=
 ⟨h.len,fun i N hN=>let ⟨x,h1,h2,h3⟩:=h.at_ i N hN;⟨x,h1,h2.below hb,h3⟩⟩
theorem Cs.get {w:World}{e i:Nat}{us:List (Option Addr×Nat×Nat)}{Ns:List Nat}{x:Option Addr×Nat×Nat}(h:Cs w e us Ns)(hx:us[i]? = some x):∃N,Ns[i]? = some N/\Gl w x N/\N<Am e:=by
 have hi:i<Ns.length:=by rw[<-h.len];exact(List.getElem?_eq_some_iff.1 hx).1
 obtain⟨y,h1,h2⟩:=h.at_ i _ (List.getElem?_eq_getElem hi)
 rw[hx]at h1;cases h1
 exact⟨_,List.getElem?_eq_getElem hi,h2⟩
structure Ln (w:World) (p:Option Addr) (n c b off:Nat) (us:List (Option Addr×Nat×Nat)):Prop where
 len:us.length=n
 cap:n<=c
 max:c<=9223372036854775807
 ptr:0<n->p=some ⟨b,off,none⟩/\b<w.heap.size
 cell:∀(i:Nat) (x:Option Addr×Nat×Nat),us[i]? = some x->w.cell? ⟨b,off+i,none⟩=some (sv x)
theorem Ln.below {w w':World}{p:Option Addr}{n c b off:Nat}{us:List (Option Addr×Nat×Nat)}(h:Ln w p n c b off us)(hb:Below w.heap.size w w'):Ln w' p n c b off us :=
 ⟨h.len,h.cap,h.max,fun h0=>⟨(h.ptr h0).1,Dh (h.ptr h0).2 hb.size⟩,fun i x hx=>by
  have h0:0<n:=by rw[<-h.len];have:=(List.getElem?_eq_some_iff.1 hx).1;omega
  rw[hb.cell (p:=⟨b,off+i,none⟩) (h.ptr h0).2];exact h.cell i x hx⟩
theorem Mv {w:World}{e:Nat}{p:Option Addr}{n c:Nat}{Ns:List Nat}(h:Au w e p n c Ns):∃us b off,Cs w e us Ns/\Ln w p n c b off us:=by
 rcases Nat.eq_zero_or_pos n with h0|h0
 .have hN:Ns=[]:=List.eq_nil_of_length_eq_zero (by rw[<-h.len];exact h0);subst hN;exact⟨[],0,0,⟨rfl,fun i N hN=>by simp at hN⟩,⟨h0.symm,h.cap,h.max,fun h1=>by omega,fun i x hx=>by simp at hx⟩⟩
 .obtain⟨b,off,h1,h2,h3⟩:=h.at_ h0
  have hex:∀i:Nat,∃x:Option Addr×Nat×Nat,∀N,Ns[i]? = some N->w.cell? ⟨b,off+i,none⟩=some (sv x)/\Gl w x N/\N<Am e:=fun i=>by
   cases hi:Ns[i]? with
   | none=>exact⟨(none,0,0),fun N hN=>by cases hN⟩
   | some N=>
    obtain⟨q,m,d,k1,k2,k3⟩:=h3 i N hi;exact⟨(q,m,d),fun M hM=>by cases hM;exact⟨k1,k2,k3⟩⟩
  let f:Nat->Option Addr×Nat×Nat:=fun i=>Classical.choose (hex i)
  have hf:∀(i N:Nat),Ns[i]? = some N->w.cell? ⟨b,off+i,none⟩=some (sv (f i))/\Gl w (f i) N/\N<Am e:=fun i=>Classical.choose_spec (hex i)
  have hg:∀(i:Nat) (x:Option Addr×Nat×Nat),((List.range Ns.length).map f)[i]? = some x->i<Ns.length/\x=f i:=fun i x hx=>by
   rw[List.getElem?_map]at hx
   rcases Nat.lt_or_ge i Ns.length with hi|hi
   .rw[List.getElem?_range hi]at hx
    simp at hx;exact⟨hi,hx.symm⟩
   .rw[List.getElem?_eq_none (by simpa using hi)]at hx
    simp at hx
  refine⟨(List.range Ns.length).map f,b,off,⟨by simp,fun i N hN=>?_⟩,⟨by rw[List.length_map,List.length_range];exact h.len.symm,h.cap,h.max,fun _=>⟨h1,h2⟩,fun i x hx=>?_⟩⟩
  .have hi:i<Ns.length:=(List.getElem?_eq_some_iff.1 hN).1;exact⟨f i,by rw[List.getElem?_map,List.getElem?_range hi];rfl,(hf i N hN).2⟩
  .obtain⟨hi,rfl⟩:=hg i x hx;exact(hf i _ (List.getElem?_eq_getElem hi)).1
theorem Rt (w:World)(p:Option Addr)(n c:Nat) :
  Calls Tryz.prog 197 #[.slice p n c] w fun e w'=>e=.returned (.func (.func 226) #[] #[.pointer (some ⟨w.heap.size,0,none⟩)]) /\
   w'=w.alloc (.cells #[.slice p n c] 32):=by
 go_enter Tryz.func197,Tryz.ntmps197;go_wp2;go_ret;exact⟨rfl,rfl⟩
theorem Qb (n B l b1 b off len cap:Nat)(p:Option Addr)(us:List (Option Addr×Nat×Nat))(w0 W:World)(hr:Ln w0 p len cap b off us)(hlen:len<=1000000)(Kp:World->World->Prop)(hW:Below w0.heap.size w0 W)(hc1:W.cell? ⟨b1,0,none⟩=some (.slice p len cap))(hkp:∀A C,Kp A C->w0.heap.size<=A.heap.size->Below w0.heap.size A C) :
  Xk Fence.wide n Tryz.prog 226 #[.pointer (some ⟨b1,0,none⟩)] B l len Kp (fun k vs _=>∃x,us[k]? = some x/\vs=#[.agg #[sv x]]) W:=by
 intro J hJ hY h0;have HJ:Aa (OwnFrom B J):=⟨hJ⟩
 have HY:=Ab hY;have HK:=Ab hkp;have HR:=Ab hr;have HJ0:=Ab h0;have HW:=Ab hW;clear hJ hY hkp hr h0 hW;refine callsIn_of_wp Tryz.func226 rfl trivial ?_ rfl;simp only[Tryz.ntmps226,List.size_toArray,List.length_cons,List.length_nil,Nat.reduceAdd,Nat.reduceSub,Array.replicate_succ,Array.replicate_zero,List.push_toArray,List.append_toArray,List.nil_append,List.cons_append]
 gi_wp2
 gi_loopw [4,7] (fun _ i wr=>∃k:Nat,k<=len/\i=.int .i64 (k:Nat)/\Aa (J k wr)/\Aa (Below w0.heap.size w0 wr)) (fun _ i _=>len-(intOf i).toNat)
 case atStart=>exact⟨0,by omega,rfl,HJ0,HW⟩
 case round=>
  obtain⟨k,hk,rfl,HJk,HB⟩:=hrel
  by_cases hkn:k<len
  .obtain⟨x,hx⟩:∃x,us[k]? = some x:=⟨us[k]'(by rw[HR.out.len];exact hkn),List.getElem?_eq_getElem _⟩
   obtain⟨rfl,hblt⟩:=HR.out.ptr (by omega);obtain⟨q,m,d⟩:=x;have hc:wr.cell? ⟨b,off+k,none⟩=some (.slice q m d):=(HB.out.cell (p:=⟨b,off+k,none⟩) hblt).trans (HR.out.cell k _ hx);have hkn':(k:Int)<len:=by omega
   obtain⟨wa,hwa⟩:∃wa,wr.alloc (.cells #[.slice q m d] 36)=wa:=⟨_,rfl⟩
   have hba:Below wr.heap.size wr wa:=by rw[<-hwa];exact(Aw _ _).alloc (Ar _) _
   have hbx:Ad wa wr.heap.size (.slice q m d):=by rw[<-hwa];exact Ad.made wr _
   have c4:=hbx.cell;have HBa:Aa (Below w0.heap.size w0 wa):=⟨HB.out.trans (hba.mono HB.out.size)⟩
   obtain⟨fn,tmps,assign,body,hy,hR⟩:=HY.out k #[.agg #[.slice q m d]] wa hkn (OwnFrom.step HJ.out HJk.out hba) ⟨_,hx,rfl⟩;have HRn:=Ab hR;clear hx hblt hba hbx hR
   gi_wp2_with fail
   refine⟨fun h=>by simp[Fence.wide]at h,HRn.out.mono ?_⟩;rintro e W3 ⟨rfl,hJ3,hk3⟩;have HJ3:=Ab hJ3;have HB3:=Ab (HBa.out.trans (HK.out _ _ hk3 HBa.out.size));clear hJ3 hk3 hy c4 hc
   gi_wp2
   go_roundw
   case rel=>exact⟨k+1,by omega,by go_num,HJ3,HB3⟩
   case measure=>simp[intOf];omega
  .have hkN:k=len:=by omega
   subst hkN;have hkn':¬(k:Int)<k:=by omega
   gi_wp2
   go_end0
   exact⟨⟨_,rfl⟩,HJk.out⟩
end Go.Proofs.YtnbmfaihlefgfaaGreatDoor
