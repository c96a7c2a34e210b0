/- The insertion sort of slices.SortFunc, over numbers. -/
import Derived.RangeFuncNested
import Derived.RangeFuncBound
import Derived.RangeFuncCalls
import Derived.RangeFuncLeaves
import Derived.Test.YtokhckjemidbpaaGreatDoorGqH
import Derived.OwnWalkIn
import Derived.TacticsInMore
import Derived.LoopNIn
import Derived.LoopIn
import Derived.Test.YtokhckjemidbpaaGreatDoorWeqM
import Derived.BigRegion
set_option maxRecDepth 1000000
set_option maxHeartbeats 16000000
set_option linter.all false
namespace Go.Proofs.YtokhckjemidbpaaGreatDoor
open Go Go.RowKit
structure Mid (p:Nat->Prop) (W W':World):Prop where
 os:W'.os=W.os
 tape:W'.tape=W.tape
 output:W'.output=W.output
 size:W.heap.size<=W'.heap.size
 block:∀k,k<W.heap.size->p k->W'.heap[k]? = W.heap[k]?
theorem Mid.trans {p:Nat->Prop}{A B C:World}(h:Mid p A B)(k:Mid p B C):Mid p A C :=
 ⟨k.os.trans h.os,k.tape.trans h.tape,k.output.trans h.output,Ee h.size k.size,fun i hi hp=>(k.block i (Da hi h.size) hp).trans (h.block i hi hp)⟩
theorem Mid.of {p:Nat->Prop}{W W':World}(h:Below W.heap.size W W'):Mid p W W':=⟨h.os,h.tape,h.output,h.size,fun k hk _=>h.block k hk⟩
theorem Mid.putObj {p:Nat->Prop}(W:World)(l:Nat)(o:Obj)(h:¬p l):Mid p W (W.putObj l o) :=
 let g:=grownBy_putObj' W l o
 ⟨g.os,g.tape,g.output,g.size,fun k hk hp=>g.block k hk (fun e=>by cases e;exact h hp)⟩
theorem Mid.below {p:Nat->Prop}{W W':World}(h:Mid p W W'){B:Nat}(hB:B<=W.heap.size)(hp:∀k,k<B->p k):Below B W W' :=
 ⟨h.os,h.tape,h.output,h.size,fun k hk=>h.block k (Da hk hB) (hp k hk)⟩
theorem Mid.cell {p:Nat->Prop}{W W':World}(h:Mid p W W'){a:Addr}{u:Value}(hp:p a.block)(hc:W.cell? a=some u):W'.cell? a=some u:=by
 have hlt:a.block<W.heap.size:=by
  unfold World.cell? at hc;rcases Nat.lt_or_ge a.block W.heap.size with h1|h1
  .exact h1
  .simp[Array.getElem?_eq_none h1]at hc
 rw[World.cell?_of_block (w:=W) (h.block _ hlt hp)];exact hc
theorem grown_of {W W':World}(h:Below W.heap.size W W'):W.grownBy W' none:=⟨h.os,h.tape,h.output,h.size,fun k hk _=>h.block k hk⟩
theorem OwnFrom.step {β:Type}{B:Nat}{I:β->World->Prop}(h:OwnFrom B I){s:β}{W W':World}(hs:I s W)(hb:Below W.heap.size W W'):I s W' :=
 h s W W' none hs (grown_of hb) (fun r e=>by cases e)
theorem Wk {β:Type}{B B':Nat}{I:β->World->Prop}(h:OwnFrom B I)(hB:B<=B'):OwnFrom B' I :=
 fun s W W' row hs hg hr=>h s W W' row hs hg (fun r e=>⟨Ee hB (hr r e).1,(hr r e).2⟩)
variable {F:Fence} {n:Nat} {P:Program}
def dS (F:Fence)(n:Nat)(P:Program)(g:Nat)(lb:Array Value)(B l N:Nat)(Kp:World->World->Prop)(Gd:Nat->Array Value->World->Prop)(W:World):Prop :=
 ∀J:Nat->World->Prop,OwnFrom B J ->
  (∀k v W1,k<N->J k W1->Gd k v W1->YieldAt F (n-1) P l v W1 fun e W'=>e=.returned (.bool true)/\J (k+1) W'/\Kp W1 W')->J 0 W ->
  CallsIn F n P g (#[.func (.yield l) #[] #[]]++lb) W fun e W'=>(∃v,e=.returned v)/\J N W'
variable {F:Fence} {n:Nat} {P:Program}
theorem Fk {g:Operand}{ts:Array Tmp}{assign body:Code}{Q:Exit->Act->World->Prop}{a:Act}{w:World}(hro:F.round=none)(h1:1<=n){gf:Nat}{lb:Array Value}(hg:a.eval g=.func (.func gf) #[] lb)(hFg:F.fn gf)(eg:∀args w,(callFunc gf args).run P w=.ok (.enter gf args) w){N:Nat}{Kp:World->World->Prop}{Gd:Nat->Array Value->World->Prop}(hGd:∀k vs W,Gd k vs W->vs.size=ts.size)(hseq:∀W,W.heap.size=w.heap.size+2->Below w.heap.size w W->dS F (n-1) P gf lb (w.heap.size+2) (w.heap.size+1) N Kp Gd W)(hKt:∀ {A B C:World},Kp A B->Kp B C->Kp A C)(hKb:∀W o,Kp W (W.putObj (w.heap.size+1) o))(I:Nat->World->Prop)(hI:OwnFrom w.heap.size I)(h0:I 0 w)(Ax:Nat->Act->World->Prop)(hAx:∀k a',OwnFrom w.heap.size (fun(_:Unit) W=>Ax k a' W))(hassign:∀(l k:Nat) (v:Array Value) (W:World) (K:Act->World->Prop),k<N->I k W->Gd k v W->(∀a' W',KeepsFrom w.heap.size W W'->Kp W W'->Ax k a' W'->K a' W') ->
   assign.wpIn (F.inRound l) (n-1-1) P (Exit.then K (fun _ _ _=>False)) { tmps:=(ts.zip v).foldl (fun t (p,v)=>t.setIfInBounds p v) a.tmps,defers:=[] } W)(hbody:∀(l k:Nat) (a':Act) (W:World),k<N->Ax k a' W->body.wpIn (F.inRound l) (n-1-1) P (fun e _ W'=>e=.normal/\KeepsFrom w.heap.size W W'/\Kp W W'/\I (k+1) W') a' W)(hdone:∀(D:Nat) (W:World),w.heap.size<=D->I N W->W.heap[D]? = some (.deferred (some []))->Q .normal { a with defers:={ target:=.collected D,args:=#[] }::a.defers } W) :
  (Code.rangeFunc g ts assign body).wpIn F n P Q a w:=by
 refine wpIn_rangeFunc fun fn hfn=>?_
 rw[hro]
 -- the record, as it stands and as it is in a round
 let st (s:LoopState):Obj:=.loop { state:=s,pending:=none,fn,tmps:=a.tmps,params:=ts,assign,body,defers:=w.heap.size }
 let W1:World:=(w.alloc (.deferred (some []))).alloc (st .ready)
 have hs1:W1.heap.size=w.heap.size+2:=by simp[W1]
 have hr1:W1.heap[w.heap.size+1]? = some (st .ready):=by
  have:=World.alloc_heap_new (w.alloc (.deferred (some []))) (st .ready);rwa [World.size_alloc]at this
 have hd1:W1.heap[w.heap.size]? = some (.deferred (some [])):=(Below.heap_alloc _ _ _ (by simp)).trans (World.alloc_heap_new w _);have hb1:Below w.heap.size w W1:=((Ba _ w).alloc (Av _) _).alloc (by simp) _;have hI1:I 0 W1:=hI.alloc _ (hI.alloc _ h0);refine⟨w.heap.size+1,[{ target:=.collected w.heap.size,args:=#[] }],W1,{ target:=.fn (.func gf) lb,args:=#[.func (.yield (w.heap.size+1)) #[] #[]] },W1,gf,
  #[.func (.yield (w.heap.size+1)) #[] #[]]++lb,W1,run_enterLoop_outer _ _ _ _ _,?_,?_,?_,fun _=>h1,?_⟩
 .simp only[resolve,hg];simp[go_sem]
 .intro f' hf';simp[Target.leads]at hf';subst hf';exact hFg
 .simp[invoke,go_sem,eg]
 -- what holds between two rounds
 let J:Nat->World->Prop:=fun k W=>I k W/\W.heap[w.heap.size+1]? = some (st .ready)/\W.heap[w.heap.size]? = some (.deferred (some []))
 have hJ:OwnFrom (w.heap.size+2) J:=fun k A B row hs hgr hr=>by
  have far:∀j,j<w.heap.size+2->some j≠row:=fun j hj e=>by have:=(hr j e.symm).1;omega
  refine⟨Wk hI (by omega) k A B row hs.1 hgr hr,?_,?_⟩
  .exact(hgr.block _ (Gg hs.2.1).1 (far _ (by omega))).trans hs.2.1
  .exact(hgr.block _ (Gg hs.2.2).1 (far _ (by omega))).trans hs.2.2
 refine(hseq W1 hs1 hb1 J hJ ?_ ⟨hI1,hr1,hd1⟩).mono ?_
 ·-- one round
  rintro k v W hkN ⟨hi,hl,hd⟩ hgd;have hy:=run_yield (P:=P) (args:=v) hl (hGd k v W hgd);refine⟨fn,_,assign,body,hy,roundIn_of_wpIn hfn ?_⟩;refine hassign _ k v W _ hkN hi hgd ?_;intro a' Wa hka hkpa hax;have hla:=hka.same _ _ (by omega) hl rfl;have hda:=hka.same _ _ (Av _) hd rfl;have hlt:=(Gg hla).1;refine⟨_,run_beginRound hla rfl,?_⟩
  let Wb:World:=Wa.putObj (w.heap.size+1) (st .busy)
  have hlb:Wb.heap[w.heap.size+1]? = some (st .busy):=World.putObj_heap_same hlt;have hdb:Wb.heap[w.heap.size]? = some (.deferred (some [])):=(World.putObj_heap_other (by omega)).trans hda;refine wpIn_mono (hbody _ k a' Wb hkN ((hAx k a').putObj (s:=()) _ hax (by omega) hla rfl)) ?_;rintro e a3 W3 ⟨rfl,hk3,hp3,hi3⟩;have hl3:=hk3.same _ _ (by omega) hlb rfl;have hd3:=hk3.same _ _ (Av _) hdb rfl;have hlt3:=(Gg hl3).1;refine⟨_,_,run_endRound (P:=P) none hl3,rfl,⟨hI.putObj _ hi3 (by omega) hl3 rfl,World.putObj_heap_same hlt3,(World.putObj_heap_other (by omega)).trans hd3⟩,?_⟩;exact hKt hkpa (hKt (hKb Wa _) (hKt hp3 (hKb W3 _)))
 ·-- behind the iterator
  rintro e W2 ⟨⟨v,rfl⟩,hi,hl,hd⟩;exact⟨none,_,run_endLoop (P:=P) hl (by simp),hdone _ _ (Av _) (hI.putObj _ hi (by omega) hl rfl) ((World.putObj_heap_other (by omega)).trans hd)⟩
open Go Go.RowKit Go.Proofs.YtokhckjemidbpaaGreatDoor.Flow
section
variable {W W':World} {row:Option Nat}
def Calm (W:World)(row:Option Nat):Prop:=∀r,row=some r->∃o:Obj,W.heap[r]? = some o/\o.isCells=false
theorem Db (hg:W.grownBy W' row)(hr:Calm W row){b:Nat}{cs:Array Value}{t:TypeId}{m:Nat×Nat}(h:W.heap[b]? = some (.cells cs t m)):W'.heap[b]? = some (.cells cs t m):=by
 rw[hg.block b (Gg h).1 (fun e=>by
  obtain⟨o,ho,hc⟩:=hr b e.symm;rw[h]at ho;cases ho;cases hc)]
 exact h
theorem Row.kept {k:IntKind}{p:Option Addr}{n c:Nat}{xs:List Nat}(h:Row W k p n c xs)(hg:W.grownBy W' row)(hr:Calm W row):Row W' k p n c xs:=by
 refine⟨h.len,h.cap,h.max,?_⟩;rcases h.at_ with h1|⟨b,off,h1,h2,h3⟩
 .exact .inl h1
 .exact .inr ⟨b,off,h1,Da h2 hg.size,fun i x hx=>cell_kept (h3 i x hx) hg hr⟩
theorem Ag.kept {p:Option Addr}{n c N:Nat}(h:Ag W p n c N)(hg:W.grownBy W' row)(hr:Calm W row):Ag W' p n c N:=by
 obtain⟨ws,r1,r2,r3,r4⟩:=h.ex;exact⟨ws,r1.kept hg hr,r2,r3,r4⟩
theorem Fit.kept {e N:Nat}{v:Value}(h:Fit e N v W)(hg:W.grownBy W' row)(hr:Calm W row):Fit e N v W' :=
 let ⟨p,n,c,h1,h2,h3⟩:=h
 ⟨p,n,c,h1,h2.kept hg hr,h3⟩
end
attribute [local go_sem] Oper.semAt_some
structure Ea (w:World) (e:Nat) (us:List (Option Addr×Nat×Nat)) (Ns:List Nat):Prop where
 len:us.length=Ns.length
 at_:∀(i N:Nat),Ns[i]? = some N->∃x,us[i]? = some x/\Cr w x N/\N<An e
theorem Ea.below {w w':World}{e:Nat}{us:List (Option Addr×Nat×Nat)}{Ns:List Nat}(h:Ea w e us Ns)(hb:Below w.heap.size w w'):Ea w' e us Ns :=
 ⟨h.len,fun i N hN=>let ⟨x,h1,h2,h3⟩:=h.at_ i N hN;⟨x,h1,h2.below hb,h3⟩⟩
theorem Ea.get {w:World}{e i:Nat}{us:List (Option Addr×Nat×Nat)}{Ns:List Nat}{x:Option Addr×Nat×Nat}(h:Ea w e us Ns)(hx:us[i]? = some x):∃N,Ns[i]? = some N/\Cr w x N/\N<An e:=by
 have hi:i<Ns.length:=by rw[<-h.len];exact(List.getElem?_eq_some_iff.1 hx).1
 obtain⟨y,h1,h2⟩:=h.at_ i _ (List.getElem?_eq_getElem hi)
 rw[hx]at h1;cases h1
 exact⟨_,List.getElem?_eq_getElem hi,h2⟩
structure Nw (w:World) (p:Option Addr) (n c b off:Nat) (us:List (Option Addr×Nat×Nat)):Prop where
 len:us.length=n
 cap:n<=c
 max:c<=9223372036854775807
 ptr:0<n->p=some ⟨b,off,none⟩/\b<w.heap.size
 cell:∀(i:Nat) (x:Option Addr×Nat×Nat),us[i]? = some x->w.cell? ⟨b,off+i,none⟩=some (sv x)
theorem Nw.below {w w':World}{p:Option Addr}{n c b off:Nat}{us:List (Option Addr×Nat×Nat)}(h:Nw w p n c b off us)(hb:Below w.heap.size w w'):Nw w' p n c b off us :=
 ⟨h.len,h.cap,h.max,fun h0=>⟨(h.ptr h0).1,Da (h.ptr h0).2 hb.size⟩,fun i x hx=>by
  have h0:0<n:=by rw[<-h.len];have:=(List.getElem?_eq_some_iff.1 hx).1;omega
  rw[hb.cell (p:=⟨b,off+i,none⟩) (h.ptr h0).2];exact h.cell i x hx⟩
theorem Pr {w:World}{e:Nat}{p:Option Addr}{n c:Nat}{Ns:List Nat}(h:Aq w e p n c Ns):∃us b off,Ea w e us Ns/\Nw w p n c b off us:=by
 rcases Nat.eq_zero_or_pos n with h0|h0
 .have hN:Ns=[]:=List.eq_nil_of_length_eq_zero (by rw[<-h.len];exact h0);subst hN;exact⟨[],0,0,⟨rfl,fun i N hN=>by simp at hN⟩,⟨h0.symm,h.cap,h.max,fun h1=>by omega,fun i x hx=>by simp at hx⟩⟩
 .obtain⟨b,off,h1,h2,h3⟩:=h.at_ h0
  have hex:∀i:Nat,∃x:Option Addr×Nat×Nat,∀N,Ns[i]? = some N->w.cell? ⟨b,off+i,none⟩=some (sv x)/\Cr w x N/\N<An e:=fun i=>by
   cases hi:Ns[i]? with
   | none=>exact⟨(none,0,0),fun N hN=>by cases hN⟩
   | some N=>
    obtain⟨q,m,d,k1,k2,k3⟩:=h3 i N hi;exact⟨(q,m,d),fun M hM=>by cases hM;exact⟨k1,k2,k3⟩⟩
  let f:Nat->Option Addr×Nat×Nat:=fun i=>Classical.choose (hex i)
  have hf:∀(i N:Nat),Ns[i]? = some N->w.cell? ⟨b,off+i,none⟩=some (sv (f i))/\Cr w (f i) N/\N<An e:=fun i=>Classical.choose_spec (hex i)
  have hg:∀(i:Nat) (x:Option Addr×Nat×Nat),((List.range Ns.length).map f)[i]? = some x->i<Ns.length/\x=f i:=fun i x hx=>by
   rw[List.getElem?_map]at hx
   rcases Nat.lt_or_ge i Ns.length with hi|hi
   .rw[List.getElem?_range hi]at hx
    simp at hx;exact⟨hi,hx.symm⟩
   .rw[List.getElem?_eq_none (by simpa using hi)]at hx
    simp at hx
  refine⟨(List.range Ns.length).map f,b,off,⟨by simp,fun i N hN=>?_⟩,⟨by rw[List.length_map,List.length_range];exact h.len.symm,h.cap,h.max,fun _=>⟨h1,h2⟩,fun i x hx=>?_⟩⟩
  .have hi:i<Ns.length:=(List.getElem?_eq_some_iff.1 hN).1;exact⟨f i,by rw[List.getElem?_map,List.getElem?_range hi];rfl,(hf i N hN).2⟩
  .obtain⟨hi,rfl⟩:=hg i x hx;exact(hf i _ (List.getElem?_eq_getElem hi)).1
theorem Vv (w:World)(p:Option Addr)(n c:Nat) :
  Calls Tryz.prog 213 #[.slice p n c] w fun e w'=>e=.returned (.func (.func 236) #[] #[.pointer (some ⟨w.heap.size,0,none⟩)]) /\
   w'=w.alloc (.cells #[.slice p n c] 62):=by
 go_enter Tryz.func213,Tryz.ntmps213;go_wp2;go_ret;exact⟨rfl,rfl⟩
theorem Tc (n B l b1 b off len cap:Nat)(p:Option Addr)(us:List (Option Addr×Nat×Nat))(w0 W:World)(hr:Nw w0 p len cap b off us)(hlen:len<=1000000)(Kp:World->World->Prop)(hW:Below w0.heap.size w0 W)(hc1:W.cell? ⟨b1,0,none⟩=some (.slice p len cap))(hkp:∀A C,Kp A C->w0.heap.size<=A.heap.size->Below w0.heap.size A C) :
  dS Fence.wide n Tryz.prog 236 #[.pointer (some ⟨b1,0,none⟩)] B l len Kp (fun k vs _=>∃x,us[k]? = some x/\vs=#[.agg #[sv x]]) W:=by
 intro J hJ hY h0;have HJ:Aa (OwnFrom B J):=⟨hJ⟩
 have HY:=Ab hY;have HK:=Ab hkp;have HR:=Ab hr;have HJ0:=Ab h0;have HW:=Ab hW;clear hJ hY hkp hr h0 hW;refine callsIn_of_wp Tryz.func236 rfl trivial ?_ rfl;simp only[Tryz.ntmps236,List.size_toArray,List.length_cons,List.length_nil,Nat.reduceAdd,Nat.reduceSub,Array.replicate_succ,Array.replicate_zero,List.push_toArray,List.append_toArray,List.nil_append,List.cons_append]
 gi_wp2
 gi_loopw [4,7] (fun _ i wr=>∃k:Nat,k<=len/\i=.int .i64 (k:Nat)/\Aa (J k wr)/\Aa (Below w0.heap.size w0 wr)) (fun _ i _=>len-(intOf i).toNat)
 case atStart=>exact⟨0,by omega,rfl,HJ0,HW⟩
 case round=>
  obtain⟨k,hk,rfl,HJk,HB⟩:=hrel
  by_cases hkn:k<len
  .obtain⟨x,hx⟩:∃x,us[k]? = some x:=⟨us[k]'(by rw[HR.out.len];exact hkn),List.getElem?_eq_getElem _⟩
   obtain⟨rfl,hblt⟩:=HR.out.ptr (by omega);obtain⟨q,m,d⟩:=x;have hc:wr.cell? ⟨b,off+k,none⟩=some (.slice q m d):=(HB.out.cell (p:=⟨b,off+k,none⟩) hblt).trans (HR.out.cell k _ hx);have hkn':(k:Int)<len:=by omega
   obtain⟨wa,hwa⟩:∃wa,wr.alloc (.cells #[.slice q m d] 37)=wa:=⟨_,rfl⟩
   have hba:Below wr.heap.size wr wa:=by rw[<-hwa];exact(Ba _ _).alloc (Av _) _
   have hbx:Af wa wr.heap.size (.slice q m d):=by rw[<-hwa];exact Af.made wr _
   have c4:=hbx.cell;have HBa:Aa (Below w0.heap.size w0 wa):=⟨HB.out.trans (hba.mono HB.out.size)⟩
   obtain⟨fn,tmps,assign,body,hy,hR⟩:=HY.out k #[.agg #[.slice q m d]] wa hkn (OwnFrom.step HJ.out HJk.out hba) ⟨_,hx,rfl⟩;have HRn:=Ab hR;clear hx hblt hba hbx hR
   gi_wp2_with fail
   refine⟨fun h=>by simp[Fence.wide]at h,HRn.out.mono ?_⟩;rintro e W3 ⟨rfl,hJ3,hk3⟩;have HJ3:=Ab hJ3;have HB3:=Ab (HBa.out.trans (HK.out _ _ hk3 HBa.out.size));clear hJ3 hk3 hy c4 hc
   gi_wp2
   go_roundw
   case rel=>exact⟨k+1,by omega,by go_num,HJ3,HB3⟩
   case measure=>simp[intOf];omega
  .have hkN:k=len:=by omega
   subst hkN;have hkn':¬(k:Int)<k:=by omega
   gi_wp2
   go_end0
   exact⟨⟨_,rfl⟩,HJk.out⟩
attribute [local go_sem] Oper.semAt_some
theorem Nb {W W':World}{row:Option Nat}{B size n:Nat}{e:TypeId}{v:Value}{us:List Value}(h:W.ownsRow B e size v n us)(hg:W.grownBy W' row)(hr:Calm W row):W'.ownsRow B e size v n us:=by
 refine⟨h.1,?_⟩;rcases h.2 with h4|⟨g,cap,cur,e',hbg,hgg,h5⟩
 .exact .inl h4
 .exact .inr ⟨g,cap,cur,e',hbg,Db hg hr hgg,h5⟩
theorem Ls {W W':World}{B size n:Nat}{e:TypeId}{v:Value}{us:List Value}(h:W.ownsRow B e size v n us)(hb:Below W.heap.size W W'):W'.ownsRow B e size v n us:=by
 refine⟨h.1,?_⟩;rcases h.2 with h4|⟨g,cap,cur,e',hbg,hgg,h5⟩
 .exact .inl h4
 .exact .inr ⟨g,cap,cur,e',hbg,by rw[hb.block g (Gg hgg).1];exact hgg,h5⟩
theorem Th {W:World}{B size n:Nat}{e:TypeId}{v:Value}{us:List Value}(h:W.ownsRow B e size v n us):∃p m c,v=.slice p m c:=by
 rcases h.2 with ⟨h1,_⟩|⟨g,cap,cur,h1,_⟩
 .exact⟨_,_,_,h1⟩
 .exact⟨_,_,_,h1⟩
structure Od (w:World) (B bx:Nat) (us:List (Option Addr×Nat×Nat)) (k:Nat) (W:World):Prop where
 ex:∃v,W.heap[bx]? = some (.cells #[v] 62 (0,0))/\W.ownsRow B 37 1 v k ((us.take k).map sv)
 bel:Below w.heap.size w W
theorem Od.stable {w:World}{B bx k:Nat}{us:List (Option Addr×Nat×Nat)}{W W':World}(h:Od w B bx us k W)(hb:Below W.heap.size W W'):Od w B bx us k W':=by
 obtain⟨v,h1,h2⟩:=h.ex;exact⟨⟨v,by rw[hb.block bx (Gg h1).1];exact h1,Ls h2 hb⟩,Ae h.bel hb⟩
theorem Od.own {w:World}{B bx:Nat}{us:List (Option Addr×Nat×Nat)}{D:Nat}(hD:w.heap.size<=D):OwnFrom D (fun k=>Od w B bx us k):=fun k W W' row h hg hr=>by
 have hc:Calm W row:=fun j e=>(hr j e).2
 obtain⟨v,h1,h2⟩:=h.ex;exact⟨⟨v,Db hg hc h1,Nb h2 hg hc⟩,h.bel.grown hg h.bel.size (fun j e=>Ee hD (hr j e).1)⟩
theorem Od.grow {w:World}{B bx k D:Nat}{us:List (Option Addr×Nat×Nat)}{Wb W1 w':World}{v v':Value}{x:Option Addr×Nat×Nat}(h:Od w B bx us k Wb)(hv:Wb.heap[bx]? = some (.cells #[v] 62 (0,0)))(hrow:Wb.ownsRow B 37 1 v k ((us.take k).map sv))(hx:us[k]? = some x)(hbw:Below Wb.heap.size Wb W1)(hg:W1.grownBy w' v.ownBlock)(hown:w'.ownsRow B 37 1 v' (k+1) ((us.take k).map sv++[sv x]))(hB:w.heap.size<=B)(hbx:w.heap.size<=bx) :
  (w'.cell? ⟨bx,0,none⟩=some v/\w'.frozen? ⟨bx,0,none⟩=false)/\KeepsFrom D Wb (w'.setCell ⟨bx,0,none⟩ v')/\Mid (fun j=>j<w.heap.size) Wb (w'.setCell ⟨bx,0,none⟩ v')/\Od w B bx us (k+1) (w'.setCell ⟨bx,0,none⟩ v'):=by
 have hltx:=(Gg hv).1;have hne:∀g,v.ownBlock=some g->(∃cur,Wb.heap[g]? = some (.cells cur 37 (0,0)))/\B<=g:=fun g hg=>by
  rcases hrow.2 with ⟨e,_⟩|⟨g',cap,cur,e,hbg,hgg,_⟩
  .rw[e]at hg;cases hg
  .rw[e]at hg
   simp[Value.ownBlock]at hg
   subst hg;exact⟨⟨cur,hgg⟩,hbg⟩
 have hother:∀j,j<Wb.heap.size->(∀cur,Wb.heap[j]? ≠ some (.cells cur 37 (0,0)))->w'.heap[j]? = Wb.heap[j]? := fun j hj hn=>by
  rw[hg.block j (Da hj hbw.size) (fun e=>by obtain⟨⟨cur,h1⟩,_⟩:=hne j e.symm;exact hn cur h1),hbw.block j hj]
 have hv':w'.heap[bx]? = some (.cells #[v] 62 (0,0)):=by
  rw[hother bx hltx (fun cur e=>by rw[hv]at e;simp only[Option.some.injEq,Obj.cells.injEq]at e;exact absurd e.2.1 (by decide))];exact hv
 have hsz:Wb.heap.size<=w'.heap.size:=Ee hbw.size hg.size;have hset:∀j,j≠bx->(w'.setCell ⟨bx,0,none⟩ v').heap[j]? = w'.heap[j]? := fun j hj=>heap_setCell_other w' ⟨bx,0,none⟩ j v' hj
 have hmid:Mid (fun j=>j<w.heap.size) Wb (w'.setCell ⟨bx,0,none⟩ v'):=by
  refine⟨hg.os.trans hbw.os,hg.tape.trans hbw.tape,hg.output.trans hbw.output,by simpa using hsz,fun j hj hp=>?_⟩;rw[hset j (by omega),hg.block j (Da hj hbw.size) (fun e=>by obtain⟨_,h1⟩:=hne j e.symm;omega),hbw.block j hj]
 refine⟨⟨by simp[World.cell?,hv'],by simp[World.frozen?,hv']⟩,⟨by simpa using hsz,fun j o _ hj ho=>?_⟩,hmid,⟨⟨v',?_,?_⟩,?_⟩⟩
 .have hjb:j≠bx:=fun e=>by subst e;rw[hv]at hj;cases hj;cases ho
  rw[hset j hjb,hother j (Gg hj).1 (fun cur e=>by rw[hj]at e;cases e;cases ho)];exact hj
 .simp[World.setCell,Array.getElem?_modify,hv']
 .rw[Cx hx,List.map_append,List.map_singleton];refine⟨hown.1,?_⟩;rcases hown.2 with h4|⟨g,cap,cur,e',hbg,hgg,h5⟩
  .exact .inl h4
  .exact .inr ⟨g,cap,cur,e',hbg,by
    rw[hset g (fun e=>by subst e;rw[hv']at hgg;simp only[Option.some.injEq,Obj.cells.injEq]at hgg;exact absurd hgg.2.1 (by decide))];exact hgg,h5⟩
 .exact h.bel.trans (hmid.below h.bel.size (fun j hj=>hj))
theorem Xq (w:World)(b1 b off len cap:Nat)(p:Option Addr)(us:List (Option Addr×Nat×Nat))(hr:Nw w p len cap b off us)(hlen:len<=1000000)(hc1:w.cell? ⟨b1,0,none⟩=some (.slice p len cap))(hb1:b1<w.heap.size) :
  CallsIn Fence.wide 10 Tryz.prog 245 #[.slice none 0 0,.func (.func 236) #[] #[.pointer (some ⟨b1,0,none⟩)]] w fun e w'=>
   ∃v,e=.returned v/\w'.ownsRow w.heap.size 37 1 v len (us.map sv)/\Below w.heap.size w w':=by
 have HR:=Ab hr;have HC1:=Ab hc1;have HB1:=Ab hb1;clear hr hc1 hb1;refine callsIn_of_wp_marks Tryz.func245 rfl trivial ?_ rfl;simp only[Tryz.ntmps245,List.size_toArray,List.length_cons,List.length_nil,Nat.reduceAdd,Nat.reduceSub,Array.replicate_succ,Array.replicate_zero,List.push_toArray,List.append_toArray,List.nil_append,List.cons_append];obtain⟨bx,hbx⟩:∃b,w.heap.size=b:=⟨_,rfl⟩
 obtain⟨W0,hW0⟩:∃W0,w.alloc (.cells #[.slice none 0 0] 62)=W0:=⟨_,rfl⟩
 have hb0:Below w.heap.size w W0:=by rw[<-hW0];exact(Ba _ _).alloc (Av _) _
 have hs0:W0.heap.size=bx+1:=by rw[<-hW0,<-hbx];simp
 have hx0:W0.heap[bx]? = some (.cells #[.slice none 0 0] 62 (0,0)):=by rw[<-hW0,<-hbx];exact heap_alloc_new w _
 have HS0:Aa (Od w bx bx us 0 W0):=⟨⟨⟨_,hx0,World.ownsRow_nil W0 bx _ 1⟩,hb0⟩⟩
 have HZ0:=Ab hs0;have HBX:=Ab hbx;have HCW:Aa (W0.cell? ⟨b1,0,none⟩=some (.slice p len cap)):=⟨(hb0.cell (p:=⟨b1,0,none⟩) HB1.out).trans HC1.out⟩
 clear hb0 hs0 hx0
 gi_wp2_with fail
 clear hbx hW0;refine Fk rfl (by decide) (gf := 236) (lb:=#[.pointer (some ⟨b1,0,none⟩)]) rfl trivial (enters_of Tryz.func236 (by kernel_rfl) rfl)
  (N:=len) (Kp:=Mid (fun j=>j<w.heap.size)) (Gd:=fun k vs _=>∃x,us[k]? = some x/\vs=#[.agg #[sv x]]) (by rintro k vs W ⟨x,_,rfl⟩;rfl)
  (fun W5 hs5 hb5=>Tc (10-1) (W0.heap.size+2) (W0.heap.size+1) b1 b off len cap p us w W5 HR.out hlen _ (HS0.out.bel.trans (hb5.mono HS0.out.bel.size))
   ((hb5.cell (p:=⟨b1,0,none⟩) (by have:=HB1.out;have:=HS0.out.bel.size;simp;omega)).trans HCW.out) (fun A C h hA=>h.below hA (fun j hj=>hj)))
  (fun h k=>h.trans k) (fun W5 o=>Mid.putObj _ _ _ (by have:=HZ0.out;have:=HBX.out;omega))
  (fun k=>Od w bx bx us k) (Od.own (by have:=HZ0.out;have:=HBX.out;omega)) HS0.out
  (fun k a' W5=>∃(bv:Nat) (x:Option Addr×Nat×Nat),us[k]? = some x/\a'={ defers:=[],tmps:=#[.slice none 0 0,.func (.func 236) #[] #[.pointer (some ⟨b1,0,none⟩)],.pointer (some ⟨bx,0,none⟩),undef,.slice none 0 0,.pointer (some ⟨bv,0,none⟩),.func (.func 236) #[] #[.pointer (some ⟨b1,0,none⟩)],.agg #[.slice x.1 x.2.1 x.2.2],undef,undef,undef,undef,undef] }/\Af W5 bv (sv x)/\Od w bx bx us k W5)
  ?ax ?assign ?body ?done
 case ax=>
  rintro k a' _ X Y row ⟨bv,x,hx,e,h1,h2⟩ hg hr;exact⟨bv,x,hx,e,Db hg (fun j e=>(hr j e).2) h1,Od.own (w:=w) (B:=bx) (bx:=bx) (us:=us) (D:=W0.heap.size) (by have:=HZ0.out;have:=HBX.out;omega) k X Y row h2 hg hr⟩
 case assign=>
  rintro l2 k v W5 K hk hi ⟨x,hx,rfl⟩ hK;obtain⟨q,m,d⟩:=x;have hbw:Below W5.heap.size W5 (W5.alloc (.cells #[.slice q m d] 37)):=Bq;have HK:=Ab hK;have HI:=Ab hi;have HX:=Ab hx;clear hK hi hx;unfold sv
  gi_wp2
  exact HK.out _ _ ((KeepsOthers.alloc _ _).from _) (Mid.of hbw) ⟨_,(q,m,d),HX.out,rfl,Af.made W5 _,HI.out.stable hbw⟩
 case body=>
  rintro l2 k a' Wb hk ⟨bv,⟨q,m,d⟩,hx,rfl,hxn,hst⟩;obtain⟨v,hv,hrow⟩:=hst.ex;have cb:Wb.cell? ⟨bx,0,none⟩=some v:=by simp[World.cell?,hv]
  have cx:=hxn.cell;unfold sv at cx;have HX:=Ab hx;have HV:=Ab hv;have HST:=Ab hst;have HROW:=Ab hrow;clear hx hv hst hxn hrow;have hlk:=HROW.out.1
  gi_wp2_with (gi_at_builtin;refine Fd.out ?_)
  refine⟨?_⟩;clear cx cb;obtain⟨i1,hi1,hz1,hs1,hbb1⟩:=info_parts Tryz.info_Nat;have hbw:Below Wb.heap.size Wb (Wb.alloc (.cells #[.slice q m d] 37)):=Bq;have hcn:(Wb.alloc (.cells #[.slice q m d] 37)).cell? ⟨Wb.heap.size,0,none⟩=some (.slice q m d):=(Af.made Wb (.slice q m d)).cell;have hbsz:bx<=Wb.heap.size:=Nat.le_of_lt (Gg HV.out).1;refine wpListIn_append_own _ rfl _ _ _ rfl bx _ i1 _ 1 _ Tryz.underlying62 hi1 hz1 hs1 rfl rfl (by decide) v k _ rfl (Ls HROW.out hbw) ⟨Wb.heap.size,0,none⟩ 1 1 [.slice q m d] rfl rfl
   (fun j u hj=>by
    cases j with
    | zero=>simp at hj;subst hj;exact hcn
    | succ j=>simp at hj)
   (fun u hj=>by simp at hj;subst hj;rfl) (by simp only[maxLen];omega) (Ee (Nat.mul_le_mul (by omega:k+1<=1000001) (hbb1 ▸ (by decide:(24:Nat)<=1000))) (by decide)) (Ee hbsz hbw.size) ?_
  intro v' w' hown hgr _;obtain⟨pv,nv,cv,rfl⟩:=Th hown;obtain⟨⟨cb,fb⟩,hkf,hmd,hap⟩:=Od.grow (D:=W0.heap.size) HST.out HV.out HROW.out HX.out hbw hgr hown (by have:=HBX.out;omega) (by have:=HBX.out;omega);have HKF:=Ab hkf;have HMD:=Ab hmd;have HAP:=Ab hap;clear hkf hmd hap hown hgr hbw hcn hbsz hi1 hz1 hs1 hbb1 hlk
  gi_wp2
  exact⟨HKF.out,HMD.out,HAP.out⟩
 case done=>
  rintro D W5 hD hi hK;obtain⟨v,hv,hrow⟩:=hi.ex;have cb:W5.cell? ⟨bx,0,none⟩=some v:=by simp[World.cell?,hv]
  have HROW:=Ab hrow;have HK:=Ab hK;have HI:=Ab hi;clear hv hrow hK hi
  gi_wp2
  refine⟨by simp,.inl ⟨_,_,rfl,run_takeDeferred HK.out,?_⟩⟩;have hgr:=grownBy_putObj' W5 D (.deferred none);have hown:=HROW.out;rw[List.take_of_length_le (by rw[HR.out.len];exact Av _)]at hown
  refine⟨v,?_,v,rfl,?_,?_⟩
  .simp[results,Tryz.f245,go_sem]
  .rw[HBX.out];exact Nb hown hgr (fun j e=>by cases e;exact⟨_,HK.out,rfl⟩)
  .exact HI.out.bel.grown hgr HI.out.bel.size (fun j e=>by cases e;have:=HBX.out;have:=HZ0.out;omega)
theorem Tn (w:World)(b1 b off len cap:Nat)(p:Option Addr)(us:List (Option Addr×Nat×Nat))(hr:Nw w p len cap b off us)(hlen:len<=1000000)(hc1:w.cell? ⟨b1,0,none⟩=some (.slice p len cap))(hb1:b1<w.heap.size) :
  Calls Tryz.prog 234 #[.func (.func 236) #[] #[.pointer (some ⟨b1,0,none⟩)]] w fun e w'=>
   ∃v,e=.returned v/\w'.ownsRow w.heap.size 37 1 v len (us.map sv)/\Below w.heap.size w w':=by
 have HA:=Ab (callsIn_wide.1 (Xq w b1 b off len cap p us hr hlen hc1 hb1));clear hr hc1 hb1;go_enter Tryz.func234,Tryz.ntmps234
 go_wp2_with fail
 refine HA.out.mono ?_;rintro en w1 ⟨v,rfl,hv,hb⟩;have HV:=Ab hv;have HB:=Ab hb;clear hv hb HA;go_wp2;go_ret;exact⟨v,rfl,HV.out,HB.out⟩
theorem oX {q:Nat}(hq:2<=q)(x a:Nat):Is q (Cq x a q) ((x:Int)-a):=by
 have h0:0<q:=by omega
 have:=(Is.of h0 x).sub hq (Is.of h0 a);have e:Cq (x%q) (a%q) q=Cq x a q:=by unfold Cq;rw[Nat.mod_mod,Nat.mod_mod]
 rwa [e]at this
def Cm (q x:Nat)(o:Nat):List Nat->Nat
 | []=>o
 | a::l=>Cm q x (o*Cq x a q%q) l
theorem Ml (q x:Nat):∀(l:List Nat) (o a:Nat),Cm q x o (l++[a])=Cm q x o l*Cq x a q%q
 | [],_,_=>rfl
 | _::l,_,a=>Ml q x l _ a
theorem Kr {q x:Nat}(hq:2<=q):∀(l:List Nat) (o:Nat),o<q->Cm q x o l<q
 | [],_,h=>h
 | _::l,_,_=>Kr hq l _ (Nat.mod_lt _ (by omega))
def Eh:List Int->Int
 | []=>1
 | a::l=>a*Eh l
theorem Nl {q x:Nat}(hq:2<=q):∀(l:List Nat) (o:Nat) (z:Int),Is q o z->Is q (Cm q x o l) (z*Eh (l.map fun a:Nat=>(x:Int)-a))
 | [],o,z,h=>by
  show Is q o (z*1);rw[Int.mul_one];exact h
 | a::l,o,z,h=>by
  have h3:=Nl (x:=x) hq l _ _ (h.mul (oX hq x a));show Is q (Cm q x (o*Cq x a q%q) l) (z*(((x:Int)-a)*Eh (l.map fun a:Nat=>(x:Int)-a)));rw[<-Int.mul_assoc];exact h3
theorem Tt (iv:Nat->Int)(x:Int):∀l:List Nat,Gu (l.map fun a:Nat=>((a:Int),iv a)) x=Eh (l.map fun a:Nat=>x-a)*Eh (l.map iv)
 | []=>rfl
 | a::l=>by
  show (x-(a:Int))*iv a*Gu (l.map fun a:Nat=>((a:Int),iv a)) x=(x-(a:Int))*Eh (l.map fun a:Nat=>x-a)*(iv a*Eh (l.map iv));rw[Tt iv x l];generalize Eh (l.map fun a:Nat=>x-a)=A;generalize Eh (l.map iv)=B;rw[Int.mul_assoc,Int.mul_assoc,<-Int.mul_assoc (iv a) A,Int.mul_comm (iv a) A,Int.mul_assoc]
theorem Rf {q:Int}(iv:Nat->Int)(x:Int):∀l:List Nat,(∀a∈l,q ∣ (x-a)*iv a-1)->q ∣ Eh (l.map fun a:Nat=>x-a)*Eh (l.map iv)-1
 | [],_=>by show q ∣ 1*1-1;simp
 | a::l,h=>by
  have h1:=h a List.mem_cons_self;have h2:=Rf iv x l fun b hb=>h b (List.mem_cons_of_mem _ hb)
  show q ∣ (x-(a:Int))*Eh (l.map fun a:Nat=>x-a)*(iv a*Eh (l.map iv))-1;generalize Eh (l.map fun a:Nat=>x-a)=A at *;generalize Eh (l.map iv)=B at *;generalize x-(a:Int)=D at *;generalize iv a=v at *;have t:D*A*(v*B)=D*v*(A*B):=by rw[Int.mul_assoc,Int.mul_assoc,<-Int.mul_assoc A,Int.mul_comm A v,Int.mul_assoc v]
  have s:(D*v-1)*(A*B)=D*v*(A*B)-A*B:=by rw[Int.sub_mul,Int.one_mul]
  have e:D*A*(v*B)-1=(D*v-1)*(A*B)+(A*B-1):=by omega
  rw[e];exact Int.dvd_add (Ox h1 _) h2
theorem Jy {q:Nat}(hq:Bf q)(x:Int):∀l:List Nat,(∀a∈l,¬(q:Int) ∣ x-a)->¬(q:Int) ∣ Eh (l.map fun a:Nat=>x-a)
 | [],_,h=>by
  have h2:=hq.two;have h1:(q:Int) ∣ 1:=h;have:=Int.le_of_dvd (by omega) h1;omega
 | a::l,h,k=>by
  rcases hq.dvd_imul (a:=x-a) (b:=Eh (l.map fun a:Nat=>x-a)) k with h1|h1
  .exact h a List.mem_cons_self h1
  .exact Jy hq x l (fun b hb=>h b (List.mem_cons_of_mem _ hb)) h1
noncomputable def pW (q x xi:Nat) (l:List Nat):Nat:=Cm q x 1 l*Qm q (Cm q xi 1 l)%q
theorem iX {q x xi:Nat}{l:List Nat}(hq:Bf q)(hu:∀a∈l,¬(q:Int) ∣ (xi:Int)-a):pW q x xi l=Jf q x xi 1 l:=by
 have h2:=hq.two;have hA:=Nl (x:=x) h2 l 1 1 (Is.one h2);have hB:=Nl (x:=xi) h2 l 1 1 (Is.one h2);have hW:=Xf (x:=x) (xi:=xi) h2 l 1 1 (Is.one h2);rw[Int.one_mul]at hA hB hW
 have hN:=Jy hq (xi:Int) l hu;have hI:=Is.inv (N:=Cm q xi 1 l) hq (by rw[Nat.mod_eq_of_lt hB.lt];exact hB) (Wv h2 _) hN;have hI2:Is q (Qm q (Cm q xi 1 l)) (Qm q (Cm q xi 1 l):Nat):=⟨hI.2,by simp⟩
 refine(hA.mul hI2).uniq hW ?_;rw[Tt (fun a=>Me q ((xi:Int)-a))];have hU:=Rf (q:=q) (fun a=>Me q ((xi:Int)-a)) xi l fun a ha=>Zr hq ((xi:Int)::ints l) _ _ List.mem_cons_self (List.mem_cons_of_mem _ (by
  rw[ints];exact List.mem_map.2 ⟨a,ha,rfl⟩)) (hu a ha)
 have hI1:=hI.1;generalize Eh (l.map fun a:Nat=>(xi:Int)-a)=B at *;generalize Eh (l.map fun a:Nat=>Me q ((xi:Int)-a))=V at *;generalize Eh (l.map fun a:Nat=>(x:Int)-a)=A at *;generalize ((Qm q (Cm q xi 1 l):Nat):Int)=I at *;have h3:(q:Int) ∣ B*(I-V):=by
  have:=Int.dvd_sub hI1 hU;rw[Int.mul_sub]
  rwa [show B*I-1-(B*V-1)=B*I-B*V by omega]at this
 rcases hq.dvd_imul h3 with h|h
 .exact absurd h hN
 .rw[<-Int.mul_sub];exact Ww h _
def others (xs:List Nat)(i k:Nat):List Nat:=(xs.take k).take i++(xs.take k).drop (i+1)
theorem Pt (xs:List Nat)(i:Nat):others xs i 0=[]:=by simp[others]
theorem Ze (xs:List Nat)(i:Nat):others xs i (i+1)=others xs i i:=by
 unfold others;have h1:(xs.take (i+1)).drop (i+1)=[]:=List.drop_eq_nil_of_le (by simp;omega);have h2:(xs.take i).drop (i+1)=[]:=List.drop_eq_nil_of_le (by simp;omega);rw[h1,h2,List.take_take,List.take_take];simp
theorem Zd {xs:List Nat}{i k a:Nat}(hk:xs[k]? = some a)(hne:k≠i):others xs i (k+1)=others xs i k++[a]:=by
 unfold others;have hkl:=(List.getElem?_eq_some_iff.1 hk).1;have hl:(xs.take k).length=k:=by rw[List.length_take];omega
 have e:xs.take (k+1)=xs.take k++[a]:=Cx hk;rw[e];rcases Nat.lt_or_ge k i with h|h
 .have e1:(xs.take k++[a]).take i=xs.take k++[a]:=List.take_of_length_le (by rw[List.length_append,hl,List.length_singleton];omega);have e2:(xs.take k++[a]).drop (i+1)=[]:=List.drop_eq_nil_of_le (by rw[List.length_append,hl,List.length_singleton];omega);have e3:(xs.take k).take i=xs.take k:=List.take_of_length_le (by omega);have e4:(xs.take k).drop (i+1)=[]:=List.drop_eq_nil_of_le (by omega);rw[e1,e2,e3,e4,List.append_nil,List.append_nil]
 .have e1:(xs.take k++[a]).take i=(xs.take k).take i:=List.take_append_of_le_length (by omega);have e2:(xs.take k++[a]).drop (i+1)=(xs.take k).drop (i+1)++[a]:=List.drop_append_of_le_length (by omega);rw[e1,e2,List.append_assoc]
theorem cH (xs:List Nat)(i:Nat):others xs i xs.length=xs.take i++xs.drop (i+1):=by
 unfold others;rw[List.take_length]
theorem Gv {q:Nat}(xs:List Nat):Ev q (ints xs) ↔ (xs.map fun x=>x%q).Nodup:=by
 unfold Ev ints List.Nodup;rw[List.pairwise_map,List.pairwise_map];constructor
 .intro h;exact h.imp fun {a b} hab e=>hab (Mi e)
 .intro h;exact h.imp fun {a b} hab e=>hab (Jb e)
theorem Te {q:Nat}{xs:List Nat}(h:Ev q (ints xs)){i z:Nat}(hi:xs[i]? = some z):∀a∈xs.take i++xs.drop (i+1),¬(q:Int) ∣ (z:Int)-a:=by
 have e:xs=xs.take i++z::xs.drop (i+1):=by
  obtain⟨h1,h2⟩:=List.getElem?_eq_some_iff.1 hi;rw[<-h2,List.getElem_cons_drop,List.take_append_drop]
 rw[e]at h
 unfold Ev ints at h;rw[List.map_append,List.map_cons,List.pairwise_append,List.pairwise_cons]at h
 obtain⟨_,⟨h2,_⟩,h3⟩:=h;intro a ha;rcases List.mem_append.1 ha with k|k
 .exact Ev.neg (h3 _ (List.mem_map.2 ⟨a,k,rfl⟩) _ List.mem_cons_self)
 .exact h2 _ (List.mem_map.2 ⟨a,k,rfl⟩)
theorem oJ {l:List Nat}{i a:Nat}(h:l[i]? = some a)(k:l[i+1]? = some a):¬l.Nodup:=by
 intro hn;obtain⟨h1,h2⟩:=List.getElem?_eq_some_iff.1 h;obtain⟨k1,k2⟩:=List.getElem?_eq_some_iff.1 k;have:=List.pairwise_iff_getElem.1 hn i (i+1) h1 k1 (by omega);exact this (h2.trans k2.symm)
theorem kA:∀ {l:List Nat},l.Pairwise (fun a b=>a<=b)->(∀i a b,l[i]? = some a->l[i+1]? = some b->a≠b)->l.Nodup
 | [],_,_=>List.Pairwise.nil
 | [a],_,_=>List.pairwise_singleton _ _
 | a::b::l,h,k=>by
  obtain⟨h1,h2⟩:=List.pairwise_cons.1 h;refine List.pairwise_cons.2 ⟨fun c hc e=>?_,kA h2 fun i x y hx hy=>k (i+1) x y hx hy⟩;subst e;have hab:=h1 b List.mem_cons_self;have hne:=k 0 a b rfl rfl;rcases List.mem_cons.1 hc with e|hc
  .exact hne e
  .have:=(List.pairwise_cons.1 h2).1 a hc;omega
theorem Ud:∀ {l:List Nat} {j a b:Nat},l[j+1]? = some a->l[j]? = some b->((l.set (j+1) b).set j a).Perm l
 | [],_,_,_,h,_=>by simp at h
 | [_],_,_,_,h,_=>by simp at h
 | x::y::l,0,a,b,h,k=>by
  simp at h k;subst h k;exact List.Perm.swap _ _ _
 | x::y::l,j+1,a,b,h,k=>List.Perm.cons x (Ud (l:=y::l) (j:=j) h k)
structure Ins (i j:Nat) (l:List Nat):Prop where
 le:j<=i
 rest:∀p r a b,p<r->r<=i->p≠j->r≠j->l[p]? = some a->l[r]? = some b->a<=b
 low:∀r a b,j<r->r<=i->l[j]? = some a->l[r]? = some b->a<=b
def iW (i:Nat)(l:List Nat):Prop:=∀p r a b,p<r->r<i->l[p]? = some a->l[r]? = some b->a<=b
theorem iW.ins {i:Nat}{l:List Nat}(h:iW i l):Ins i i l:=⟨Av _,fun p r a b h1 h2 _ h4 k1 k2=>h p r a b h1 (by omega) k1 k2,fun r _ _ h1 h2=>by omega⟩
theorem Ins.done {i j:Nat}{l:List Nat}(h:Ins i j l)(hj:j=0 ∨ ∀a b,l[j-1]? = some b->l[j]? = some a->b<=a)(hl:i<l.length):iW (i+1) l:=by
 intro p r a b h1 h2 k1 k2
 by_cases e1:p=j
 .subst e1;exact h.low r a b h1 (by omega) k1 k2
 by_cases e2:r=j
 .subst e2;rcases hj with h0|hj
  .omega
  have hm:r-1<l.length:=by omega
  have km:l[r-1]? = some (l[r-1]'hm):=List.getElem?_eq_getElem _;have h5:=hj b _ km k2;rcases Nat.lt_or_ge p (r-1) with h6|h6
  .exact Ee (h.rest p (r-1) a _ h6 (by omega) e1 (by omega) k1 km) h5
  .obtain rfl:p=r-1:=by omega
   rw[k1]at km;cases km
   exact h5
 .exact h.rest p r a b h1 (by omega) e1 e2 k1 k2
theorem Ins.swap {i j x y:Nat}{l:List Nat}(h:Ins i (j+1) l)(hx:l[j+1]? = some x)(hy:l[j]? = some y)(hlt:x<y):Ins i j ((l.set (j+1) y).set j x):=by
 have hle:=h.le;obtain⟨l1,_⟩:=List.getElem?_eq_some_iff.1 hx;obtain⟨l2,_⟩:=List.getElem?_eq_some_iff.1 hy;have gj:((l.set (j+1) y).set j x)[j]? = some x:=by rw[List.getElem?_set_self (by simpa using l2)]
 have gj1:((l.set (j+1) y).set j x)[j+1]? = some y:=by rw[List.getElem?_set_ne (by omega),List.getElem?_set_self l1]
 have go:∀p,p≠j->p≠j+1->((l.set (j+1) y).set j x)[p]? = l[p]? := fun p h1 h2=>by rw[List.getElem?_set_ne (by omega),List.getElem?_set_ne (by omega)]
 refine⟨by omega,fun p r a b h1 h2 h3 h4 k1 k2=>?_,fun r a b h1 h2 k1 k2=>?_⟩
 .by_cases e1:p=j+1
  .subst e1;rw[gj1]at k1;cases k1
   rw[go r h4 (by omega)]at k2
   exact h.rest j r y b (by omega) h2 (by omega) (by omega) hy k2
  .rw[go p h3 e1]at k1
   by_cases e2:r=j+1
   .subst e2;rw[gj1]at k2;cases k2
    exact h.rest p j a y (by omega) (by omega) e1 (by omega) k1 hy
   .rw[go r h4 e2]at k2
    exact h.rest p r a b h1 h2 e1 e2 k1 k2
 .rw[gj]at k1;cases k1
  by_cases e2:r=j+1
  .subst e2;rw[gj1]at k2;cases k2
   omega
  .rw[go r (by omega) e2]at k2
   exact h.low r x b (by omega) h2 hx k2
theorem iW.pairwise {l:List Nat}(h:iW l.length l):l.Pairwise fun a b=>a<=b:=by
 rw[List.pairwise_iff_getElem];intro i j hi hj hij;exact h i j _ _ hij hj (List.getElem?_eq_getElem _) (List.getElem?_eq_getElem _)
def Ej (w:World)(g:Nat)(us:List (Option Addr×Nat×Nat))(rest:List Value):Prop:=w.heap[g]? = some (.cells (us.map sv++rest).toArray 37 (0,0))
theorem Ej.lt {w:World}{g:Nat}{us:List (Option Addr×Nat×Nat)}{rest:List Value}(h:Ej w g us rest):g<w.heap.size:=(Gg h).1
theorem Ej.below {w w':World}{g B:Nat}{us:List (Option Addr×Nat×Nat)}{rest:List Value}(h:Ej w g us rest)(hb:Below B w w')(hg:g<B):Ej w' g us rest:=by
 unfold Ej at *;rw[hb.block g hg];exact h
theorem Ej.cell {w:World}{g j:Nat}{us:List (Option Addr×Nat×Nat)}{rest:List Value}{x:Option Addr×Nat×Nat}(h:Ej w g us rest)(hj:us[j]? = some x):w.cell? ⟨g,j,none⟩=some (.slice x.1 x.2.1 x.2.2):=by
 have hl:j<us.length:=(List.getElem?_eq_some_iff.1 hj).1;unfold Ej at h;have:(us.map sv++rest)[j]? = some (sv x):=by rw[List.getElem?_append_left (by simpa using hl),List.getElem?_map,hj];rfl
 simp[World.cell?,h,this,sv]
theorem Ej.free {w:World}{g:Nat}{us:List (Option Addr×Nat×Nat)}{rest:List Value}(h:Ej w g us rest)(j:Nat):w.frozen? ⟨g,j,none⟩=false:=by
 unfold Ej at h;simp[World.frozen?,h]
theorem Ej.set {w:World}{g:Nat}{us:List (Option Addr×Nat×Nat)}{rest:List Value}(h:Ej w g us rest){j:Nat}(hj:j<us.length)(x:Option Addr×Nat×Nat):Ej (w.setCell ⟨g,j,none⟩ (.slice x.1 x.2.1 x.2.2)) g (us.set j x) rest:=by
 unfold Ej at *;have e:(us.set j x).map sv++rest=(us.map sv++rest).set j (sv x):=by
  rw[List.map_set,List.set_append_left _ _ (by simpa using hj)]
 rw[e];simp[World.setCell,Array.getElem?_modify,h,sv]
theorem eY {w:World}{e j A B:Nat}{us:List (Option Addr×Nat×Nat)}{Ms:List Nat}{xa xb:Option Addr×Nat×Nat}(h:Ea w e us Ms)(ha:us[j+1]? = some xa)(hb:us[j]? = some xb)(hA:Ms[j+1]? = some A)(hB:Ms[j]? = some B) :
  Ea w e ((us.set (j+1) xb).set j xa) ((Ms.set (j+1) B).set j A):=by
 refine⟨by simp[h.len],fun i N hN=>?_⟩;obtain⟨l1,_⟩:=List.getElem?_eq_some_iff.1 ha;obtain⟨m1,_⟩:=List.getElem?_eq_some_iff.1 hA
 by_cases e1:i=j
 .subst e1;rw[List.getElem?_set_self (by simp;omega)]at hN;cases hN
  obtain⟨x,k1,k2⟩:=h.at_ _ _ hA
  rw[ha]at k1;cases k1
  exact⟨xa,by rw[List.getElem?_set_self (by simp;omega)],k2⟩
 .rw[List.getElem?_set_ne (by omega)]at hN
  rw[List.getElem?_set_ne (by omega)]
  by_cases e2:i=j+1
  .subst e2;rw[List.getElem?_set_self m1]at hN;cases hN
   obtain⟨x,k1,k2⟩:=h.at_ _ _ hB
   rw[hb]at k1;cases k1
   exact⟨xb,by rw[List.getElem?_set_self l1],k2⟩
  .rw[List.getElem?_set_ne (by omega)]at hN
   rw[List.getElem?_set_ne (by omega)];exact h.at_ i N hN
structure Im (w0:World) (e g:Nat) (rest:List Value) (Ns:List Nat) (us:List (Option Addr×Nat×Nat)) (Ms:List Nat) (w:World):Prop where
 row:Ej w g us rest
 trip:Ea w0 e us Ms
 perm:Ms.Perm Ns
 bel:Below w0.heap.size w0 w
 own:w0.heap.size<=g
theorem Im.later {w0 w w':World}{e g:Nat}{rest:List Value}{Ns Ms:List Nat}{us:List (Option Addr×Nat×Nat)}(h:Im w0 e g rest Ns us Ms w)(hb:Below w.heap.size w w'):Im w0 e g rest Ns us Ms w' :=
 ⟨h.row.below hb h.row.lt,h.trip,h.perm,Ae h.bel hb,h.own⟩
theorem Im.len {w0 w:World}{e g:Nat}{rest:List Value}{Ns Ms:List Nat}{us:List (Option Addr×Nat×Nat)}(h:Im w0 e g rest Ns us Ms w):us.length=Ns.length:=h.trip.len.trans h.perm.length_eq
theorem Im.swap {w0 w:World}{e g j A B:Nat}{rest:List Value}{Ns Ms:List Nat}{us:List (Option Addr×Nat×Nat)}{xa xb:Option Addr×Nat×Nat}(h:Im w0 e g rest Ns us Ms w)(ha:us[j+1]? = some xa)(hb:us[j]? = some xb)(hA:Ms[j+1]? = some A)(hB:Ms[j]? = some B){w':World}(hw:w'=(w.setCell ⟨g,j+1,none⟩ (.slice xb.1 xb.2.1 xb.2.2)).setCell ⟨g,j,none⟩ (.slice xa.1 xa.2.1 xa.2.2)):Im w0 e g rest Ns ((us.set (j+1) xb).set j xa) ((Ms.set (j+1) B).set j A) w':=by
 have l1:=(List.getElem?_eq_some_iff.1 ha).1;subst hw;exact⟨(h.row.set l1 xb).set (by simp;omega) xa,eY h.trip ha hb hA hB,(Ud hA hB).trans h.perm,(h.bel.setCell h.own _).setCell h.own _,h.own⟩
theorem lM {N M:Nat}:Bk N M<0 ↔ N<M:=by
 unfold Bk;split
 .omega
 .split<;>omega
theorem gI {w0 w:World}{e g n cap:Nat}{rest:List Value}{Ns Ms0:List Nat}{us0:List (Option Addr×Nat×Nat)}(h:Im w0 e g rest Ns us0 Ms0 w)(hn:Ns.length=n)(hn2:n<=1000000)(he:e<=900000) :
  Calls Tryz.prog 254 #[.slice (some ⟨g,0,none⟩) n cap,.int .i64 0,.int .i64 n,.func (.func 24) #[] #[]] w fun en w'=>(∃v,en=.returned v)/\∃us Ms,Im w0 e g rest Ns us Ms w'/\iW n Ms:=by
 have HS0:=Ab h;have HN:=Ab hn;clear h hn;go_enter Tryz.func254,Tryz.ntmps254;go_wp2
 go_loopw [8,9] (fun iv _ wr=>∃(i:Nat) (us:List (Option Addr×Nat×Nat)) (Ms:List Nat),iv=.int .i64 i/\(i<=n ∨ i=1)/\Aa (Im w0 e g rest Ns us Ms wr)/\Aa (iW i Ms)) (fun iv _ _=>n-(intOf iv).toNat)
 case atStart=>exact⟨1,us0,Ms0,rfl,.inr rfl,HS0,⟨fun p r a b h1 h2=>by omega⟩⟩
 case round=>
  obtain⟨i,us,Ms,rfl,hi,HSo,HSr⟩:=hrel
  by_cases hin:i<n
  .have hin':(i:Int)<n:=by omega
   clear hi;have HI0:Aa (Ins i i Ms):=⟨HSr.out.ins⟩
   clear HSr;obtain⟨wo,hwo⟩:∃x,x=wr:=⟨_,rfl⟩
   subst hwo;go_wp2
   go_loopw [9] (fun jv wr=>∃(j:Nat) (us:List (Option Addr×Nat×Nat)) (Ms:List Nat),jv=.int .i64 j/\j<=i/\Aa (Im w0 e g rest Ns us Ms wr)/\Aa (Ins i j Ms)) (fun jv _=>(intOf jv).toNat)
   case atStart=>exact⟨i,us,Ms,rfl,Av _,HSo,HI0⟩
   case round=>
    clear HSo HI0;obtain⟨j',us,Ms,rfl,hj,HSO,HI⟩:=hrel;rcases Nat.eq_zero_or_pos j' with h0|h0
    .subst h0;go_wp2;refine Ak (by kernel_rfl) (by kernel_rfl)
      [some (.int .i64 0),some (.int .i64 0),some (.bool false),some (.bool false),some (undef),some (undef),some (undef),some (undef),some (undef),some (undef),some (undef),some (undef),some (undef),some (undef),some (undef),some (undef),some (.bool false)]
      [false,false,false,false,false,false,false,false,false,false,false,false,false,false,false,false,false] rfl
      (fun w1 w2=>Below w1.heap.size w1 w2)
      (fun _ w'=>Below wr.heap.size wr w')
      (fun i v w'=>match i with
       | _=>True)
      ?_ (Ba _ _).drew ?_ ?_
     .intro i v w1 w2 hf hb;split at hf
      .trivial
     .simp only[Be,Nat.reduceAdd];refine⟨?_,?_,?_,?_,?_,?_,?_,?_,?_,?_,?_,?_,?_,?_,?_,?_,?_,trivial⟩
      all_goals intro D sp w' hD hW hdp hbx'
      case refine_5|refine_6|refine_7|refine_8|refine_9|refine_10|refine_11|refine_12|refine_13|refine_14|refine_15|refine_16=>
       (with_reducible refine Ex ?_ ?_)
       ·(simp[Region.wanted,yielded,Act.put,go_sem]<;>exact fun h=>by cases h)
       .exact⟨rfl,rfl⟩
      all_goals ((with_reducible refine Ad ?_ ?_);all_goals first|(simp only[Region.wanted];done)|simp[Region.wanted,yielded,execOp,Act.eval,Act.put,go_sem])
     .intro sp w7 hsp hbx';have HS7:=Ab (HSO.out.later hbx');clear hsp hbx';simp only[Al]
      go_simp
      go_wp2;have HSR:=Ab (HI.out.done (.inl rfl) (by rw[HSO.out.perm.length_eq,HN.out];exact hin));go_roundw
      case rel=>exact⟨i+1,us,Ms,by go_num,by omega,HS7,HSR⟩
      case measure=>simp[intOf];omega
    .obtain⟨j,rfl⟩:∃j,j'=j+1:=⟨j'-1,by omega⟩
     clear h0;have hlen:us.length=n:=HSO.out.len.trans HN.out;obtain⟨xa,hxa⟩:∃x,us[j+1]? = some x:=⟨_,List.getElem?_eq_getElem (by omega)⟩
     obtain⟨xb,hxb⟩:∃x,us[j]? = some x:=⟨_,List.getElem?_eq_getElem (by omega)⟩
     obtain⟨A,hA,ha2,ha3⟩:=HSO.out.trip.get hxa;obtain⟨B,hB,hb2,hb3⟩:=HSO.out.trip.get hxb;have HXA:=Ab hxa;have HXB:=Ab hxb;have HA:=Ab hA;have HB:=Ab hB;have HFA:Aa (Fit e A (.agg #[.slice xa.1 xa.2.1 xa.2.2]) wr):=⟨(Fit.of ha2 ha3).below HSO.out.bel⟩
     have HFB:Aa (Fit e B (.agg #[.slice xb.1 xb.2.1 xb.2.2]) wr):=⟨(Fit.of hb2 hb3).below HSO.out.bel⟩
     obtain⟨K,hKe⟩:∃K,Bk A B=K:=⟨_,rfl⟩
     have HK:=Ab hKe;have HKN:Aa (K<0 ↔ A<B):=⟨by rw[<-hKe];exact lM⟩
     have hj0:(0:Int)<((j+1:Nat):Int):=by omega
     have hn1:¬(n:Int)<=(j:Int)+1:=by omega
     have hj9:(0:Int)<=(j:Int)+1:=by omega
     have hwj:IntKind.i64.wrap (j:Int)=(j:Nat):=by rw[IntKind.wrap_i64];omega
     have hn2:¬n<=j:=by omega
     clear hxa hxb hA hB ha2 ha3 hb2 hb3 hKe hlen
     by_cases hK:K<0
     .go_wp2;refine Ak (by kernel_rfl) (by kernel_rfl)
       [some (.int .i64 ((j+1:Nat):Int)),some (.int .i64 0),some (.bool true),some (.bool true),some (.func (.func 24) #[] #[]),some (.slice (some ⟨g,0,none⟩) n cap),some (.int .i64 ((j+1:Nat):Int)),some (.pointer (some ⟨g,j+1,none⟩)),some (.agg #[.slice xa.1 xa.2.1 xa.2.2]),some (.slice (some ⟨g,0,none⟩) n cap),some (.int .i64 ((j+1:Nat):Int)),some (.int .i64 (j:Nat)),some (.pointer (some ⟨g,j,none⟩)),some (.agg #[.slice xb.1 xb.2.1 xb.2.2]),none,some (.bool true),some (.bool true)]
       [false,false,false,false,false,false,false,false,false,false,false,false,false,false,true,false,false] rfl
       (fun w1 w2=>Below w1.heap.size w1 w2)
       (fun _ w'=>Below wr.heap.size wr w')
       (fun i v w'=>match i with
        | 14=>v=.int .i64 K
        | _=>True)
       ?_ (Ba _ _).drew ?_ ?_
      .intro i v w1 w2 hf hb;split at hf
       .exact hf
       .trivial
      .simp only[Be,Nat.reduceAdd];refine⟨?_,?_,?_,?_,?_,?_,?_,?_,?_,?_,?_,?_,?_,?_,?_,?_,?_,trivial⟩
       all_goals intro D sp w' hD hW hdp hbx'
       case refine_8=>
        (with_reducible refine Ai (w1:=w') (v:=.pointer (some ⟨g,j+1,none⟩)) ?_ ?_ ?_)
        .simp[Region.wanted,yielded,Act.put,go_sem]
        .simp[execOp,Act.eval,Act.put,go_sem,hn1,hj9]
        .exact⟨rfl,rfl⟩
       case refine_9=>
        have c0:=(HSO.out.row.below hbx' HSO.out.row.lt).cell HXA.out
        with_reducible refine Ad ?_ ?_
        all_goals simp[Region.wanted,yielded,execOp,Act.eval,Act.put,go_sem,c0]
       case refine_12=>
        (with_reducible refine Ai (w1:=w') (v:=.int .i64 (j:Nat)) ?_ ?_ ?_)
        .simp[Region.wanted,yielded,Act.put,go_sem]
        .simp[execOp,Act.eval,Act.put,go_sem,hwj]
        .exact⟨rfl,rfl⟩
       case refine_13=>
        (with_reducible refine Ai (w1:=w') (v:=.pointer (some ⟨g,j,none⟩)) ?_ ?_ ?_)
        .simp[Region.wanted,yielded,Act.put,go_sem]
        .simp[execOp,Act.eval,Act.put,go_sem,hn2]
        .exact⟨rfl,rfl⟩
       case refine_14=>
        have c0:=(HSO.out.row.below hbx' HSO.out.row.lt).cell HXB.out
        with_reducible refine Ad ?_ ?_
        all_goals simp[Region.wanted,yielded,execOp,Act.eval,Act.put,go_sem,c0]
       case refine_15=>
        (with_reducible refine Ac (w1:=w') (f := 24) (args:=#[.agg #[.slice xa.1 xa.2.1 xa.2.2],.agg #[.slice xb.1 xb.2.1 xb.2.2]]) ?_ ?_ ?_)
        .simp[Region.wanted,yielded,Act.put,go_sem]
        .simp[Act.eval,Act.put,go_sem]
        .refine(Ho (HFA.out.below hbx') (HFB.out.below hbx') he he).mono ?_;rintro en w9 ⟨_,rfl,rfl,hb⟩;rw[HK.out];exact⟨_,rfl,hb,rfl,Ae hbx' hb⟩
       case refine_16=>
        have k14:(sp 14)=.int .i64 K:=(hdp 14 (mq (by kernel_rfl))).2
        with_reducible refine Ad ?_ ?_
        all_goals simp[Region.wanted,yielded,execOp,Act.eval,Act.put,go_sem,k14,hK]
       all_goals ((with_reducible refine Ad ?_ ?_);all_goals first|(simp only[Region.wanted];done)|simp[Region.wanted,yielded,execOp,Act.eval,Act.put,go_sem])
      .intro sp w7 hsp hbx';have HS7:=Ab (HSO.out.later hbx');clear hsp hbx';simp only[Al,Nat.reduceAdd];generalize sp 14=y14 at *
       go_simp
       have c1:=HS7.out.row.cell HXA.out;have c2:=HS7.out.row.cell HXB.out;have f1:=HS7.out.row.free (j+1);have f2:=HS7.out.row.free j;have HS8:Aa (Im w0 e g rest Ns ((us.set (j+1) xb).set j xa) ((Ms.set (j+1) B).set j A) ((w7.setCell ⟨g,j+1,none⟩ (.slice xb.1 xb.2.1 xb.2.2)).setCell ⟨g,j,none⟩ (.slice xa.1 xa.2.1 xa.2.2)).drew):=⟨(HS7.out.swap HXA.out HXB.out HA.out HB.out rfl).later ((Ba _ _).drew)⟩
       have HI8:=Ab (HI.out.swap HA.out HB.out (HKN.out.1 hK));go_wp2
       go_region
       clear c1 c2 f1 f2;go_wp2;go_roundw
       case rel=>exact⟨j,_,_,by go_num,by omega,HS8,HI8⟩
       case measure=>simp[intOf]
     .go_wp2;refine Ak (by kernel_rfl) (by kernel_rfl)
       [some (.int .i64 ((j+1:Nat):Int)),some (.int .i64 0),some (.bool true),some (.bool true),some (.func (.func 24) #[] #[]),some (.slice (some ⟨g,0,none⟩) n cap),some (.int .i64 ((j+1:Nat):Int)),some (.pointer (some ⟨g,j+1,none⟩)),some (.agg #[.slice xa.1 xa.2.1 xa.2.2]),some (.slice (some ⟨g,0,none⟩) n cap),some (.int .i64 ((j+1:Nat):Int)),some (.int .i64 (j:Nat)),some (.pointer (some ⟨g,j,none⟩)),some (.agg #[.slice xb.1 xb.2.1 xb.2.2]),none,some (.bool false),some (.bool false)]
       [false,false,false,false,false,false,false,false,false,false,false,false,false,false,true,false,false] rfl
       (fun w1 w2=>Below w1.heap.size w1 w2)
       (fun _ w'=>Below wr.heap.size wr w')
       (fun i v w'=>match i with
        | 14=>v=.int .i64 K
        | _=>True)
       ?_ (Ba _ _).drew ?_ ?_
      .intro i v w1 w2 hf hb;split at hf
       .exact hf
       .trivial
      .simp only[Be,Nat.reduceAdd];refine⟨?_,?_,?_,?_,?_,?_,?_,?_,?_,?_,?_,?_,?_,?_,?_,?_,?_,trivial⟩
       all_goals intro D sp w' hD hW hdp hbx'
       case refine_8=>
        (with_reducible refine Ai (w1:=w') (v:=.pointer (some ⟨g,j+1,none⟩)) ?_ ?_ ?_)
        .simp[Region.wanted,yielded,Act.put,go_sem]
        .simp[execOp,Act.eval,Act.put,go_sem,hn1,hj9]
        .exact⟨rfl,rfl⟩
       case refine_9=>
        have c0:=(HSO.out.row.below hbx' HSO.out.row.lt).cell HXA.out
        with_reducible refine Ad ?_ ?_
        all_goals simp[Region.wanted,yielded,execOp,Act.eval,Act.put,go_sem,c0]
       case refine_12=>
        (with_reducible refine Ai (w1:=w') (v:=.int .i64 (j:Nat)) ?_ ?_ ?_)
        .simp[Region.wanted,yielded,Act.put,go_sem]
        .simp[execOp,Act.eval,Act.put,go_sem,hwj]
        .exact⟨rfl,rfl⟩
       case refine_13=>
        (with_reducible refine Ai (w1:=w') (v:=.pointer (some ⟨g,j,none⟩)) ?_ ?_ ?_)
        .simp[Region.wanted,yielded,Act.put,go_sem]
        .simp[execOp,Act.eval,Act.put,go_sem,hn2]
        .exact⟨rfl,rfl⟩
       case refine_14=>
        have c0:=(HSO.out.row.below hbx' HSO.out.row.lt).cell HXB.out
        with_reducible refine Ad ?_ ?_
        all_goals simp[Region.wanted,yielded,execOp,Act.eval,Act.put,go_sem,c0]
       case refine_15=>
        (with_reducible refine Ac (w1:=w') (f := 24) (args:=#[.agg #[.slice xa.1 xa.2.1 xa.2.2],.agg #[.slice xb.1 xb.2.1 xb.2.2]]) ?_ ?_ ?_)
        .simp[Region.wanted,yielded,Act.put,go_sem]
        .simp[Act.eval,Act.put,go_sem]
        .refine(Ho (HFA.out.below hbx') (HFB.out.below hbx') he he).mono ?_;rintro en w9 ⟨_,rfl,rfl,hb⟩;rw[HK.out];exact⟨_,rfl,hb,rfl,Ae hbx' hb⟩
       case refine_16=>
        have k14:(sp 14)=.int .i64 K:=(hdp 14 (mq (by kernel_rfl))).2
        with_reducible refine Ad ?_ ?_
        all_goals simp[Region.wanted,yielded,execOp,Act.eval,Act.put,go_sem,k14,hK]
       all_goals ((with_reducible refine Ad ?_ ?_);all_goals first|(simp only[Region.wanted];done)|simp[Region.wanted,yielded,execOp,Act.eval,Act.put,go_sem])
      .intro sp w7 hsp hbx';have HS7:=Ab (HSO.out.later hbx');clear hsp hbx';simp only[Al,Nat.reduceAdd];generalize sp 14=y14 at *
       go_simp
       go_wp2;have HSR:Aa _:=⟨HI.out.done (.inr fun a b hb ha=>by
        have e1:=HA.out;have e2:=HB.out;rw[ha]at e1;cases e1
        have hb9:Ms[j]? = some b:=hb;rw[hb9]at e2;cases e2
        have:=HKN.out;omega) (by rw[HSO.out.perm.length_eq,HN.out];exact hin)⟩
       go_roundw
       case rel=>exact⟨i+1,us,Ms,by go_num,by omega,HS7,HSR⟩
       case measure=>simp[intOf];omega
  .have hin':¬(i:Int)<n:=by omega
   have HSR:Aa (iW n Ms):=⟨fun p r a b h1 h2=>HSr.out p r a b h1 (by omega)⟩
   go_wp2
   go_end0
   exact⟨⟨_,rfl⟩,us,Ms,HSo.out,HSR.out⟩
end Go.Proofs.YtokhckjemidbpaaGreatDoor
