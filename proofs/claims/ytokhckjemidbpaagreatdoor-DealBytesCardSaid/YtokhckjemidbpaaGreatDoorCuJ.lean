/- slices.Backward of numbers; a value, from the last coefficient down (curve.valueAt). -/
import Derived.RangeFuncNested
import Derived.RangeFuncBound
import Derived.RangeFuncCalls
import Derived.RangeFuncLeaves
import Derived.Test.YtokhckjemidbpaaGreatDoorSgA
import Derived.OwnWalkIn
import Derived.TacticsInMore
import Derived.LoopNIn
import Derived.LoopIn
import Derived.BigRegion
import Derived.Deep.LoopGhost
set_option maxRecDepth 1000000
set_option maxHeartbeats 16000000
set_option linter.all false
namespace Go.Proofs.YtokhckjemidbpaaGreatDoor
open Go Go.RowKit
structure Mid (p:Nat->Prop) (W W':World):Prop where
 os:W'.os=W.os
 tape:W'.tape=W.tape
 output:W'.output=W.output
 size:W.heap.size<=W'.heap.size
 block:∀k,k<W.heap.size->p k->W'.heap[k]? = W.heap[k]?
theorem Mid.trans {p:Nat->Prop}{A B C:World}(h:Mid p A B)(k:Mid p B C):Mid p A C :=
 ⟨k.os.trans h.os,k.tape.trans h.tape,k.output.trans h.output,Eo h.size k.size,fun i hi hp=>(k.block i (Dk hi h.size) hp).trans (h.block i hi hp)⟩
theorem Mid.of {p:Nat->Prop}{W W':World}(h:Below W.heap.size W W'):Mid p W W':=⟨h.os,h.tape,h.output,h.size,fun k hk _=>h.block k hk⟩
theorem Mid.putObj {p:Nat->Prop}(W:World)(l:Nat)(o:Obj)(h:¬p l):Mid p W (W.putObj l o) :=
 let g:=grownBy_putObj' W l o
 ⟨g.os,g.tape,g.output,g.size,fun k hk hp=>g.block k hk (fun e=>by cases e;exact h hp)⟩
theorem Mid.below {p:Nat->Prop}{W W':World}(h:Mid p W W'){B:Nat}(hB:B<=W.heap.size)(hp:∀k,k<B->p k):Below B W W' :=
 ⟨h.os,h.tape,h.output,h.size,fun k hk=>h.block k (Dk hk hB) (hp k hk)⟩
theorem Mid.cell {p:Nat->Prop}{W W':World}(h:Mid p W W'){a:Addr}{u:Value}(hp:p a.block)(hc:W.cell? a=some u):W'.cell? a=some u:=by
 have hlt:a.block<W.heap.size:=by
  unfold World.cell? at hc;rcases Nat.lt_or_ge a.block W.heap.size with h1|h1
  .exact h1
  .simp[Array.getElem?_eq_none h1]at hc
 rw[World.cell?_of_block (w:=W) (h.block _ hlt hp)];exact hc
theorem Sb {β:Type}{B B':Nat}{I:β->World->Prop}(h:OwnFrom B I)(hB:B<=B'):OwnFrom B' I :=
 fun s W W' row hs hg hr=>h s W W' row hs hg (fun r e=>⟨Eo hB (hr r e).1,(hr r e).2⟩)
variable {F:Fence} {n:Nat} {P:Program}
def dR (F:Fence)(n:Nat)(P:Program)(g:Nat)(lb:Array Value)(B l N:Nat)(Kp:World->World->Prop)(Gd:Nat->Array Value->World->Prop)(W:World):Prop :=
 ∀J:Nat->World->Prop,OwnFrom B J ->
  (∀k v W1,k<N->J k W1->Gd k v W1->YieldAt F (n-1) P l v W1 fun e W'=>e=.returned (.bool true)/\J (k+1) W'/\Kp W1 W')->J 0 W ->
  CallsIn F n P g (#[.func (.yield l) #[] #[]]++lb) W fun e W'=>(∃v,e=.returned v)/\J N W'
variable {F:Fence} {n:Nat} {P:Program}
theorem In {g:Operand}{ts:Array Tmp}{assign body:Code}{Q:Exit->Act->World->Prop}{a:Act}{w:World}(hro:F.round=none)(h1:1<=n){gf:Nat}{lb:Array Value}(hg:a.eval g=.func (.func gf) #[] lb)(hFg:F.fn gf)(eg:∀args w,(callFunc gf args).run P w=.ok (.enter gf args) w){N:Nat}{Kp:World->World->Prop}{Gd:Nat->Array Value->World->Prop}(hGd:∀k vs W,Gd k vs W->vs.size=ts.size)(hseq:∀W,W.heap.size=w.heap.size+2->Below w.heap.size w W->dR F (n-1) P gf lb (w.heap.size+2) (w.heap.size+1) N Kp Gd W)(hKt:∀ {A B C:World},Kp A B->Kp B C->Kp A C)(hKb:∀W o,Kp W (W.putObj (w.heap.size+1) o))(I:Nat->World->Prop)(hI:OwnFrom w.heap.size I)(h0:I 0 w)(Ax:Nat->Act->World->Prop)(hAx:∀k a',OwnFrom w.heap.size (fun(_:Unit) W=>Ax k a' W))(hassign:∀(l k:Nat) (v:Array Value) (W:World) (K:Act->World->Prop),k<N->I k W->Gd k v W->(∀a' W',KeepsFrom w.heap.size W W'->Kp W W'->Ax k a' W'->K a' W') ->
   assign.wpIn (F.inRound l) (n-1-1) P (Exit.then K (fun _ _ _=>False)) { tmps:=(ts.zip v).foldl (fun t (p,v)=>t.setIfInBounds p v) a.tmps,defers:=[] } W)(hbody:∀(l k:Nat) (a':Act) (W:World),k<N->Ax k a' W->body.wpIn (F.inRound l) (n-1-1) P (fun e _ W'=>e=.normal/\KeepsFrom w.heap.size W W'/\Kp W W'/\I (k+1) W') a' W)(hdone:∀(D:Nat) (W:World),w.heap.size<=D->I N W->W.heap[D]? = some (.deferred (some []))->Q .normal { a with defers:={ target:=.collected D,args:=#[] }::a.defers } W) :
  (Code.rangeFunc g ts assign body).wpIn F n P Q a w:=by
 refine wpIn_rangeFunc fun fn hfn=>?_
 rw[hro]
 -- the record, as it stands and as it is in a round
 let st (s:LoopState):Obj:=.loop { state:=s,pending:=none,fn,tmps:=a.tmps,params:=ts,assign,body,defers:=w.heap.size }
 let W1:World:=(w.alloc (.deferred (some []))).alloc (st .ready)
 have hs1:W1.heap.size=w.heap.size+2:=by simp[W1]
 have hr1:W1.heap[w.heap.size+1]? = some (st .ready):=by
  have:=World.alloc_heap_new (w.alloc (.deferred (some []))) (st .ready);rwa [World.size_alloc]at this
 have hd1:W1.heap[w.heap.size]? = some (.deferred (some [])):=(Below.heap_alloc _ _ _ (by simp)).trans (World.alloc_heap_new w _);have hb1:Below w.heap.size w W1:=((Bd _ w).alloc (Av _) _).alloc (by simp) _;have hI1:I 0 W1:=hI.alloc _ (hI.alloc _ h0);refine⟨w.heap.size+1,[{ target:=.collected w.heap.size,args:=#[] }],W1,{ target:=.fn (.func gf) lb,args:=#[.func (.yield (w.heap.size+1)) #[] #[]] },W1,gf,
  #[.func (.yield (w.heap.size+1)) #[] #[]]++lb,W1,run_enterLoop_outer _ _ _ _ _,?_,?_,?_,fun _=>h1,?_⟩
 .simp only[resolve,hg];simp[go_sem]
 .intro f' hf';simp[Target.leads]at hf';subst hf';exact hFg
 .simp[invoke,go_sem,eg]
 -- what holds between two rounds
 let J:Nat->World->Prop:=fun k W=>I k W/\W.heap[w.heap.size+1]? = some (st .ready)/\W.heap[w.heap.size]? = some (.deferred (some []))
 have hJ:OwnFrom (w.heap.size+2) J:=fun k A B row hs hgr hr=>by
  have far:∀j,j<w.heap.size+2->some j≠row:=fun j hj e=>by have:=(hr j e.symm).1;omega
  refine⟨Sb hI (by omega) k A B row hs.1 hgr hr,?_,?_⟩
  .exact(hgr.block _ (Ik hs.2.1).1 (far _ (by omega))).trans hs.2.1
  .exact(hgr.block _ (Ik hs.2.2).1 (far _ (by omega))).trans hs.2.2
 refine(hseq W1 hs1 hb1 J hJ ?_ ⟨hI1,hr1,hd1⟩).mono ?_
 ·-- one round
  rintro k v W hkN ⟨hi,hl,hd⟩ hgd;have hy:=run_yield (P:=P) (args:=v) hl (hGd k v W hgd);refine⟨fn,_,assign,body,hy,roundIn_of_wpIn hfn ?_⟩;refine hassign _ k v W _ hkN hi hgd ?_;intro a' Wa hka hkpa hax;have hla:=hka.same _ _ (by omega) hl rfl;have hda:=hka.same _ _ (Av _) hd rfl;have hlt:=(Ik hla).1;refine⟨_,run_beginRound hla rfl,?_⟩
  let Wb:World:=Wa.putObj (w.heap.size+1) (st .busy)
  have hlb:Wb.heap[w.heap.size+1]? = some (st .busy):=World.putObj_heap_same hlt;have hdb:Wb.heap[w.heap.size]? = some (.deferred (some [])):=(World.putObj_heap_other (by omega)).trans hda;refine wpIn_mono (hbody _ k a' Wb hkN ((hAx k a').putObj (s:=()) _ hax (by omega) hla rfl)) ?_;rintro e a3 W3 ⟨rfl,hk3,hp3,hi3⟩;have hl3:=hk3.same _ _ (by omega) hlb rfl;have hd3:=hk3.same _ _ (Av _) hdb rfl;have hlt3:=(Ik hl3).1;refine⟨_,_,run_endRound (P:=P) none hl3,rfl,⟨hI.putObj _ hi3 (by omega) hl3 rfl,World.putObj_heap_same hlt3,(World.putObj_heap_other (by omega)).trans hd3⟩,?_⟩;exact hKt hkpa (hKt (hKb Wa _) (hKt hp3 (hKb W3 _)))
 ·-- behind the iterator
  rintro e W2 ⟨⟨v,rfl⟩,hi,hl,hd⟩;exact⟨none,_,run_endLoop (P:=P) hl (by simp),hdone _ _ (Av _) (hI.putObj _ hi (by omega) hl rfl) ((World.putObj_heap_other (by omega)).trans hd)⟩
open Go Go.RowKit Go.Proofs.YtokhckjemidbpaaGreatDoor.Flow
section
variable {W W':World} {row:Option Nat}
def Calm (W:World)(row:Option Nat):Prop:=∀r,row=some r->∃o:Obj,W.heap[r]? = some o/\o.isCells=false
theorem Dx (hg:W.grownBy W' row)(hr:Calm W row){b:Nat}{cs:Array Value}{t:TypeId}{m:Nat×Nat}(h:W.heap[b]? = some (.cells cs t m)):W'.heap[b]? = some (.cells cs t m):=by
 rw[hg.block b (Ik h).1 (fun e=>by
  obtain⟨o,ho,hc⟩:=hr b e.symm;rw[h]at ho;cases ho;cases hc)]
 exact h
theorem Row.kept {k:IntKind}{p:Option Addr}{n c:Nat}{xs:List Nat}(h:Row W k p n c xs)(hg:W.grownBy W' row)(hr:Calm W row):Row W' k p n c xs:=by
 refine⟨h.len,h.cap,h.max,?_⟩;rcases h.at_ with h1|⟨b,off,h1,h2,h3⟩
 .exact .inl h1
 .exact .inr ⟨b,off,h1,Dk h2 hg.size,fun i x hx=>cell_kept (h3 i x hx) hg hr⟩
theorem Ah.kept {p:Option Addr}{n c N:Nat}(h:Ah W p n c N)(hg:W.grownBy W' row)(hr:Calm W row):Ah W' p n c N:=by
 obtain⟨ws,r1,r2,r3,r4⟩:=h.ex;exact⟨ws,r1.kept hg hr,r2,r3,r4⟩
theorem Fit.kept {e N:Nat}{v:Value}(h:Fit e N v W)(hg:W.grownBy W' row)(hr:Calm W row):Fit e N v W' :=
 let ⟨p,n,c,h1,h2,h3⟩:=h
 ⟨p,n,c,h1,h2.kept hg hr,h3⟩
end
attribute [local go_sem] Oper.semAt_some
structure Ic (w:World) (e:Nat) (us:List (Option Addr×Nat×Nat)) (Ns:List Nat):Prop where
 len:us.length=Ns.length
 at_:∀(i N:Nat),Ns[i]? = some N->∃x,us[i]? = some x/\Br w x N/\N<Al e
theorem Ic.below {w w':World}{e:Nat}{us:List (Option Addr×Nat×Nat)}{Ns:List Nat}(h:Ic w e us Ns)(hb:Below w.heap.size w w'):Ic w' e us Ns :=
 ⟨h.len,fun i N hN=>let ⟨x,h1,h2,h3⟩:=h.at_ i N hN;⟨x,h1,h2.below hb,h3⟩⟩
theorem Ic.get {w:World}{e i:Nat}{us:List (Option Addr×Nat×Nat)}{Ns:List Nat}{x:Option Addr×Nat×Nat}(h:Ic w e us Ns)(hx:us[i]? = some x):∃N,Ns[i]? = some N/\Br w x N/\N<Al e:=by
 have hi:i<Ns.length:=by rw[<-h.len];exact(List.getElem?_eq_some_iff.1 hx).1
 obtain⟨y,h1,h2⟩:=h.at_ i _ (List.getElem?_eq_getElem hi)
 rw[hx]at h1;cases h1
 exact⟨_,List.getElem?_eq_getElem hi,h2⟩
structure fR (w:World) (p:Option Addr) (n c b off:Nat) (us:List (Option Addr×Nat×Nat)):Prop where
 len:us.length=n
 cap:n<=c
 max:c<=9223372036854775807
 ptr:0<n->p=some ⟨b,off,none⟩/\b<w.heap.size
 cell:∀(i:Nat) (x:Option Addr×Nat×Nat),us[i]? = some x->w.cell? ⟨b,off+i,none⟩=some (sv x)
theorem Ud {w:World}{e:Nat}{p:Option Addr}{n c:Nat}{Ns:List Nat}(h:Ba w e p n c Ns):∃us b off,Ic w e us Ns/\fR w p n c b off us:=by
 rcases Nat.eq_zero_or_pos n with h0|h0
 .have hN:Ns=[]:=List.eq_nil_of_length_eq_zero (by rw[<-h.len];exact h0);subst hN;exact⟨[],0,0,⟨rfl,fun i N hN=>by simp at hN⟩,⟨h0.symm,h.cap,h.max,fun h1=>by omega,fun i x hx=>by simp at hx⟩⟩
 .obtain⟨b,off,h1,h2,h3⟩:=h.at_ h0
  have hex:∀i:Nat,∃x:Option Addr×Nat×Nat,∀N,Ns[i]? = some N->w.cell? ⟨b,off+i,none⟩=some (sv x)/\Br w x N/\N<Al e:=fun i=>by
   cases hi:Ns[i]? with
   | none=>exact⟨(none,0,0),fun N hN=>by cases hN⟩
   | some N=>
    obtain⟨q,m,d,k1,k2,k3⟩:=h3 i N hi;exact⟨(q,m,d),fun M hM=>by cases hM;exact⟨k1,k2,k3⟩⟩
  let f:Nat->Option Addr×Nat×Nat:=fun i=>Classical.choose (hex i)
  have hf:∀(i N:Nat),Ns[i]? = some N->w.cell? ⟨b,off+i,none⟩=some (sv (f i))/\Br w (f i) N/\N<Al e:=fun i=>Classical.choose_spec (hex i)
  have hg:∀(i:Nat) (x:Option Addr×Nat×Nat),((List.range Ns.length).map f)[i]? = some x->i<Ns.length/\x=f i:=fun i x hx=>by
   rw[List.getElem?_map]at hx
   rcases Nat.lt_or_ge i Ns.length with hi|hi
   .rw[List.getElem?_range hi]at hx
    simp at hx;exact⟨hi,hx.symm⟩
   .rw[List.getElem?_eq_none (by simpa using hi)]at hx
    simp at hx
  refine⟨(List.range Ns.length).map f,b,off,⟨by simp,fun i N hN=>?_⟩,⟨by rw[List.length_map,List.length_range];exact h.len.symm,h.cap,h.max,fun _=>⟨h1,h2⟩,fun i x hx=>?_⟩⟩
  .have hi:i<Ns.length:=(List.getElem?_eq_some_iff.1 hN).1;exact⟨f i,by rw[List.getElem?_map,List.getElem?_range hi];rfl,(hf i N hN).2⟩
  .obtain⟨hi,rfl⟩:=hg i x hx;exact(hf i _ (List.getElem?_eq_getElem hi)).1
def Iq (w:World)(g:Nat)(us:List (Option Addr×Nat×Nat))(rest:List Value):Prop:=w.heap[g]? = some (.cells (us.map sv++rest).toArray 37 (0,0))
theorem Iq.lt {w:World}{g:Nat}{us:List (Option Addr×Nat×Nat)}{rest:List Value}(h:Iq w g us rest):g<w.heap.size:=(Ik h).1
theorem Iq.cell {w:World}{g j:Nat}{us:List (Option Addr×Nat×Nat)}{rest:List Value}{x:Option Addr×Nat×Nat}(h:Iq w g us rest)(hj:us[j]? = some x):w.cell? ⟨g,j,none⟩=some (.slice x.1 x.2.1 x.2.2):=by
 have hl:j<us.length:=(List.getElem?_eq_some_iff.1 hj).1;unfold Iq at h;have:(us.map sv++rest)[j]? = some (sv x):=by rw[List.getElem?_append_left (by simpa using hl),List.getElem?_map,hj];rfl
 simp[World.cell?,h,this,sv]
theorem Oh.below {w w':World}{b N:Nat}(h:Oh w b N)(hb:Below w.heap.size w w'):Oh w' b N :=
 let ⟨p,n,c,h1,h2⟩:=h
 ⟨p,n,c,h1.below hb h1.lt,h2.below hb⟩
structure iM (g:Nat) (pr:Value) (w:World) (h:Nat->Nat->Nat):Prop where
 out:∀(W:World) (e1 e2 A B:Nat) (u v:Value),Below w.heap.size w W->e1<=200->e2<=200->Fit e1 A u W->Fit e2 B v W->Calls Tryz.prog g #[pr,u,v] W fun en w'=>∃x,en=.returned x/\Fit 33 (h A B) x w'/\Below W.heap.size W w'
theorem gB {w:World}{r q:Nat}(hR:Ring w r q 33):iM 32 (.pointer (some ⟨r,0,none⟩)) w (fun a b=>(a+b)%q) :=
 ⟨fun W e1 e2 A B u v hW h1 h2 hu hv=>Ow (hR.below hW) hu hv (by omega) (by omega)⟩
theorem gA {w:World}{r q:Nat}(hR:Ring w r q 33):iM 33 (.pointer (some ⟨r,0,none⟩)) w (fun a b=>a*b%q) :=
 ⟨fun W e1 e2 A B u v hW h1 h2 hu hv=>Fy (hR.below hW) hu hv (by omega) (by omega)⟩
attribute [local go_sem] Oper.semAt_some
theorem Pr (w:World)(p:Option Addr)(n c:Nat) :
  Calls Tryz.prog 207 #[.slice p n c] w fun e w'=>e=.returned (.func (.func 231) #[] #[.pointer (some ⟨w.heap.size,0,none⟩)]) /\
   w'=w.alloc (.cells #[.slice p n c] 62):=by
 go_enter Tryz.func207,Tryz.ntmps207;go_wp2;go_ret;exact⟨rfl,rfl⟩
theorem Nw (n B l b1 b off len cap:Nat)(p:Option Addr)(us:List (Option Addr×Nat×Nat))(w0 W:World)(hr:fR w0 p len cap b off us)(hlen:len<=1000000)(Kp:World->World->Prop)(hW:Below w0.heap.size w0 W)(hc1:W.cell? ⟨b1,0,none⟩=some (.slice p len cap))(hkp:∀A C,Kp A C->w0.heap.size<=A.heap.size->Below w0.heap.size A C/\∀u,A.cell? ⟨b1,0,none⟩=some u->C.cell? ⟨b1,0,none⟩=some u) :
  dR Fence.wide n Tryz.prog 231 #[.pointer (some ⟨b1,0,none⟩)] B l len Kp (fun k vs _=>∃x,us[len-1-k]? = some x/\vs=#[.int .i64 ((len-1-k:Nat):Int),.agg #[sv x]]) W:=by
 intro J hJ hY h0;have HJ:Aa (OwnFrom B J):=⟨hJ⟩
 have HY:=Ac hY;have HK:=Ac hkp;have HR:=Ac hr;have HJ0:=Ac h0;have HW:=Ac hW;have HC1:=Ac hc1;clear hJ hY hkp hr h0 hW;refine callsIn_of_wp Tryz.func231 rfl trivial ?_ rfl;simp only[Tryz.ntmps231,List.size_toArray,List.length_cons,List.length_nil,Nat.reduceAdd,Nat.reduceSub,Array.replicate_succ,Array.replicate_zero,List.push_toArray,List.append_toArray,List.nil_append,List.cons_append]
 gi_wp2
 clear hc1
 gi_loopw [3] (fun i wr=>∃(k:Nat) (z:Int),k<=len/\i=.int .i64 z/\z=(len:Int)-1-k/\Aa (J k wr)/\Aa (Below w0.heap.size w0 wr)/\Aa (wr.cell? ⟨b1,0,none⟩=some (.slice p len cap))) (fun i _=>(intOf i+1).toNat)
 case atStart=>exact⟨0,(len:Int)-1,by omega,by go_num,by omega,HJ0,HW,HC1⟩
 case round=>
  obtain⟨k,z,hk,rfl,hz,HJk,HB,HC⟩:=hrel
  by_cases hkn:k<len
  .obtain⟨m,hm⟩:∃m,len-1-k=m:=⟨_,rfl⟩
   obtain rfl:z=(m:Nat):=by omega
   obtain⟨x,hx⟩:∃x,us[m]? = some x:=⟨us[m]'(by rw[HR.out.len];omega),List.getElem?_eq_getElem _⟩
   obtain⟨rfl,hblt⟩:=HR.out.ptr (by omega);obtain⟨q,mm,d⟩:=x;have hc:wr.cell? ⟨b,off+m,none⟩=some (.slice q mm d):=(HB.out.cell (p:=⟨b,off+m,none⟩) hblt).trans (HR.out.cell m _ hx);have hge:(0:Int)<=(m:Nat):=by omega
   have hml:(m:Int)<len:=by omega
   have c1:=HC.out;have HM:=Ac hm;obtain⟨fn,tmps,assign,body,hy,hR⟩:=HY.out k #[.int .i64 (m:Nat),.agg #[.slice q mm d]] wr hkn HJk.out ⟨_,by rw[hm];exact hx,by rw[hm];rfl⟩;have HRn:=Ac hR;clear hx hblt hR hz hm
   gi_wp2_with fail
   refine⟨fun h=>by simp[Fence.wide]at h,HRn.out.mono ?_⟩;rintro e W3 ⟨rfl,hJ3,hk3⟩;have HJ3:=Ac hJ3;have h3:=HK.out _ _ hk3 HB.out.size;have HB3:=Ac (HB.out.trans h3.1);have HC3:=Ac (h3.2 _ HC.out);clear hJ3 hk3 hy hc h3 c1
   gi_wp2
   go_roundw
   case rel=>exact⟨k+1,(m:Int)-1,by omega,by go_num,by have:=HM.out;omega,HJ3,HB3,HC3⟩
   case measure=>simp[intOf]
  .have hkN:k=len:=by omega
   subst hkN;obtain rfl:z = -1:=by omega
   gi_wp2
   go_end0
   exact⟨⟨_,rfl⟩,HJk.out⟩
structure RB (b B:Nat) (wx:World) (l:List (Nat×Obj)) (w:World):Prop where
 keep:Ap B wx w
 base:B<=w.heap.size
 blk:∀x∈l,w.heap[x.1]? = some x.2
 but:Ee b wx w
theorem RB.start {b B:Nat}{wx:World}{l:List (Nat×Obj)}(hB:B<=wx.heap.size)(hl:∀x∈l,wx.heap[x.1]? = some x.2):RB b B wx l wx.drew:=⟨Ap.drew _ _,hB,hl,(Ee.refl _ _).drew⟩
theorem RB.later {b B:Nat}{wx:World}{l:List (Nat×Obj)}{w w':World}(h:RB b B wx l w)(hb:Below w.heap.size w w'):RB b B wx l w' :=
 ⟨h.keep.trans (Ap.of hb h.base),Eo h.base hb.size,fun x hx=>by rw[hb.block x.1 (Ik (h.blk x hx)).1];exact h.blk x hx,h.but.trans (Ee.of hb)⟩
theorem RB.store {B:Nat}{wx:World}{l:List (Nat×Obj)}{w:World}{b m d:Nat}{q:Option Addr}(h:RB b B wx l w)(hb:Ae w b (.slice q m d))(hB:B<=b)(hn:∀x∈l,x.1≠b)(v:Value):RB b B wx l (w.setCell ⟨b,0,none⟩ v) :=
 ⟨h.keep.trans (Ap.store hb hB v),by simpa using h.base,fun x hx=>by
  have:=hn x hx;simp[World.setCell,Array.getElem?_modify,this.symm];exact h.blk x hx,h.but.trans (Ee.setCell _ _ _)⟩
theorem RB.of {b B:Nat}{wx:World}{l:List (Nat×Obj)}{w:World}(h:RB b B wx l w){c:Nat}{o:Obj}(hm:(c,o)∈l):w.heap[c]? = some o:=h.blk _ hm
theorem Ee.mid {b:Nat}{w w':World}(h:Ee b w w'){p:Nat->Prop}(hp:¬p b):Mid p w w':=⟨h.os,h.tape,h.output,h.size,fun k hk hpk=>h.block k hk (fun e=>hp (e ▸ hpk))⟩
theorem Ee.keepsFrom {b D:Nat}{w w':World}(h:Ee b w w'){cs:Array Value}{t:TypeId}{m:Nat×Nat}(hb:w.heap[b]? = some (.cells cs t m)):KeepsFrom D w w' :=
 ⟨h.size,fun k o _ hk ho=>by rw[h.block k (Ik hk).1 (fun e=>by subst e;rw[hb]at hk;cases hk;cases ho)];exact hk⟩
structure Pt (w:World) (b2 b3 b4 b5 b6 gp gt:Nat) (pp pt ux sl:Value) (N:Nat) (W:World):Prop where
 c0:Ae W w.heap.size ux
 c2:W.heap[b2]? = some (.cells #[.func (.func gp) #[pp] #[]] 254 (0,0))
 c3:W.heap[b3]? = some (.cells #[.func (.func gt) #[pt] #[]] 254 (0,0))
 c4:Ae W b4 (.slice none 0 0)
 c5:Oh W b5 N
 c6:W.heap[b6]? = some (.cells #[sl] 62 (0,0))
 bel:Below w.heap.size w W
theorem Pt.stable {w:World}{b2 b3 b4 b5 b6 gp gt N:Nat}{pp pt ux sl:Value}{W W':World}(h:Pt w b2 b3 b4 b5 b6 gp gt pp pt ux sl N W)(hb:Below W.heap.size W W'):Pt w b2 b3 b4 b5 b6 gp gt pp pt ux sl N W' :=
 ⟨h.c0.below hb h.c0.lt,by rw[hb.block b2 (Ik h.c2).1];exact h.c2,by rw[hb.block b3 (Ik h.c3).1];exact h.c3,h.c4.below hb h.c4.lt,h.c5.below hb,by rw[hb.block b6 (Ik h.c6).1];exact h.c6,Ab h.bel hb⟩
theorem Pt.own {w:World}{b2 b3 b4 b5 b6 gp gt:Nat}{N:Nat->Nat}{pp pt ux sl:Value}{D:Nat}(hD:w.heap.size<=D):OwnFrom D (fun k=>Pt w b2 b3 b4 b5 b6 gp gt pp pt ux sl (N k)):=fun k W W' row h hg hr=>by
 have hc:Calm W row:=fun j e=>(hr j e).2
 obtain⟨p,n,c,h1,h2⟩:=h.c5;exact⟨Dx hg hc h.c0,Dx hg hc h.c2,Dx hg hc h.c3,Dx hg hc h.c4,⟨p,n,c,Dx hg hc h1,h2.kept hg hc⟩,Dx hg hc h.c6,h.bel.grown hg h.bel.size (fun j e=>Eo hD (hr j e).1)⟩
end Go.Proofs.YtokhckjemidbpaaGreatDoor
