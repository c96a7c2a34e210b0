/- Rows of the document's numbers that grow, and no number is harmed. -/
import Derived.Test.YtnbmfaihlefgfaaGreatDoorPdA
import Derived.Lib.SmallJoins
import Derived.Deep.LoopGhost
import Derived.Lib.AppendZeros
import Derived.Lib.Walk
import Derived.BigRegion
import Derived.Laws.Rows
import Derived.Laws.OwnMore
set_option maxRecDepth 1000000
set_option maxHeartbeats 16000000
set_option linter.all false
namespace Go.Proofs.YtnbmfaihlefgfaaGreatDoor
open Go Go.RowKit Go.Proofs.YtnbmfaihlefgfaaGreatDoor.Flow
def iC (w:World)(x:Option Addr×Nat×Nat)(N:Nat):Prop:=Ay w x.1 x.2.1 x.2.2 N
def Ku (w:World)(g:Nat)(us:List (Option Addr×Nat×Nat))(rest:List Value):Prop:=w.heap[g]? = some (.cells (us.map sv++rest).toArray 28 (0,0))
theorem Ku.lt {w:World}{g:Nat}{us:List (Option Addr×Nat×Nat)}{rest:List Value}(h:Ku w g us rest):g<w.heap.size:=(Mv h).1
theorem Ku.cell {w:World}{g j:Nat}{us:List (Option Addr×Nat×Nat)}{rest:List Value}{x:Option Addr×Nat×Nat}(h:Ku w g us rest)(hj:us[j]? = some x):w.cell? ⟨g,j,none⟩=some (.slice x.1 x.2.1 x.2.2):=by
 have hl:j<us.length:=(List.getElem?_eq_some_iff.1 hj).1;unfold Ku at h;have:(us.map sv++rest)[j]? = some (sv x):=by rw[List.getElem?_append_left (by simpa using hl),List.getElem?_map,hj];rfl
 simp[World.cell?,h,this,sv]
structure Ew (w:World) (B:Nat) (v:Value) (us:List (Option Addr×Nat×Nat)):Prop where
 ex:(v=.slice none 0 0/\us=[]) ∨ ∃(g cap:Nat) (rest:List (Option Addr×Nat×Nat)),v=.slice (some ⟨g,0,none⟩) us.length cap/\B<=g/\Ku w g us (rest.map sv)/\us.length+rest.length=cap/\cap<=9223372036854775807
theorem Ew.own {w:World}{B g:Nat}{v:Value}{us:List (Option Addr×Nat×Nat)}(h:Ew w B v us)(hg:v.ownBlock=some g):B<=g/\g<w.heap.size:=by
 rcases h.ex with ⟨rfl,_⟩|⟨g',cap,rest,rfl,h1,h2,_⟩
 .cases hg
 .obtain rfl:g'=g:=by simpa [Value.ownBlock]using hg
  exact⟨h1,h2.lt⟩
theorem Ew.keep {w w':World}{B:Nat}{v:Value}{us:List (Option Addr×Nat×Nat)}(h:Ew w B v us)(hk:∀g,v.ownBlock=some g->w'.heap[g]? = w.heap[g]?):Ew w' B v us:=by
 rcases h.ex with h1|⟨g,cap,rest,rfl,h1,h2,h3⟩
 .exact⟨.inl h1⟩
 .exact⟨.inr ⟨g,cap,rest,rfl,h1,by unfold Ku at *;rw[hk g rfl];exact h2,h3⟩⟩
theorem Ew.below {w w':World}{B:Nat}{v:Value}{us:List (Option Addr×Nat×Nat)}(h:Ew w B v us)(hb:Below w.heap.size w w'):Ew w' B v us:=h.keep fun g hg=>hb.block g (h.own hg).2
theorem Ew.slice {w:World}{B:Nat}{v:Value}{us:List (Option Addr×Nat×Nat)}(h:Ew w B v us):∃p c,v=.slice p us.length c:=by
 rcases h.ex with ⟨rfl,rfl⟩|⟨g,cap,rest,rfl,_⟩
 .exact⟨_,_,rfl⟩
 .exact⟨_,_,rfl⟩
theorem Ku.all {w:World}{g j:Nat}{us rest:List (Option Addr×Nat×Nat)}{u:Value}(h:Ku w g us (rest.map sv))(hc:w.cell? ⟨g,j,none⟩=some u):∃x:Option Addr×Nat×Nat,u=sv x:=by
 unfold Ku at h;rw[<-List.map_append]at h
 simp only[World.cell?,h,List.getElem?_toArray,List.getElem?_map]at hc
 cases hx:(us++rest)[j]? with
 | none=>rw[hx]at hc;simp at hc
 | some x=>rw[hx]at hc;simp at hc;exact⟨x,hc.symm⟩
theorem Ku.apart {w:World}{p:Option Addr}{n c N g:Nat}{us rest:List (Option Addr×Nat×Nat)}(hr:Ku w g us (rest.map sv))(h:Ay w p n c N)(h0:0<n):∀q,p=some q->q.block≠g:=by
 intro a ha hab;obtain⟨b',off,k1,k2,k3⟩:=Ed.pos h h0;rw[k1]at ha;cases ha
 have hbb:b'=g:=hab;subst hbb;have hl:n=(bitsOf N).length:=h.len;have h1:=k3 0 ((bitsOf N)[0]'(by omega)) (List.getElem?_eq_getElem _);rw[Nat.add_zero]at h1
 obtain⟨x,hx⟩:=hr.all h1;unfold sv at hx;cases hx
theorem Ip {w w':World}{p:Option Addr}{n c N:Nat}{v:Value}{us:List (Option Addr×Nat×Nat)}{B:Nat}(hr:Ew w B v us)(hg:w.grownBy w' v.ownBlock)(h:Ay w p n c N):Ay w' p n c N:=by
 rcases Nat.eq_zero_or_pos n with rfl|h0
 .refine⟨h.len,h.cap,h.max,?_⟩;rcases h.at_ with k|⟨b,off,k1,k2,k3⟩
  .exact .inl k
  .refine .inr ⟨b,off,k1,Dj k2 hg.size,fun i x hx=>?_⟩;have:bitsOf N=[]:=List.eq_nil_of_length_eq_zero h.len.symm;rw[this]at hx;cases hx
 .refine Lr.stay h hg.size fun q hq o=>World.cell?_of_block (a:=⟨q.block,o,none⟩) (hg.block q.block (Lr.lt h q hq) fun e=>?_)
  rcases hr.ex with ⟨rfl,_⟩|⟨g,cap,rest,rfl,_,h2,_⟩
  .cases e
  .have e2:q.block=g:=by simpa [Value.ownBlock]using e
   exact h2.apart h h0 q hq e2
theorem Lz (n:Nat):Builtin.zeroCells (Value.slice none 0 0).cells n=((List.replicate n ((none,0,0):Option Addr×Nat×Nat)).map sv).toArray:=by
 have:(Value.slice none 0 0).cells=#[.slice none 0 0]:=by simp[Value.cells]
 rw[this];unfold Builtin.zeroCells;rw[List.map_replicate];apply Array.ext';have h1:(fun i:Nat=>([Value.slice none 0 0]:List Value)[i%1]?.getD default)=fun _=>Value.slice none 0 0:=by funext i;simp[Nat.mod_one]
 simp[sv];rw[h1];rw[List.map_const',List.length_range]
theorem Ew.app {w:World}{B:Nat}{v:Value}{us:List (Option Addr×Nat×Nat)}(h:Ew w B v us){a:Addr}{c:Nat}{x:Option Addr×Nat×Nat}(hc:w.cell? a=some (sv x))(hB:B<=w.heap.size)(hl:us.length<=100000)(ty:TypeId) :
  ∃v' w',(Builtin.append_ #[47, 47] ty #[v,.slice (some a) 1 c]).run Tryz.prog w=.ok v' w'/\Ew w' B v' (us++[x])/\w.grownBy w' v.ownBlock/\Vg w v v':=by
 obtain⟨i,hi,hz,hs,hb⟩:=info_parts Tryz.info_N;have hu:=Tryz.underlying47;have ha0:a.add 0=a:=by obtain⟨b,o,s⟩:=a;simp[Addr.add]
 have hnew:∀j u,([sv x]:List Value)[j]? = some u->w.cell? (a.add j)=some u:=fun j u hj=>by
  cases j with
  | zero=>simp at hj;subst hj;rw[ha0];exact hc
  | succ j=>simp at hj
 have hby:i.bytes<=1000:=by rw[hb];decide
 have hzc:∀n,Builtin.zeroCells (Value.slice none 0 0).cells n=((List.replicate n ((none,0,0):Option Addr×Nat×Nat)).map sv).toArray:=Lz;rcases h.ex with ⟨rfl,rfl⟩|⟨g,cap,rest,rfl,hbg,hx,hcap,hmx⟩
 .have hr:=run_append_nil (P:=Tryz.prog) (w:=w) 47 ty 28 i _ hu hi hz a 1 c [sv x] (by rw[hs];rfl) hnew (by decide) (by decide) (by omega);rw[hzc]at hr
  refine⟨_,_,hr,⟨.inr ⟨w.heap.size,grownCap w 1 0 28,List.replicate (grownCap w 1 0 28 - 1) (none,0,0),rfl,hB,?_,?_,?_⟩⟩,⟨rfl,rfl,rfl,by simp,fun k hk _=>((Be w.heap.size w).drew.alloc (Av _) _).block k hk⟩,.inr fun g hg=>?_⟩
  .unfold Ku;rw[show (w.drew.alloc (.cells ([sv x].toArray++((List.replicate (grownCap w 1 0 28 - 1) ((none,0,0):Option Addr×Nat×Nat)).map sv).toArray) 28)).heap[w.heap.size]? = some (.cells ([sv x].toArray++((List.replicate (grownCap w 1 0 28 - 1) ((none,0,0):Option Addr×Nat×Nat)).map sv).toArray) 28 (0,0)) from heap_alloc_new w.drew _];simp
  .have:=grownCap_ge w 1 0 28;simp;omega
  .have:=grownCap_le_maxLen w 1 0 28 (by decide);simpa [maxLen]using this
  .have:w.heap.size=g:=by simpa [Value.ownBlock]using hg
   omega
 .have hxb:=hx;unfold Ku at hxb
  cases rest with
  | nil=>
   have hcn:cap=us.length:=by simpa using hcap.symm
   subst hcn;have hgg:us.length<us.length+1:=by omega
   have hr:=run_append_grow (P:=Tryz.prog) (w:=w) 47 ty 28 i _ hu hi hz ⟨g,0,none⟩ us.length us.length (us.map sv) (by rw[hs];simp) (fun j u hj=>by
     rw[List.getElem?_map]at hj
     cases hy:us[j]? with
     | none=>rw[hy]at hj;cases hj
     | some y=>
      rw[hy]at hj;cases hj
      have:=hx.cell hy;rw[add_plain g 0 j,Nat.zero_add];exact this) a 1 c [sv x] (by rw[hs];rfl) hnew hgg (by omega) (growslice_fits hgg (Fo (Nat.mul_le_mul (by omega:us.length+1<=100001) hby) (by decide)))
   rw[hzc]at hr
   obtain⟨C,hC⟩:∃C,grownCap w (us.length+1) us.length 28 = C:=⟨_,rfl⟩
   have h1:=grownCap_ge w (us.length+1) us.length 28;have h2:=grownCap_le_maxLen w (us.length+1) us.length 28 (by simp[maxLen];omega);rw[hC]at hr h1 h2
   refine⟨_,_,hr,⟨.inr ⟨w.heap.size,C,List.replicate (C-(us.length+1)) (none,0,0),by rw[List.length_append];rfl,hB,?_,?_,by simpa [maxLen]using h2⟩⟩,⟨rfl,rfl,rfl,by simp,fun k hk _=>((Be w.heap.size w).drew.alloc (Av _) _).block k hk⟩,.inr fun g' hg'=>?_⟩
   .unfold Ku;rw[show (w.drew.alloc (.cells ((us.map sv).toArray++[sv x].toArray++((List.replicate (C-(us.length+1)) ((none,0,0):Option Addr×Nat×Nat)).map sv).toArray) 28)).heap[w.heap.size]? = some (.cells ((us.map sv).toArray++[sv x].toArray++((List.replicate (C-(us.length+1)) ((none,0,0):Option Addr×Nat×Nat)).map sv).toArray) 28 (0,0)) from heap_alloc_new w.drew _];simp
   .simp;omega
   .have:w.heap.size=g':=by simpa [Value.ownBlock]using hg'
    omega
  | cons r0 rest=>
   have hr:=run_append_room (P:=Tryz.prog) (w:=w) 47 ty 28 i hu hi g us.length cap _ hxb a 1 c [sv x] (by rw[hs];rfl) hnew (fun u hu'=>by simp at hu';subst hu';rfl) (by simp at hcap;omega) (by simp[hs]);refine⟨_,_,hr,⟨.inr ⟨g,cap,rest,by rw[List.length_append];rfl,hbg,?_,by simp at hcap ⊢;omega,hmx⟩⟩,⟨rfl,rfl,rfl,by simp,fun k hk hn=>setRow_other w g k _ (fun e=>hn (by rw[e];rfl))⟩,.inl rfl⟩;unfold Ku;rw[setRow_heap w g _ _ _ _ hxb];have h9:(us.map sv++sv r0::rest.map sv).drop (us.length+1)=rest.map sv:=by
    rw[show us.map sv++sv r0::rest.map sv=(us.map sv++[sv r0])++rest.map sv by simp];exact List.drop_left' (by simp)
   simp[hs,h9]
structure Du (w:World) (us:List (Option Addr×Nat×Nat)) (Ns:List Nat):Prop where
 len:us.length=Ns.length
 at_:∀(i N:Nat),Ns[i]? = some N->∃x,us[i]? = some x/\iC w x N
theorem Du.nil (w:World):Du w [] []:=⟨rfl,fun i N hN=>by simp at hN⟩
theorem Du.below {w w':World}{us:List (Option Addr×Nat×Nat)}{Ns:List Nat}(h:Du w us Ns)(hb:Below w.heap.size w w'):Du w' us Ns :=
 ⟨h.len,fun i N hN=>let ⟨x,h1,h2⟩:=h.at_ i N hN;⟨x,h1,Ay.below h2 hb⟩⟩
theorem Du.grown {w w':World}{B:Nat}{v:Value}{us us2:List (Option Addr×Nat×Nat)}{Ns:List Nat}(h:Du w us Ns)(hr:Ew w B v us2)(hg:w.grownBy w' v.ownBlock):Du w' us Ns :=
 ⟨h.len,fun i N hN=>let ⟨x,h1,h2⟩:=h.at_ i N hN;⟨x,h1,Ip hr hg h2⟩⟩
theorem Du.snoc {w:World}{N:Nat}{us:List (Option Addr×Nat×Nat)}{Ns:List Nat}{x:Option Addr×Nat×Nat}(h:Du w us Ns)(hx:iC w x N):Du w (us++[x]) (Ns++[N]):=by
 refine⟨by simp[h.len],fun i M hM=>?_⟩;rcases Nat.lt_or_ge i Ns.length with hi|hi
 .rw[List.getElem?_append_left hi]at hM
  obtain⟨y,h1,h2⟩:=h.at_ i M hM
  exact⟨y,by rw[List.getElem?_append_left (by rw[h.len];exact hi)];exact h1,h2⟩
 .rw[List.getElem?_append_right hi]at hM
  obtain⟨t,ht⟩:∃t,i-Ns.length=t:=⟨_,rfl⟩
  rw[ht]at hM
  cases t with
  | zero=>
   simp at hM;subst hM;exact⟨x,by rw[List.getElem?_append_right (by rw[h.len];exact hi),h.len,ht];rfl,hx⟩
  | succ t=>simp at hM
theorem Ew.made (w:World){B:Nat}(hB:B<=w.heap.size):Ew (w.alloc (.cells #[] 28)) B (.slice (some ⟨w.heap.size,0,none⟩) 0 0) [] :=
 ⟨.inr ⟨w.heap.size,0,[],rfl,hB,heap_alloc_new w _,rfl,by decide⟩⟩
theorem Ew.nlist {w:World}{B:Nat}{v:Value}{us:List (Option Addr×Nat×Nat)}{Ns:List Nat}(h:Ew w B v us)(ht:Du w us Ns):∃p c,v=.slice p Ns.length c/\Em w p Ns.length c Ns:=by
 rcases h.ex with ⟨rfl,rfl⟩|⟨g,cap,rest,rfl,h1,h2,h3,h4⟩
 .have:Ns=[]:=List.eq_nil_of_length_eq_zero ht.len.symm;subst this;exact⟨_,_,rfl,⟨rfl,Av _,by omega,fun h0=>by simp at h0⟩⟩
 .have hl:=ht.len;refine⟨some ⟨g,0,none⟩,cap,by rw[hl],⟨rfl,by omega,h4,fun _=>⟨g,0,rfl,h2.lt,fun i N hN=>?_⟩⟩⟩;obtain⟨x,k1,k2⟩:=ht.at_ i N hN
  exact⟨x.1,x.2.1,x.2.2,by rw[Nat.zero_add];exact h2.cell k1,k2⟩
structure AH (W:World) (B:Nat) (v:Value) (us:List (Option Addr×Nat×Nat)) (A C N:Nat) (d4 d7 d8 d9 d10 d11:Bool) (v4 v7 v8 v9 v10 v11:Value) (w:World):Prop where
 pre:d10=false->Below W.heap.size W w
 p4:d10=false->d4=true->Aq A v4 w
 p7:d10=false->d7=true->Aq C v7 w
 p8:d10=false->d8=true->Aq N v8 w
 p9:d9=true->d10=false->∃(g:Nat) (x:Option Addr×Nat×Nat),v9=.slice (some ⟨g,0,none⟩) 1 1/\w.cell? ⟨g,0,none⟩=some (sv x)/\iC w x N
 fin:d10=true->∃(w1:World) (x:Option Addr×Nat×Nat),Below W.heap.size W w1/\w1.grownBy w v.ownBlock/\Ew w B v10 (us++[x])/\iC w x N
 same:d11=true->d10=true/\v11=v10
 o8:d8=true->d4=true/\d7=true
 o9:d9=true->d8=true
 o10:d10=true->d9=true
section
variable {W:World} {B:Nat} {v:Value} {us:List (Option Addr×Nat×Nat)} {A C N:Nat} {d4 d7 d8 d9 d10 d11:Bool} {v4 v7 v8 v9 v10 v11:Value} {w:World}
theorem AH.start:AH W B v us A C N false false false false false false v4 v7 v8 v9 v10 v11 W.drew :=
 ⟨fun _=>(Be _ _).drew,(fun _ e=>by cases e),(fun _ e=>by cases e),(fun _ e=>by cases e),(fun e=>by cases e),(fun e=>by cases e),(fun e=>by cases e),(fun e=>by cases e),(fun e=>by cases e),fun e=>by cases e⟩
theorem AH.later {w':World}(h:AH W B v us A C N d4 d7 d8 d9 false d11 v4 v7 v8 v9 v10 v11 w)(hb:Below w.heap.size w w'):AH W B v us A C N d4 d7 d8 d9 false d11 v4 v7 v8 v9 v10 v11 w' :=
 ⟨fun e=>Ae (h.pre e) hb,fun e k=>(h.p4 e k).below hb,fun e k=>(h.p7 e k).below hb,fun e k=>(h.p8 e k).below hb,fun k e=>by
  obtain⟨g,x,h1,h2,h3⟩:=h.p9 k e;have hg:g<w.heap.size:=by
   unfold World.cell? at h2;rcases Nat.lt_or_ge g w.heap.size with k|k
   .exact k
   .simp[Array.getElem?_eq_none k]at h2
  exact⟨g,x,h1,(hb.cell (p:=⟨g,0,none⟩) hg).trans h2,Ay.below h3 hb⟩,(fun e=>by cases e),(fun e=>by have:=(h.same e).1;cases this),h.o8,h.o9,fun e=>by cases e⟩
theorem AH.n9 (h:AH W B v us A C N d4 d7 d8 false d10 d11 v4 v7 v8 v9 v10 v11 w):d10=false:=by
 cases d10 with
 | false=>rfl
 | true=>have:=h.o10 rfl;cases this
theorem AH.n8 (h:AH W B v us A C N d4 d7 false d9 d10 d11 v4 v7 v8 v9 v10 v11 w):d10=false:=by
 cases d9 with
 | false=>exact h.n9
 | true=>have:=h.o9 rfl;cases this
theorem AH.n4 (h:AH W B v us A C N false d7 d8 d9 d10 d11 v4 v7 v8 v9 v10 v11 w):d10=false:=by
 cases d8 with
 | false=>exact h.n8
 | true=>have:=(h.o8 rfl).1;cases this
theorem AH.n7 (h:AH W B v us A C N d4 false d8 d9 d10 d11 v4 v7 v8 v9 v10 v11 w):d10=false:=by
 cases d8 with
 | false=>exact h.n8
 | true=>have:=(h.o8 rfl).2;cases this
theorem AH.put4 (h:AH W B v us A C N d4 d7 d8 d9 false d11 v4 v7 v8 v9 v10 v11 w){u:Value}(hu:Aq A u w):AH W B v us A C N true d7 d8 d9 false d11 u v7 v8 v9 v10 v11 w :=
 ⟨h.pre,fun _ _=>hu,h.p7,h.p8,h.p9,h.fin,h.same,fun e=>⟨rfl,(h.o8 e).2⟩,h.o9,h.o10⟩
theorem AH.put7 (h:AH W B v us A C N d4 d7 d8 d9 false d11 v4 v7 v8 v9 v10 v11 w){u:Value}(hu:Aq C u w):AH W B v us A C N d4 true d8 d9 false d11 v4 u v8 v9 v10 v11 w :=
 ⟨h.pre,h.p4,fun _ _=>hu,h.p8,h.p9,h.fin,h.same,fun e=>⟨(h.o8 e).1,rfl⟩,h.o9,h.o10⟩
theorem AH.put8 (h:AH W B v us A C N true true d8 d9 false d11 v4 v7 v8 v9 v10 v11 w){u:Value}(hu:Aq N u w):AH W B v us A C N true true true d9 false d11 v4 v7 u v9 v10 v11 w :=
 ⟨h.pre,h.p4,h.p7,fun _ _=>hu,h.p9,h.fin,h.same,fun _=>⟨rfl,rfl⟩,fun _=>rfl,h.o10⟩
theorem AH.put9 (h:AH W B v us A C N d4 d7 true d9 false d11 v4 v7 v8 v9 v10 v11 w){g:Nat}{x:Option Addr×Nat×Nat}(hc:w.cell? ⟨g,0,none⟩=some (.slice x.1 x.2.1 x.2.2))(hx:iC w x N):AH W B v us A C N d4 d7 true true false d11 v4 v7 v8 (.slice (some ⟨g,0,none⟩) 1 1) v10 v11 w :=
 ⟨h.pre,h.p4,h.p7,h.p8,fun _ _=>⟨g,x,rfl,hc,hx⟩,h.fin,h.same,h.o8,fun _=>rfl,fun _=>rfl⟩
theorem AH.put10 (h:AH W B v us A C N d4 d7 d8 true false d11 v4 v7 v8 v9 v10 v11 w)(hr:Ew W B v us)(hB:B<=W.heap.size)(hl:us.length<=100000)(ty:TypeId) :
  ∃g v' w',v9=.slice (some ⟨g,0,none⟩) 1 1/\(Builtin.append_ #[47, 47] ty #[v,.slice (some ⟨g,0,none⟩) 1 1]).run Tryz.prog w=.ok v' w'/\AH W B v us A C N d4 d7 d8 true true d11 v4 v7 v8 v9 v' v11 w':=by
 have hb:=h.pre rfl;obtain⟨g,x,h1,h2,h3⟩:=h.p9 rfl rfl;have hr1:=hr.below hb;obtain⟨v',w',k1,k2,k3,k4⟩:=hr1.app (c:=1) h2 (Fo hB hb.size) hl ty;exact⟨g,v',w',h1,k1,(fun e=>by cases e),(fun e=>by cases e),(fun e=>by cases e),(fun e=>by cases e),(fun _ e=>by cases e),fun _=>⟨w,x,hb,k3,k2,Ip hr1 k3 h3⟩,(fun e=>by have:=(h.same e).1;cases this),h.o8,h.o9,fun _=>rfl⟩
theorem AH.put11 (h:AH W B v us A C N d4 d7 d8 d9 true false v4 v7 v8 v9 v10 v11 w):AH W B v us A C N d4 d7 d8 d9 true true v4 v7 v8 v9 v10 v10 w :=
 ⟨h.pre,h.p4,h.p7,h.p8,h.p9,h.fin,(fun _=>⟨rfl,rfl⟩),h.o8,h.o9,h.o10⟩
end
end Go.Proofs.YtnbmfaihlefgfaaGreatDoor
