/- A challenge, answered (schnorr.Answered). -/
import Derived.Lib.SmallJoins
import Derived.Test.YthgoeiegdhphjaaGreatDoorSgA
set_option maxRecDepth 1000000
set_option maxHeartbeats 16000000
set_option linter.all false
namespace Go.Proofs.YthgoeiegdhphjaaGreatDoor
open Go Go.RowKit Go.Proofs.YthgoeiegdhphjaaGreatDoor.Flow
theorem Mv {w:World}{g:Nat}{t:TypeId}{fr:Nat×Nat}{bs:List Nat}{n:Nat}(h:w.heap[g]? = some (.cells (bs.map fun(x:Nat)=>Value.int .u8 (x:Int)).toArray t fr))(hn:n=bs.length)(hm:n<=9223372036854775807):Bk w .u8 (some ⟨g,0,none⟩) n n bs :=
 ⟨hn,Av _,hm,fun _=>⟨hn,Av _,hm,.inr ⟨g,0,rfl,(Ll h).1,fun i x hx=>by
  rw[Nat.zero_add];unfold World.cell?
  dsimp only
  rw[h];simp[hx]⟩⟩⟩
def Kk (n:Nat)(bs:List Nat)(v:Value)(w:World):Prop:=∃g,v=.tuple #[.slice (some ⟨g,0,none⟩) n n,.int .i64 0]/\Bd w g 5 .u8 bs
def Kj (n:Nat)(bs:List Nat)(v:Value)(w:World):Prop:=∃g,v=.slice (some ⟨g,0,none⟩) n n/\Bd w g 5 .u8 bs
theorem Kk.below {n:Nat}{bs:List Nat}{v:Value}{w w':World}(h:Kk n bs v w)(hb:Below w.heap.size w w'):Kk n bs v w' :=
 let ⟨g,h1,h2⟩:=h
 ⟨g,h1,h2.below hb h2.lt⟩
theorem Kj.below {n:Nat}{bs:List Nat}{v:Value}{w w':World}(h:Kj n bs v w)(hb:Below w.heap.size w w'):Kj n bs v w' :=
 let ⟨g,h1,h2⟩:=h
 ⟨g,h1,h2.below hb h2.lt⟩
theorem Zv {w:World}{e N s:Nat}{v:Value}(h:Fit e N v w)(he:e<=30000)(hs:s<=1000)(hl:N<B8 s) :
  Calls Tryz.prog 130 #[v,.int .i64 (s:Nat)] w fun en w'=>∃x,en=.returned x/\Kk s (Bl N s) x w'/\Below w.heap.size w w':=by
 obtain⟨p,n,c,rfl,h1,h2⟩:=h;have l1:=h1.len_le h2;have l2:=Ee h2;have l3:=Gw.2 hl;refine(Ra w p n c N s h1 (by omega) (by omega) (by omega) (by omega)).mono ?_;rintro en w' ⟨g,rfl,hb,hbel,_⟩;exact⟨_,rfl,⟨g,rfl,hb⟩,hbel⟩
theorem Lh {w:World}{g n N:Nat}(h:Bd w g 5 .u8 (Bl N n))(hn:n<=1000):Bf w ⟨some ⟨g,0,none⟩,n,n,Bl N n⟩ :=
 ⟨⟨(Bu N n).symm,Av _,Ep hn (by decide),fun _=>h.row (Bu N n).symm (Av _) (Ep hn (by decide))⟩,(Jv N n).reverse⟩
theorem fY (w:World)(P Q R S:Part)(hP:Bf w P)(hQ:Bf w Q)(hR:Bf w R)(hS:Bf w S):Cv (w.alloc (.cells #[.slice P.p P.n P.c,.slice Q.p Q.n Q.c,.slice R.p R.n R.c,.slice S.p S.n S.c] 60)) (some ⟨w.heap.size,0,none⟩) 4 4 [P,Q,R,S]:=by
 have hb:Below w.heap.size w (w.alloc (.cells #[.slice P.p P.n P.c,.slice Q.p Q.n Q.c,.slice R.p R.n R.c,.slice S.p S.n S.c] 60)):=Cf;have hn:=heap_alloc_new w (.cells #[.slice P.p P.n P.c,.slice Q.p Q.n Q.c,.slice R.p R.n R.c,.slice S.p S.n S.c] 60);refine⟨rfl,Av _,by omega,fun i X hX=>?_,fun _=>⟨w.heap.size,0,rfl,by simp,fun i X hX=>?_⟩⟩
 .match i,hX with
  | 0,h=>cases h;exact hP.below hb
  | 1,h=>cases h;exact hQ.below hb
  | 2,h=>cases h;exact hR.below hb
  | 3,h=>cases h;exact hS.below hb
 .match i,hX with
  | 0,h=>cases h;unfold World.cell?;dsimp only;rw[hn];rfl
  | 1,h=>cases h;unfold World.cell?;dsimp only;rw[hn];rfl
  | 2,h=>cases h;unfold World.cell?;dsimp only;rw[hn];rfl
  | 3,h=>cases h;unfold World.cell?;dsimp only;rw[hn];rfl
theorem Kf {w:World}{e N s:Nat}{v:Value}(h:Fit e N v w)(he:e<=30000)(hs:s<=1000)(hl:N<B8 s) :
  Calls Tryz.prog 130 #[v,.int .i64 (s:Nat)] w fun en w'=>∃g,en=.returned (.tuple #[.slice (some ⟨g,0,none⟩) s s,.int .i64 0])/\Bd w' g 5 .u8 (Bl N s)/\w.heap.size<=g/\Below w.heap.size w w':=by
 obtain⟨p,n,c,rfl,h1,h2⟩:=h;have l1:=h1.len_le h2;have l2:=Ee h2;have l3:=Gw.2 hl;refine(Ra w p n c N s h1 (by omega) (by omega) (by omega) (by omega)).mono ?_;rintro en w' ⟨g,rfl,hb,hbel,hn⟩;exact⟨g,rfl,hb,hn,hbel⟩
def Rh (B n:Nat)(bs:List Nat)(v:Value)(w:World):Prop:=∃g,v=.tuple #[.slice (some ⟨g,0,none⟩) n n,.int .i64 0]/\B<=g/\Bd w g 5 .u8 bs
def Pq (B n:Nat)(bs:List Nat)(v:Value)(w:World):Prop:=∃g,v=.slice (some ⟨g,0,none⟩) n n/\B<=g/\Bd w g 5 .u8 bs
theorem Rh.below {B n:Nat}{bs:List Nat}{v:Value}{w w':World}(h:Rh B n bs v w)(hb:Below w.heap.size w w'):Rh B n bs v w' :=
 let ⟨g,h1,h2,h3⟩:=h
 ⟨g,h1,h2,h3.below hb h3.lt⟩
theorem Pq.below {B n:Nat}{bs:List Nat}{v:Value}{w w':World}(h:Pq B n bs v w)(hb:Below w.heap.size w w'):Pq B n bs v w' :=
 let ⟨g,h1,h2,h3⟩:=h
 ⟨g,h1,h2,h3.below hb h3.lt⟩
theorem Ov {w:World}{b P Q G H e A sz:Nat}{v:Value}(hg:Ay w b P Q G H)(hv:Fit e A v w)(he:e<=30000)(hA:A<P)(hsz:As P=sz)(hs:sz<=16) :
  Calls Tryz.prog 148 #[.pointer (some ⟨b,0,none⟩),v] w fun en w'=>∃g,en=.returned (.slice (some ⟨g,0,none⟩) sz sz)/\w.heap.size<=g/\Bd w' g 5 .u8 (Bl A sz)/\Below w.heap.size w w':=by
 obtain⟨pa,na,ca,rfl,h1,h2⟩:=Aq hv;have hX0:=Ae.made w (.slice pa na ca);have hb0:Below w.heap.size w (w.alloc (.cells #[.slice pa na ca] 36)):=Cf;obtain⟨wa,hwa⟩:∃wa,w.alloc (.cells #[.slice pa na ca] 36)=wa:=⟨_,rfl⟩
 rw[hwa]at hX0 hb0
 have HBL:=Aa hb0;have HX0:=Aa hX0;have HA:=Aa ((Fit.of h1 h2).below hb0);have HG:=Aa (hg.below hb0);have hlm:=Im P;rw[hsz]at hlm
 have HSZ:=Aa hsz;have HLM:Ad (A<B8 sz):=⟨by omega⟩
 clear h1 h2 hX0 hb0 hg hv hsz hlm hA;go_enter Tryz.func148,Tryz.ntmps148;go_wp2;refine Ak (by kernel_rfl) (by kernel_rfl)
  [some (.agg #[.slice pa na ca]),some (.pointer (some ⟨b,0,none⟩)),none,none,none,none,some (.int .i64 0),none,some (.int .i64 0)]
  [false,false,true,true,true,true,false,true,false] rfl
  (fun w1 w2=>Below w1.heap.size w1 w2)
  (fun _ w'=>Below wa.heap.size wa w')
  (fun i v w'=>match i with
   | 2=>v=.int .i64 (sz:Nat)
   | 3=>Rh w.heap.size (sz) (Bl A sz) v w'
   | 4=>Rh w.heap.size (sz) (Bl A sz) v w'
   | 5=>Pq w.heap.size (sz) (Bl A sz) v w'
   | 7=>Pq w.heap.size (sz) (Bl A sz) v w'
   | _=>True)
  ?_ (Bc _ _).drew ?_ ?_
 .intro i v w1 w2 hf hb;split at hf
  .exact hf
  .exact hf.below hb
  .exact hf.below hb
  .exact hf.below hb
  .exact hf.below hb
  .trivial
 .simp only[Bb,Nat.reduceAdd];refine⟨?_,?_,?_,?_,?_,?_,?_,?_,?_,trivial⟩
  all_goals intro D sp w' hD hW hdp hbx'
  case refine_1=>
   have c0:=(HX0.out.below hbx' HX0.out.lt).cell
   with_reducible refine Ac ?_ ?_
   all_goals simp[Region.wanted,yielded,execOp,Act.eval,Act.put,go_sem,c0]
  case refine_3=>
   (with_reducible refine Ab (w1:=w') (f := 193) (args:=#[.pointer (some ⟨b,0,none⟩)]) ?_ ?_ ?_)
   .simp[Region.wanted,yielded,Act.put,go_sem]
   .simp[Act.eval,Act.put,go_sem]
   .refine(Zk (HG.out.below hbx')).mono ?_;rintro en w9 ⟨rfl,hb⟩;rw[HSZ.out];exact⟨_,rfl,hb,rfl,Af hbx' hb⟩
  case refine_4=>
   have k2:(sp 2)=.int .i64 (sz:Nat):=(hdp 2 (mq (by kernel_rfl))).2
   (with_reducible refine Ab (w1:=w') (f := 130) (args:=#[.agg #[.slice pa na ca],.int .i64 (sz:Nat)]) ?_ ?_ ?_)
   .first|(simp only[Region.wanted];done)|simp[Region.wanted,yielded,Act.put,go_sem,k2]
   .simp[Act.eval,Act.put,go_sem,k2]
   .refine(Kf (HA.out.below hbx') he (by omega) HLM.out).mono ?_;rintro en w9 ⟨g9,rfl,hu,hg9,hb⟩;exact⟨_,rfl,hb,⟨g9,rfl,Ep HBL.out.size (Ep hbx'.size hg9),hu⟩,Af hbx' hb⟩
  case refine_5=>
   have k3:Rh w.heap.size (sz) (Bl A sz) (sp 3) w':=(hdp 3 (mq (by kernel_rfl))).2
   (with_reducible refine Ai (w1:=w') (v:=sp 3) ?_ ?_ ?_)
   .simp[Region.wanted,yielded,Act.put,go_sem]
   .simp[execOp,Act.eval,Act.put,go_sem]
   .exact⟨Bc _ _,k3,hbx'⟩
  case refine_6=>
   have hx:∃g,sp 4=.tuple #[.slice (some ⟨g,0,none⟩) (sz) (sz),.int .i64 0]/\w.heap.size<=g/\Bd w' g 5 .u8 (Bl A sz):=(hdp 4 (mq (by kernel_rfl))).2
   (with_reducible refine Au hx fun g hx1=>?_)
   have h1:=hx1.1
   (with_reducible refine Ai (w1:=w') (v:=.slice (some ⟨g,0,none⟩) (sz) (sz)) ?_ ?_ ?_)
   .simp only[Region.wanted]
   .simp[execOp,Act.eval,Act.put,go_sem,h1]
   .exact⟨Bc _ _,⟨g,rfl,hx1.2⟩,hbx'⟩
  case refine_7=>
   have hx:∃g,sp 4=.tuple #[.slice (some ⟨g,0,none⟩) (sz) (sz),.int .i64 0]/\w.heap.size<=g/\Bd w' g 5 .u8 (Bl A sz):=(hdp 4 (mq (by kernel_rfl))).2
   (with_reducible refine Au hx fun g hx1=>?_)
   have h1:=hx1.1
   with_reducible refine Ac ?_ ?_
   all_goals simp[Region.wanted,yielded,execOp,Act.eval,Act.put,go_sem,h1]
  case refine_8=>
   have k5:Pq w.heap.size (sz) (Bl A sz) (sp 5) w':=(hdp 5 (mq (by kernel_rfl))).2
   (with_reducible refine Ai (w1:=w') (v:=sp 5) ?_ ?_ ?_)
   .simp[Region.wanted,yielded,Act.put,go_sem]
   .simp[execOp,Act.eval,Act.put,go_sem]
   .exact⟨Bc _ _,k5,hbx'⟩
  all_goals ((with_reducible refine Ac ?_ ?_);all_goals first|(simp only[Region.wanted];done)|simp[Region.wanted,yielded,execOp,Act.eval,Act.put,go_sem])
 .intro sp w1 hsp hb1;obtain⟨ga,e7,hga,hk7⟩:Pq w.heap.size sz (Bl A sz) (sp 7) w1:=hsp 7 rfl;have HKA:=Aa hk7;have HGA:=Aa hga;have HBL1:=Aa (Af HBL.out hb1);clear hsp hb1 hk7 hga;simp only[Am,Nat.reduceAdd];rw[e7];clear e7 hwa;generalize sp 2=y2,sp 3=y3,sp 4=y4,sp 5=y5 at *
  go_simp
  go_wp2;go_ret;exact⟨ga,rfl,HGA.out,HKA.out,HBL1.out⟩
structure KT (T:TypeId) (B:Nat) (w w':World):Prop where
 k:Al B w w'
 blk:∀(g:Nat) (vs:Array Value) (U:TypeId) (m:Nat×Nat),w.heap[g]? = some (.cells vs U m)->(U≠T ∨ ∃(j:Nat) (u:Value),vs[j]? = some u/\∀q k d,u≠Value.slice q k d)->w'.heap[g]? = some (.cells vs U m)
theorem KT.of {T:TypeId}{B:Nat}{w w':World}(h:Below w.heap.size w w')(hB:B<=w.heap.size):KT T B w w' :=
 ⟨Al.of h hB,fun g _ _ _ ho _=>by rw[h.block g (Ll ho).1];exact ho⟩
theorem KT.same (T:TypeId)(B:Nat)(w:World):KT T B w w:=⟨Al.same _ _,fun _ _ _ _ h _=>h⟩
theorem Fit.kt {T:TypeId}{e N B:Nat}{v:Value}{w w':World}(h:Fit e N v w)(k:KT T B w w'):Fit e N v w':=h.keep k.k
theorem KT.trans {T:TypeId}{B:Nat}{w1 w2 w3:World}(h:KT T B w1 w2)(k:KT T B w2 w3):KT T B w1 w3:=⟨h.k.trans k.k,fun _ _ _ _ ho hU=>k.blk _ _ _ _ (h.blk _ _ _ _ ho hU) hU⟩
theorem KT.drew (T:TypeId)(B:Nat)(w:World):KT T B w w.drew:=⟨Al.drew _ _,fun _ _ _ _ h _=>h⟩
theorem Ring.kt {T:TypeId}{B r M f:Nat}{w w':World}(h:Ring w r M f)(k:KT T B w w')(hT : 132 ≠ T):Ring w' r M f:=by
 obtain⟨p,n,c,h1,h2,h3⟩:=h.at_.ex
 exact⟨⟨p,n,c,k.blk _ _ _ _ h1 (.inl hT),k.k.nat _ _ _ _ h2,h3⟩,h.two,h.lim,h.few⟩
theorem Ag.off {w w':World}{p:Option Addr}{n c N b:Nat}{vs:Array Value}{T:TypeId}{m:Nat×Nat}(h:Ag w p n c N)(hb:w.heap[b]? = some (.cells vs T m))(hs:∀(j:Nat) (u:Value),vs[j]? = some u->∃q k d,u=.slice q k d)(hz:w.heap.size<=w'.heap.size)(ho:∀g,g≠b->w'.heap[g]? = w.heap[g]?):Ag w' p n c N:=by
 rcases Nat.eq_zero_or_pos n with rfl|h0
 .obtain⟨ws,r1,r2,r3,r4⟩:=h.ex;refine⟨ws,⟨r1.len,r1.cap,r1.max,?_⟩,r2,r3,r4⟩;rcases r1.at_ with k|⟨g,off,k1,k2,k3⟩
  .exact .inl k
  .refine .inr ⟨g,off,k1,Dm k2 hz,fun i x hx=>?_⟩;have:ws=[]:=List.eq_nil_of_length_eq_zero r1.len.symm;rw[this]at hx;cases hx
 .refine Eo.stay h hz fun q hq o=>World.cell?_of_block (a:=⟨q.block,o,none⟩) (ho q.block fun e=>?_)
  obtain⟨ws,r1,r2,r3,r4⟩:=h.ex;obtain⟨b',off,k1,k2,k3⟩:=r1.pos h0;rw[k1]at hq;cases hq
  have hbb:b'=b:=e;subst hbb;have h1:=k3 0 (ws.getD 0 0) (by rw[Ec];simp[show 0<ws.length by rw[<-r1.len];exact h0]);rw[Nat.add_zero]at h1
  simp only[World.cell?,hb]at h1;obtain⟨q,k,d,hu⟩:=hs _ _ h1;cases hu
def set2 (w:World)(b:Nat)(u0 u1:Value):World:=(w.setCell ⟨b,0,none⟩ u0).setCell ⟨b,1,none⟩ u1
def eG (w:World)(b:Nat)(u0 u1 u2 u3:Value):World:=(((w.setCell ⟨b,0,none⟩ u0).setCell ⟨b,1,none⟩ u1).setCell ⟨b,2,none⟩ u2).setCell ⟨b,3,none⟩ u3
structure aF (w:World) (b:Nat) (o:Obj) (w':World):Prop where
 new:w'.heap[b]? = some o
 old:∀g,g≠b->w'.heap[g]? = w.heap[g]?
 size:w'.heap.size=w.heap.size
 bel:∀B,B<=b->Below B w w'
theorem iG {w:World}{b:Nat}{v0 v1 u0 u1:Value}{T:TypeId}(h:w.heap[b]? = some (.cells #[v0,v1] T (0,0))):aF w b (.cells #[u0,u1] T (0,0)) (set2 w b u0 u1) :=
 ⟨by simp[set2,World.setCell,Array.getElem?_modify,h],fun g hg=>by simp[set2,World.setCell,Array.getElem?_modify,hg.symm],by simp[set2],fun B hB=>(((Bc _ _).setCell hB _).setCell hB _)⟩
theorem put4 {w:World}{b:Nat}{v0 v1 v2 v3 u0 u1 u2 u3:Value}{T:TypeId}(h:w.heap[b]? = some (.cells #[v0,v1,v2,v3] T (0,0))):aF w b (.cells #[u0,u1,u2,u3] T (0,0)) (eG w b u0 u1 u2 u3) :=
 ⟨by simp[eG,World.setCell,Array.getElem?_modify,h],fun g hg=>by simp[eG,World.setCell,Array.getElem?_modify,hg.symm],by simp[eG],fun B hB=>(((((Bc _ _).setCell hB _).setCell hB _).setCell hB _).setCell hB _)⟩
theorem aF.keep {w w':World}{b B:Nat}{o:Obj}{vs:Array Value}{T:TypeId}{m:Nat×Nat}(h:aF w b o w')(hb:w.heap[b]? = some (.cells vs T m))(hs:∀(j:Nat) (u:Value),vs[j]? = some u->∃q k d,u=.slice q k d)(hB:B<=b):Al B w w' :=
 ⟨h.bel B hB,fun _ _ _ _ k=>k.off hb hs (Nat.le_of_eq h.size.symm) h.old⟩
theorem aF.kt {w w':World}{b B:Nat}{o:Obj}{vs:Array Value}{T:TypeId}{m:Nat×Nat}(h:aF w b o w')(hb:w.heap[b]? = some (.cells vs T m))(hs:∀(j:Nat) (u:Value),vs[j]? = some u->∃q k d,u=.slice q k d)(hB:B<=b):KT T B w w' :=
 ⟨h.keep hb hs hB,fun g us U k ho hU=>by
  have:g≠b:=fun e=>by
   subst e;rw[hb]at ho
   cases ho;rcases hU with hU|⟨j,u,hj,hu⟩
   .exact hU rfl
   .obtain⟨_,_,_,hx⟩:=hs _ _ hj;exact hu _ _ _ hx
  rw[h.old g this];exact ho⟩
theorem eE (x y:Option Addr×Nat×Nat):∀(j:Nat) (u:Value),(#[Value.slice x.1 x.2.1 x.2.2,.slice y.1 y.2.1 y.2.2]:Array Value)[j]? = some u->∃q k d,u=.slice q k d
 | 0,u,h=>by cases h;exact⟨_,_,_,rfl⟩
 | 1,u,h=>by cases h;exact⟨_,_,_,rfl⟩
 | j+2,u,h=>by simp at h
def dC (f:Bool)(b:Nat)(z:Obj)(F:Obj->World->Prop)(w:World):Prop:=(f=false->w.heap[b]? = some z)/\(f=true->∃o,w.heap[b]? = some o/\F o w)
theorem dC.later {f:Bool}{b:Nat}{z:Obj}{F:Obj->World->Prop}{w w':World}(h:dC f b z F w)(hb:Below w.heap.size w w')(hF:∀o,F o w->F o w'):dC f b z F w' :=
 ⟨fun e=>by have:=h.1 e;rw[hb.block b (Ll this).1];exact this,fun e=>by
  obtain⟨o,h1,h2⟩:=h.2 e;exact⟨o,by rw[hb.block b (Ll h1).1];exact h1,hF o h2⟩⟩
theorem dC.start {b:Nat}{z:Obj}{F:Obj->World->Prop}{w:World}(h:w.heap[b]? = some z):dC false b z F w:=⟨fun _=>h,fun e=>by cases e⟩
theorem dC.done {b:Nat}{z o:Obj}{F:Obj->World->Prop}{w:World}(h:w.heap[b]? = some o)(hF:F o w):dC true b z F w:=⟨(fun e=>by cases e),fun _=>⟨o,h,hF⟩⟩
def z4 (T:TypeId):Obj:=.cells #[.slice none 0 0,.slice none 0 0,.slice none 0 0,.slice none 0 0] T (0,0)
def Nj (C S:Nat)(v:Value)(w:World):Prop:=∃x y:Option Addr×Nat×Nat,v=.agg #[.slice x.1 x.2.1 x.2.2,.slice y.1 y.2.1 y.2.2]/\Eb w x C/\Eb w y S
theorem Nj.below {C S:Nat}{v:Value}{w w':World}(h:Nj C S v w)(hb:Below w.heap.size w w'):Nj C S v w' :=
 let ⟨x,y,h1,h2,h3⟩:=h
 ⟨x,y,h1,h2.below hb,h3.below hb⟩
theorem Nj.keep {B C S:Nat}{v:Value}{w w':World}(h:Nj C S v w)(k:Al B w w'):Nj C S v w' :=
 let ⟨x,y,h1,h2,h3⟩:=h
 ⟨x,y,h1,k.nat _ _ _ _ h2,k.nat _ _ _ _ h3⟩
theorem Nj.kt {T:TypeId}{B C S:Nat}{v:Value}{w w':World}(h:Nj C S v w)(k:KT T B w w'):Nj C S v w':=h.keep k.k
def iB (C S:Nat)(o:Obj)(w:World):Prop:=∃x y:Option Addr×Nat×Nat,o=.cells #[.slice x.1 x.2.1 x.2.2,.slice y.1 y.2.1 y.2.2] 142 (0,0)/\Eb w x C/\Eb w y S
theorem iB.below {C S:Nat}{o:Obj}{w w':World}(hb:Below w.heap.size w w')(h:iB C S o w):iB C S o w' :=
 let ⟨x,y,h1,h2,h3⟩:=h
 ⟨x,y,h1,h2.below hb,h3.below hb⟩
def zP:Obj:=.cells #[.slice none 0 0,.slice none 0 0] 142 (0,0)
theorem cells2 {w:World}{b:Nat}{v0 v1:Value}{T:TypeId}(h:w.heap[b]? = some (.cells #[v0,v1] T (0,0))):(w.cell? ⟨b,0,none⟩=some v0/\w.cell? ⟨b,1,none⟩=some v1)/\w.frozen? ⟨b,0,none⟩=false/\w.frozen? ⟨b,1,none⟩=false :=
 ⟨⟨by simp[World.cell?,h],by simp[World.cell?,h]⟩,by simp[World.frozen?,h],by simp[World.frozen?,h]⟩
theorem Sv {w:World}{b P Q G H ek ec ex K C X:Nat}{vk vc vx:Value}(hg:Ay w b P Q G H)(hk:Fit ek K vk w)(hc:Fit ec C vc w)(hx:Fit ex X vx w)(hek:ek<=33)(hec:ec<=33)(hex:ex<=30000) :
  Calls Tryz.prog 94 #[.pointer (some ⟨b,0,none⟩),vk,vc,vx] w fun en w'=>∃x,en=.returned x/\Nj C ((K+C*X%Q)%Q) x w'/\Below w.heap.size w w':=by
 obtain⟨pk,nk,ck,rfl,h1,h2⟩:=Aq hk;obtain⟨pc,nc,cc,rfl,h3,h4⟩:=Aq hc;obtain⟨px,nx,cx,rfl,h5,h6⟩:=Aq hx;have hbx:=Ta.mk3 w (.slice pk nk ck) (.slice pc nc cc) (.slice px nx cx);have hz3:(((w.alloc (.cells #[.slice pk nk ck] 36)).alloc (.cells #[.slice pc nc cc] 36)).alloc (.cells #[.slice px nx cx] 36)).heap.size=w.heap.size+1+1+1:=by simp
 obtain⟨w0,hw0⟩:∃wa,((w.alloc (.cells #[.slice pk nk ck] 36)).alloc (.cells #[.slice pc nc cc] 36)).alloc (.cells #[.slice px nx cx] 36)=wa:=⟨_,rfl⟩
 rw[hw0]at hbx hz3
 have hb0:Below w0.heap.size w0 (w0.alloc (.cells #[.slice none 0 0,.slice none 0 0] 142)):=Cf;have hz0:(w0.alloc (.cells #[.slice none 0 0,.slice none 0 0] 142)).heap[w0.heap.size]? = some zP:=heap_alloc_new w0 _;obtain⟨wa,hwa⟩:∃wa,w0.alloc (.cells #[.slice none 0 0,.slice none 0 0] 142)=wa:=⟨_,rfl⟩
 rw[hwa]at hb0 hz0
 rw[hz3]at hz0
 have hbel:=Af hbx.bel hb0;have HXK0:=Aa (hbx.b0.below hb0 hbx.b0.lt);have HXC0:=Aa (hbx.b1.below hb0 hbx.b1.lt);have HXX0:=Aa (hbx.b2.below hb0 hbx.b2.lt);have HBL:=Aa hbel;have HZ0:=Aa hz0;have HK0:=Aa ((Fit.of h1 h2).below hbel);have HC0:=Aa ((Fit.of h3 h4).below hbel);have HX0:=Aa ((Fit.of h5 h6).below hbel);have HG:=Aa (hg.below hbel);have hQ2:=hg.lims.2.2;have HWS:Ad (w.heap.size+1+1+1<wa.heap.size):=⟨(Ll hz0).1⟩
 obtain⟨MM,hMM⟩:∃M,C*X%Q=M:=⟨_,rfl⟩
 obtain⟨SS,hSS⟩:∃S,(K+MM)%Q=S:=⟨_,rfl⟩
 have HMM:=Aa hMM;have HSS:=Aa hSS;obtain⟨CC,hCC⟩:∃M,C=M:=⟨_,rfl⟩
 rw[hCC]at HC0 HMM
 rw[hMM,hSS,hCC];clear hMM hSS hCC h1 h2 h3 h4 h5 h6 hbx hg hk hc hx hb0 hz0 hbel;go_enter Tryz.func94,Tryz.ntmps94
 go_wp2_with fail
 refine(Jz HG.out).mono ?_;rintro en w1 ⟨r,rfl,hr,hb1⟩;have HR:Ad (∀w',KT 142 (w.heap.size+1+1+1) w1 w'->Ring w' r Q 33):=⟨fun w' k=>hr.kt k (by decide)⟩
 have hXK:=HXK0.out.below hb1 HXK0.out.lt;have HXK:=Aa hXK;have HXC:=Aa (HXC0.out.below hb1 HXC0.out.lt);have HXX:=Aa (HXX0.out.below hb1 HXX0.out.lt);have HK:=Aa (HK0.out.below hb1);have HC:=Aa (HC0.out.below hb1);have HX:=Aa (HX0.out.below hb1);have HB1:=Aa (Af HBL.out hb1);have HZ1:Ad (w1.heap[(w.heap.size+1+1+1)]? = some zP):=⟨by rw[hb1.block _ HWS.out];exact HZ0.out⟩
 have HSB:Ad (∀ {w':World},KT 142 (w.heap.size+1+1+1) w1 w'->(w.heap.size+1+1+1)<=w'.heap.size):=⟨fun k=>by have h1:=k.k.bel.size;have h2:=hb1.size;have h3:=HWS.out;omega⟩
 clear hr hb1 hXK HXK0 HXC0 HXX0 HK0 HC0 HX0;go_wp2;refine Ak (by kernel_rfl) (by kernel_rfl)
  [some (.agg #[.slice pc nc cc]),some (.pointer (some ⟨r,0,none⟩)),some (.agg #[.slice pk nk ck]),some (.pointer (some ⟨r,0,none⟩)),some (.agg #[.slice pc nc cc]),some (.agg #[.slice px nx cx]),none,none,none,none]
  [false,false,false,false,false,false,true,true,true,true] rfl
  (fun w1 w2=>KT 142 (w.heap.size+1+1+1) w1 w2)
  (fun D w'=>KT 142 (w.heap.size+1+1+1) w1 w'/\dC (D 9) (w.heap.size+1+1+1) zP (iB CC SS) w')
  (fun i v w'=>match i with
   | 6=>Fit 33 (MM) v w'
   | 7=>Fit 33 (SS) v w'
   | 8=>Nj CC SS v w'
   | 9=>True
   | _=>True)
  ?_ ⟨KT.drew _ _ _,dC.start HZ1.out⟩ ?_ ?_
 .intro i v w1 w2 hf hb;split at hf
  .exact hf.kt hb
  .exact hf.kt hb
  .exact hf.kt hb
  .exact hf
  .trivial
 .simp only[Bb,Nat.reduceAdd];refine⟨?_,?_,?_,?_,?_,?_,?_,?_,?_,?_,trivial⟩
  all_goals intro D sp w' hD hW hdp hbx'
  case refine_1|refine_5=>
   have c0:=(HXC.out.below hbx'.1.k.bel (by omega)).cell
   with_reducible refine Ac ?_ ?_
   all_goals simp[Region.wanted,yielded,execOp,Act.eval,Act.put,go_sem,c0]
  case refine_3=>
   have c0:=(HXK.out.below hbx'.1.k.bel (by omega)).cell
   with_reducible refine Ac ?_ ?_
   all_goals simp[Region.wanted,yielded,execOp,Act.eval,Act.put,go_sem,c0]
  case refine_6=>
   have c0:=(HXX.out.below hbx'.1.k.bel (by omega)).cell
   with_reducible refine Ac ?_ ?_
   all_goals simp[Region.wanted,yielded,execOp,Act.eval,Act.put,go_sem,c0]
  case refine_7=>
   (with_reducible refine Ab (w1:=w') (f := 47) (args:=#[.pointer (some ⟨r,0,none⟩),.agg #[.slice pc nc cc],.agg #[.slice px nx cx]]) ?_ ?_ ?_)
   .simp[Region.wanted,yielded,Act.put,go_sem]
   .simp[Act.eval,Act.put,go_sem]
   .refine(Em (HR.out w' hbx'.1) (HC.out.keep hbx'.1.k) (HX.out.keep hbx'.1.k) (by omega) (by omega)).mono ?_;rintro en w9 ⟨u,rfl,hu,hb⟩;rw[HMM.out]at hu
    exact⟨u,rfl,KT.of hb (HSB.out hbx'.1),hu,⟨hbx'.1.trans (KT.of hb (HSB.out hbx'.1)),by simpa [upd]using hbx'.2.later hb (fun o h=>h.below hb)⟩⟩
  case refine_8=>
   have k6:Fit 33 (MM) (sp 6) w':=(hdp 6 (mq (by kernel_rfl))).2
   (with_reducible refine Ab (w1:=w') (f := 46) (args:=#[.pointer (some ⟨r,0,none⟩),.agg #[.slice pk nk ck],sp 6]) ?_ ?_ ?_)
   .simp[Region.wanted,yielded,Act.put,go_sem]
   .simp[Act.eval,Act.put,go_sem]
   .refine(Jp (HR.out w' hbx'.1) (HK.out.keep hbx'.1.k) k6 (by omega) (by decide)).mono ?_;rintro en w9 ⟨u,rfl,hu,hb⟩;rw[HSS.out]at hu
    exact⟨u,rfl,KT.of hb (HSB.out hbx'.1),hu,⟨hbx'.1.trans (KT.of hb (HSB.out hbx'.1)),by simpa [upd]using hbx'.2.later hb (fun o h=>h.below hb)⟩⟩
  case refine_9=>
   have hx:∃p n c,sp 7=.agg #[.slice p n c]/\Ag w' p n c (SS)/\SS<Ao (33):=(hdp 7 (mq (by kernel_rfl))).2
   (with_reducible refine Au hx fun p hx1=>Au hx1 fun n hx2=>Au hx2 fun c hx3=>?_)
   have h1:=hx3.1
   (with_reducible refine Ai (w1:=w') (v:=.agg #[.slice pc nc cc,.slice p n c]) ?_ ?_ ?_)
   .simp only[Region.wanted]
   .simp[execOp,Act.eval,Act.put,go_sem,h1]
   .exact⟨KT.same _ _ _,⟨(pc,nc,cc),(p,n,c),rfl,Ex (HC.out.keep hbx'.1.k),hx3.2.1⟩,by simpa [upd]using hbx'⟩
  case refine_10=>
   have hx:∃x y:Option Addr×Nat×Nat,sp 8=.agg #[.slice x.1 x.2.1 x.2.2,.slice y.1 y.2.1 y.2.2]/\Eb w' x CC/\Eb w' y SS:=(hdp 8 (mq (by kernel_rfl))).2
   (with_reducible refine Au hx fun x hx1=>Au hx1 fun y hx2=>?_)
   have h1:=hx2.1;rw[hD]at hbx'
   have h5:w'.heap[(w.heap.size+1+1+1)]? = some (.cells #[.slice none 0 0,.slice none 0 0] 142 (0,0)):=hbx'.2.1 rfl;have hp:=iG (u0:=.slice x.1 x.2.1 x.2.2) (u1:=.slice y.1 y.2.1 y.2.2) h5;have hkt:=hp.kt h5 (eE (none,0,0) (none,0,0)) (Av _);have g0:=cells2 h5
   (with_reducible refine An (w1:=set2 w' (w.heap.size+1+1+1) (.slice x.1 x.2.1 x.2.2) (.slice y.1 y.2.1 y.2.2)) ?_ ?_ ?_)
   .simp only[Region.wanted]
   .simp[execOp,Act.eval,Act.put,go_sem,h1,g0.1,g0.2.1,g0.2.2,set2]
   .refine⟨hkt,trivial,hbx'.1.trans hkt,?_⟩;have h8:dC true (w.heap.size+1+1+1) zP (iB CC SS) _:=dC.done hp.new ⟨x,y,rfl,hkt.k.nat _ _ _ _ hx2.2.1,hkt.k.nat _ _ _ _ hx2.2.2⟩;simpa [upd]using h8
  all_goals ((with_reducible refine Ac ?_ ?_);all_goals first|(simp only[Region.wanted];done)|simp[Region.wanted,yielded,execOp,Act.eval,Act.put,go_sem])
 .intro sp w8 hsp hk;obtain⟨hk1,hk2⟩:=hk;obtain⟨_,hz,x,y,rfl,hC,hS⟩:=hk2.2 rfl;have g0:=cells2 hz;have k0:=g0.1.1;have k1:=g0.1.2;have HV:Ad (Nj CC SS (.agg #[.slice x.1 x.2.1 x.2.2,.slice y.1 y.2.1 y.2.2]) w8):=⟨⟨x,y,rfl,hC,hS⟩⟩
  have HB7:Ad (Below w.heap.size w w8):=⟨HB1.out.trans (hk1.k.bel.mono (by omega))⟩
  clear hsp hk1 hk2 hz hC hS g0 hz3;simp only[Am,Nat.reduceAdd];generalize sp 6=y6,sp 7=y7,sp 8=y8,sp 9=y9 at *
  go_simp
  go_wp2;exact bodyPost_ret (v:=.agg #[.slice x.1 x.2.1 x.2.2,.slice y.1 y.2.1 y.2.2]) (by simp[results,Tryz.results94,go_sem,k0,k1]) rfl ⟨_,rfl,HV.out,HB7.out⟩
end Go.Proofs.YthgoeiegdhphjaaGreatDoor
