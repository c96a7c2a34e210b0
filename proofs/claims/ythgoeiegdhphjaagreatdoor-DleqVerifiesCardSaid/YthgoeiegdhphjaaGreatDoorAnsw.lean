/- A challenge, answered (schnorr.Answered). -/
import Derived.Lib.SmallJoins
import Derived.Test.YthgoeiegdhphjaaGreatDoorSgA
set_option maxRecDepth 1000000
set_option maxHeartbeats 16000000
set_option linter.unusedSimpArgs false
set_option linter.unusedVariables false
namespace Go.Proofs.YthgoeiegdhphjaaGreatDoor
open Go Go.RowKit Go.Proofs.YthgoeiegdhphjaaGreatDoor.Flow
theorem Ih {w:World}{g:Nat}{t:TypeId}{fr:Nat×Nat}{bs:List Nat}{n:Nat}(h:w.heap[g]? = some (.cells (bs.map fun(x:Nat)=>Value.int .u8 (x:Int)).toArray t fr))(hn:n=bs.length)(hm:n<=9223372036854775807):Bf w .u8 (some ⟨g,0,none⟩) n n bs :=
 ⟨hn,Nat.le_refl _,hm,fun _=>⟨hn,Nat.le_refl _,hm,.inr ⟨g,0,rfl,(Array.getElem?_eq_some_iff.1 h).1,fun i x hx=>by
  rw[Nat.zero_add];unfold World.cell?
  dsimp only
  rw[h];simp[hx]⟩⟩⟩
def Nl (n:Nat)(bs:List Nat)(v:Value)(w:World):Prop:=∃g,v=.tuple #[.slice (some ⟨g,0,none⟩) n n,.int .i64 0]/\Bj w g 5 .u8 bs
def Nk (n:Nat)(bs:List Nat)(v:Value)(w:World):Prop:=∃g,v=.slice (some ⟨g,0,none⟩) n n/\Bj w g 5 .u8 bs
theorem Nl.below {n:Nat}{bs:List Nat}{v:Value}{w w':World}(h:Nl n bs v w)(hb:Below w.heap.size w w'):Nl n bs v w' :=
 let ⟨g,h1,h2⟩:=h
 ⟨g,h1,h2.below hb h2.lt⟩
theorem Nk.below {n:Nat}{bs:List Nat}{v:Value}{w w':World}(h:Nk n bs v w)(hb:Below w.heap.size w w'):Nk n bs v w' :=
 let ⟨g,h1,h2⟩:=h
 ⟨g,h1,h2.below hb h2.lt⟩
theorem iL {w:World}{e N s:Nat}{v:Value}(h:Fit e N v w)(he:e<=30000)(hs:s<=1000)(hl:N<B8 s) :
  Calls Tryz.prog 130 #[v,.int .i64 (s:Nat)] w fun en w'=>∃x,en=.returned x/\Nl s (Au N s) x w'/\Below w.heap.size w w':=by
 obtain⟨p,n,c,rfl,h1,h2⟩:=h;have l1:=h1.len_le h2;have l2:=Fq h2;have l3:=Hw.2 hl;refine(Pj w p n c N s h1 (by omega) (by omega) (by omega) (by omega)).mono ?_;rintro en w' ⟨g,rfl,hb,hbel,_⟩;exact⟨_,rfl,⟨g,rfl,hb⟩,hbel⟩
theorem Ji {w:World}{g n N:Nat}(h:Bj w g 5 .u8 (Au N n))(hn:n<=1000):Ar w ⟨some ⟨g,0,none⟩,n,n,Au N n⟩ :=
 ⟨⟨(Br N n).symm,Nat.le_refl _,Nat.le_trans hn (by decide),fun _=>h.row (Br N n).symm (Nat.le_refl _) (Nat.le_trans hn (by decide))⟩,(Fb N n).reverse⟩
theorem qF (w:World)(P Q R S:Part)(hP:Ar w P)(hQ:Ar w Q)(hR:Ar w R)(hS:Ar w S):Bp (w.alloc (.cells #[.slice P.p P.n P.c,.slice Q.p Q.n Q.c,.slice R.p R.n R.c,.slice S.p S.n S.c] 60)) (some ⟨w.heap.size,0,none⟩) 4 4 [P,Q,R,S]:=by
 have hb:Below w.heap.size w (w.alloc (.cells #[.slice P.p P.n P.c,.slice Q.p Q.n Q.c,.slice R.p R.n R.c,.slice S.p S.n S.c] 60)):=Bt;have hn:=heap_alloc_new w (.cells #[.slice P.p P.n P.c,.slice Q.p Q.n Q.c,.slice R.p R.n R.c,.slice S.p S.n S.c] 60);refine⟨rfl,Nat.le_refl _,by omega,fun i X hX=>?_,fun _=>⟨w.heap.size,0,rfl,by simp,fun i X hX=>?_⟩⟩
 .match i,hX with
  | 0,h=>cases h;exact hP.below hb
  | 1,h=>cases h;exact hQ.below hb
  | 2,h=>cases h;exact hR.below hb
  | 3,h=>cases h;exact hS.below hb
 .match i,hX with
  | 0,h=>cases h;unfold World.cell?;dsimp only;rw[hn];rfl
  | 1,h=>cases h;unfold World.cell?;dsimp only;rw[hn];rfl
  | 2,h=>cases h;unfold World.cell?;dsimp only;rw[hn];rfl
  | 3,h=>cases h;unfold World.cell?;dsimp only;rw[hn];rfl
structure KC (B:Nat) (w w':World):Prop where
 bel:Below B w w'
 cell:∀p v,w.cell? p=some v->w'.cell? p=some v
 shape:∀g s,w.shape? g=some s->w'.shape? g=some s
theorem Py {w w':World}(h:Below w.heap.size w w'){g:Nat}{s:TypeId×Nat}(hs:w.shape? g=some s):w'.shape? g=some s:=by
 have hg:g<w.heap.size:=by
  rcases Nat.lt_or_ge g w.heap.size with k|k
  .exact k
  .unfold World.shape? at hs;rw[Array.getElem?_eq_none k]at hs
   cases hs
 unfold World.shape? at *;rw[h.block g hg];exact hs
theorem cell_below {w w':World}(h:Below w.heap.size w w'){p:Addr}{v:Value}(hp:w.cell? p=some v):w'.cell? p=some v:=by
 have hg:p.block<w.heap.size:=by
  rcases Nat.lt_or_ge p.block w.heap.size with k|k
  .exact k
  .unfold World.cell? at hp;rw[Array.getElem?_eq_none k]at hp
   cases hp
 rw[h.cell (p:=p) hg];exact hp
theorem KC.of {B:Nat}{w w':World}(h:Below w.heap.size w w')(hB:B<=w.heap.size):KC B w w':=⟨h.mono hB,fun _ _ hp=>cell_below h hp,fun _ _ hs=>Py h hs⟩
theorem KC.same (B:Nat)(w:World):KC B w w:=⟨Below.refl _ _,fun _ _ h=>h,fun _ _ h=>h⟩
theorem KC.trans {B:Nat}{w1 w2 w3:World}(h:KC B w1 w2)(k:KC B w2 w3):KC B w1 w3:=⟨h.bel.trans k.bel,fun p v x=>k.cell p v (h.cell p v x),fun g s x=>k.shape g s (h.shape g s x)⟩
theorem KC.drew (B:Nat)(w:World):KC B w w.drew:=⟨(Below.refl _ _).drew,fun _ _ h=>h,fun _ _ h=>h⟩
theorem Ld (w:World)(a:Addr)(n:Nat)(p:Addr):(w.freeze a n).cell? p=w.cell? p:=by
 unfold World.freeze;split
 .rfl
 .unfold World.cell?;simp only[Array.getElem?_modify]
  by_cases h:a.block=p.block
  .simp only[h,if_true]
   cases w.heap[p.block]? with
   | none=>rfl
   | some o=>cases o<;>rfl
  .simp only[h,if_false]
theorem Og (w:World)(a:Addr)(n:Nat)(g:Nat):(w.freeze a n).shape? g=w.shape? g:=by
 unfold World.freeze;split
 .rfl
 .unfold World.shape?;simp only[Array.getElem?_modify]
  by_cases h:a.block=g
  .simp only[h,if_true]
   cases w.heap[g]? with
   | none=>rfl
   | some o=>cases o<;>rfl
  .simp only[h,if_false]
theorem KC.mark {B g:Nat}{w:World}(k:Nat)(hB:B<=g):KC B w (w.freeze ⟨g,k,none⟩ 1) :=
 ⟨⟨rfl,rfl,rfl,by simp[World.freeze],fun j hj=>by
  unfold World.freeze;simp only[Nat.one_ne_zero,if_false,Array.getElem?_modify];rw[if_neg (by omega)]⟩,fun p v h=>by rw[Ld];exact h,fun j s h=>by rw[Og];exact h⟩
theorem run_mark {w:World}{g n c k:Nat}(hs:w.shape? g=some (5,k)):(convert 60 60 (.slice (some ⟨g,0,none⟩) n c)).run Tryz.prog w=.ok (.slice (some ⟨g,0,none⟩) n c) (w.freeze ⟨g,k,none⟩ 1):=by
 simp[convert,run_underlying Tryz.underlying60,run_underlying Tryz.underlying5,markStringish,hs]
theorem Row.kc {B:Nat}{w w':World}{k:IntKind}{p:Option Addr}{n c:Nat}{xs:List Nat}(h:Row w k p n c xs)(hk:KC B w w'):Row w' k p n c xs:=by
 refine⟨h.len,h.cap,h.max,?_⟩;rcases h.at_ with h1|⟨b,off,h1,h2,h3⟩
 .exact .inl h1
 .exact .inr ⟨b,off,h1,Nat.lt_of_lt_of_le h2 hk.bel.size,fun i x hx=>hk.cell _ _ (h3 i x hx)⟩
theorem Ar.kc {B:Nat}{w w':World}{P:Part}(h:Ar w P)(hk:KC B w w'):Ar w' P:=⟨⟨h.row.len,h.row.cap,h.row.max,fun h0=>(h.row.row h0).kc hk⟩,h.bytes⟩
theorem Bp.kc {B:Nat}{w w':World}{p:Option Addr}{n c:Nat}{L:List Part}(h:Bp w p n c L)(hk:KC B w w'):Bp w' p n c L :=
 ⟨h.len,h.cap,h.max,fun i P hP=>(h.ok i P hP).kc hk,fun h0=>by
  obtain⟨b,off,h1,h2,h3⟩:=h.cells h0;exact⟨b,off,h1,Nat.lt_of_lt_of_le h2 hk.bel.size,fun i P hP=>hk.cell _ _ (h3 i P hP)⟩⟩
theorem pX {P Q R S:Part}(h1:P.p=none->P.c=0)(h2:Q.p=none->Q.c=0)(h3:R.p=none->R.c=0)(h4:S.p=none->S.c=0):Iv [P,Q,R,S]:=fun X hX=>by
 simp only[List.mem_cons,List.not_mem_nil,or_false]at hX;rcases hX with rfl|rfl|rfl|rfl
 .exact h1
 .exact h2
 .exact h3
 .exact h4
theorem Nf {w:World}{e N s:Nat}{v:Value}(h:Fit e N v w)(he:e<=30000)(hs:s<=1000)(hl:N<B8 s) :
  Calls Tryz.prog 130 #[v,.int .i64 (s:Nat)] w fun en w'=>∃g,en=.returned (.tuple #[.slice (some ⟨g,0,none⟩) s s,.int .i64 0])/\Bj w' g 5 .u8 (Au N s)/\w.heap.size<=g/\Below w.heap.size w w':=by
 obtain⟨p,n,c,rfl,h1,h2⟩:=h;have l1:=h1.len_le h2;have l2:=Fq h2;have l3:=Hw.2 hl;refine(Pj w p n c N s h1 (by omega) (by omega) (by omega) (by omega)).mono ?_;rintro en w' ⟨g,rfl,hb,hbel,hn⟩;exact⟨g,rfl,hb,hn,hbel⟩
def Vt (B n:Nat)(bs:List Nat)(v:Value)(w:World):Prop:=∃g,v=.tuple #[.slice (some ⟨g,0,none⟩) n n,.int .i64 0]/\B<=g/\Bj w g 5 .u8 bs
def Tp (B n:Nat)(bs:List Nat)(v:Value)(w:World):Prop:=∃g,v=.slice (some ⟨g,0,none⟩) n n/\B<=g/\Bj w g 5 .u8 bs
theorem Vt.below {B n:Nat}{bs:List Nat}{v:Value}{w w':World}(h:Vt B n bs v w)(hb:Below w.heap.size w w'):Vt B n bs v w' :=
 let ⟨g,h1,h2,h3⟩:=h
 ⟨g,h1,h2,h3.below hb h3.lt⟩
theorem Tp.below {B n:Nat}{bs:List Nat}{v:Value}{w w':World}(h:Tp B n bs v w)(hb:Below w.heap.size w w'):Tp B n bs v w' :=
 let ⟨g,h1,h2,h3⟩:=h
 ⟨g,h1,h2,h3.below hb h3.lt⟩
theorem Mv {w:World}{b P Q G H e A sz:Nat}{v:Value}(hg:Ax w b P Q G H)(hv:Fit e A v w)(he:e<=30000)(hA:A<P)(hsz:Am P=sz)(hs:sz<=16) :
  Calls Tryz.prog 148 #[.pointer (some ⟨b,0,none⟩),v] w fun en w'=>∃g,en=.returned (.slice (some ⟨g,0,none⟩) sz sz)/\w.heap.size<=g/\Bj w' g 5 .u8 (Au A sz)/\Below w.heap.size w w':=by
 obtain⟨pa,na,ca,rfl,h1,h2⟩:=Av hv;have hX0:=Af.made w (.slice pa na ca);have hb0:Below w.heap.size w (w.alloc (.cells #[.slice pa na ca] 36)):=Bt;obtain⟨wa,hwa⟩:∃wa,w.alloc (.cells #[.slice pa na ca] 36)=wa:=⟨_,rfl⟩
 rw[hwa]at hX0 hb0
 have HBL:=Ac hb0;have HX0:=Ac hX0;have HA:=Ac ((Fit.of h1 h2).below hb0);have HG:=Ac (hg.below hb0);have hlm:=Gp P;rw[hsz]at hlm
 have HSZ:=Ac hsz;have HLM:Aa (A<B8 sz):=⟨by omega⟩
 clear h1 h2 hX0 hb0 hg hv hsz hlm hA;go_enter Tryz.func148,Tryz.ntmps148;go_wp2;refine Ai (by kernel_rfl) (by kernel_rfl)
  [some (.agg #[.slice pa na ca]),some (.pointer (some ⟨b,0,none⟩)),none,none,none,none,some (.int .i64 0),none,some (.int .i64 0)]
  [false,false,true,true,true,true,false,true,false] rfl
  (fun w1 w2=>Below w1.heap.size w1 w2)
  (fun _ w'=>Below wa.heap.size wa w')
  (fun i v w'=>match i with
   | 2=>v=.int .i64 (sz:Nat)
   | 3=>Vt w.heap.size (sz) (Au A sz) v w'
   | 4=>Vt w.heap.size (sz) (Au A sz) v w'
   | 5=>Tp w.heap.size (sz) (Au A sz) v w'
   | 7=>Tp w.heap.size (sz) (Au A sz) v w'
   | _=>True)
  ?_ (Below.refl _ _).drew ?_ ?_
 .intro i v w1 w2 hf hb;split at hf
  .exact hf
  .exact hf.below hb
  .exact hf.below hb
  .exact hf.below hb
  .exact hf.below hb
  .trivial
 .simp only[Ba,Nat.reduceAdd];refine⟨?_,?_,?_,?_,?_,?_,?_,?_,?_,trivial⟩
  all_goals intro D sp w' hD hW hdp hbx'
  case refine_1 =>
   have c0:=(HX0.out.below hbx' HX0.out.lt).cell
   with_reducible refine Ad ?_ ?_
   all_goals simp[Region.wanted,yielded,execOp,Act.eval,Act.put,go_sem,c0]
  case refine_3 =>
   (with_reducible refine Ab (w1:=w') (f := 193) (args:=#[.pointer (some ⟨b,0,none⟩)]) ?_ ?_ ?_)
   .simp[Region.wanted,yielded,Act.put,go_sem]
   .simp[Act.eval,Act.put,go_sem]
   .refine(gX (HG.out.below hbx')).mono ?_;rintro en w9 ⟨rfl,hb⟩;rw[HSZ.out];exact⟨_,rfl,hb,rfl,Ae hbx' hb⟩
  case refine_4 =>
   have k2:(sp 2)=.int .i64 (sz:Nat):=(hdp 2 (mq (by kernel_rfl))).2
   (with_reducible refine Ab (w1:=w') (f := 130) (args:=#[.agg #[.slice pa na ca],.int .i64 (sz:Nat)]) ?_ ?_ ?_)
   .first|(simp only[Region.wanted];done)|simp[Region.wanted,yielded,Act.put,go_sem,k2]
   .simp[Act.eval,Act.put,go_sem,k2]
   .refine(Nf (HA.out.below hbx') he (by omega) HLM.out).mono ?_;rintro en w9 ⟨g9,rfl,hu,hg9,hb⟩;exact⟨_,rfl,hb,⟨g9,rfl,Nat.le_trans HBL.out.size (Nat.le_trans hbx'.size hg9),hu⟩,Ae hbx' hb⟩
  case refine_5 =>
   have k3:Vt w.heap.size (sz) (Au A sz) (sp 3) w':=(hdp 3 (mq (by kernel_rfl))).2
   (with_reducible refine Ag (w1:=w') (v:=sp 3) ?_ ?_ ?_)
   .simp[Region.wanted,yielded,Act.put,go_sem]
   .simp[execOp,Act.eval,Act.put,go_sem]
   .exact⟨Below.refl _ _,k3,hbx'⟩
  case refine_6 =>
   have hx:∃g,sp 4=.tuple #[.slice (some ⟨g,0,none⟩) (sz) (sz),.int .i64 0]/\w.heap.size<=g/\Bj w' g 5 .u8 (Au A sz):=(hdp 4 (mq (by kernel_rfl))).2
   (with_reducible refine Exists.elim hx fun g hx1=>?_)
   have h1:=hx1.1
   (with_reducible refine Ag (w1:=w') (v:=.slice (some ⟨g,0,none⟩) (sz) (sz)) ?_ ?_ ?_)
   .simp only[Region.wanted]
   .simp[execOp,Act.eval,Act.put,go_sem,h1]
   .exact⟨Below.refl _ _,⟨g,rfl,hx1.2⟩,hbx'⟩
  case refine_7 =>
   have hx:∃g,sp 4=.tuple #[.slice (some ⟨g,0,none⟩) (sz) (sz),.int .i64 0]/\w.heap.size<=g/\Bj w' g 5 .u8 (Au A sz):=(hdp 4 (mq (by kernel_rfl))).2
   (with_reducible refine Exists.elim hx fun g hx1=>?_)
   have h1:=hx1.1
   with_reducible refine Ad ?_ ?_
   all_goals simp[Region.wanted,yielded,execOp,Act.eval,Act.put,go_sem,h1]
  case refine_8 =>
   have k5:Tp w.heap.size (sz) (Au A sz) (sp 5) w':=(hdp 5 (mq (by kernel_rfl))).2
   (with_reducible refine Ag (w1:=w') (v:=sp 5) ?_ ?_ ?_)
   .simp[Region.wanted,yielded,Act.put,go_sem]
   .simp[execOp,Act.eval,Act.put,go_sem]
   .exact⟨Below.refl _ _,k5,hbx'⟩
  all_goals ((with_reducible refine Ad ?_ ?_);all_goals first|(simp only[Region.wanted];done)|simp[Region.wanted,yielded,execOp,Act.eval,Act.put,go_sem])
 .intro sp w1 hsp hb1;obtain⟨ga,e7,hga,hk7⟩:Tp w.heap.size sz (Au A sz) (sp 7) w1:=hsp 7 rfl;have HKA:=Ac hk7;have HGA:=Ac hga;have HBL1:=Ac (Ae HBL.out hb1);clear hsp hb1 hk7 hga;simp only[An,Nat.reduceAdd];rw[e7];clear e7 hwa;generalize sp 2=y2,sp 3=y3,sp 4=y4,sp 5=y5 at *
  go_simp
  go_wp2;go_ret;exact⟨ga,rfl,HGA.out,HKA.out,HBL1.out⟩
structure KT (T:TypeId) (B:Nat) (w w':World):Prop where
 k:Ap B w w'
 blk:∀(g:Nat) (vs:Array Value) (U:TypeId) (m:Nat×Nat),w.heap[g]? = some (.cells vs U m)->(U≠T ∨ ∃(j:Nat) (u:Value),vs[j]? = some u/\∀q k d,u≠Value.slice q k d)->w'.heap[g]? = some (.cells vs U m)
theorem KT.of {T:TypeId}{B:Nat}{w w':World}(h:Below w.heap.size w w')(hB:B<=w.heap.size):KT T B w w' :=
 ⟨Ap.of h hB,fun g _ _ _ ho _=>by rw[h.block g (Array.getElem?_eq_some_iff.1 ho).1];exact ho⟩
theorem KT.same (T:TypeId)(B:Nat)(w:World):KT T B w w:=⟨Ap.same _ _,fun _ _ _ _ h _=>h⟩
theorem Fit.kt {T:TypeId}{e N B:Nat}{v:Value}{w w':World}(h:Fit e N v w)(k:KT T B w w'):Fit e N v w':=h.keep k.k
theorem KT.trans {T:TypeId}{B:Nat}{w1 w2 w3:World}(h:KT T B w1 w2)(k:KT T B w2 w3):KT T B w1 w3:=⟨h.k.trans k.k,fun _ _ _ _ ho hU=>k.blk _ _ _ _ (h.blk _ _ _ _ ho hU) hU⟩
theorem KT.drew (T:TypeId)(B:Nat)(w:World):KT T B w w.drew:=⟨Ap.drew _ _,fun _ _ _ _ h _=>h⟩
theorem Ring.kt {T:TypeId}{B r M f:Nat}{w w':World}(h:Ring w r M f)(k:KT T B w w')(hT : 132 ≠ T):Ring w' r M f:=by
 obtain⟨p,n,c,h1,h2,h3⟩:=h.at_.ex
 exact⟨⟨p,n,c,k.blk _ _ _ _ h1 (.inl hT),k.k.nat _ _ _ _ h2,h3⟩,h.two,h.lim,h.few⟩
theorem Ah.off {w w':World}{p:Option Addr}{n c N b:Nat}{vs:Array Value}{T:TypeId}{m:Nat×Nat}(h:Ah w p n c N)(hb:w.heap[b]? = some (.cells vs T m))(hs:∀(j:Nat) (u:Value),vs[j]? = some u->∃q k d,u=.slice q k d)(hz:w.heap.size<=w'.heap.size)(ho:∀g,g≠b->w'.heap[g]? = w.heap[g]?):Ah w' p n c N:=by
 rcases Nat.eq_zero_or_pos n with rfl|h0
 .obtain⟨ws,r1,r2,r3,r4⟩:=h.ex;refine⟨ws,⟨r1.len,r1.cap,r1.max,?_⟩,r2,r3,r4⟩;rcases r1.at_ with k|⟨g,off,k1,k2,k3⟩
  .exact .inl k
  .refine .inr ⟨g,off,k1,Nat.lt_of_lt_of_le k2 hz,fun i x hx=>?_⟩;have:ws=[]:=List.eq_nil_of_length_eq_zero r1.len.symm;rw[this]at hx;cases hx
 .refine Hi.stay h hz fun q hq o=>World.cell?_of_block (a:=⟨q.block,o,none⟩) (ho q.block fun e=>?_)
  obtain⟨ws,r1,r2,r3,r4⟩:=h.ex;obtain⟨b',off,k1,k2,k3⟩:=r1.pos h0;rw[k1]at hq;cases hq
  have hbb:b'=b:=e;subst hbb;have h1:=k3 0 (ws.getD 0 0) (by rw[List.getD_eq_getElem?_getD];simp[show 0<ws.length by rw[<- r1.len];exact h0]);rw[Nat.add_zero]at h1
  simp only[World.cell?,hb]at h1;obtain⟨q,k,d,hu⟩:=hs _ _ h1;cases hu
theorem Bf.kt {T:TypeId}{B n c:Nat}{p:Option Addr}{xs:List Nat}{k:IntKind}{w w':World}(h:Bf w k p n c xs)(hk:KT T B w w'):Bf w' k p n c xs:=by
 refine⟨h.len,h.cap,h.max,fun h0=>?_⟩;obtain⟨k1,k2,k3,k4⟩:=h.row h0;refine⟨k1,k2,k3,?_⟩;rcases k4 with e|⟨b,off,h1,h2,h3⟩
 .exact .inl e
 .refine .inr ⟨b,off,h1,Nat.lt_of_lt_of_le h2 hk.k.bel.size,fun i x hx=>?_⟩;have hc:=h3 i x hx;have hblk:w'.heap[b]? = w.heap[b]? := by
   unfold World.cell? at hc
   dsimp only at hc
   cases ho:w.heap[b]? with
   | none=>rw[ho]at hc;cases hc
   | some o =>
    rw[ho]at hc
    cases o with
    | cells vs U m=>exact hk.blk b vs U m ho (.inr ⟨_,_,hc,fun _ _ _ e=>by cases e⟩)
    | _=>cases hc
  rw[World.cell?_of_block (a:=⟨b,off+i,none⟩) hblk];exact hc
theorem Cs.kt {T:TypeId}{B lo:Nat}{bs:List Nat}{v:Value}{w w':World}(h:Cs lo bs v w)(hk:KT T B w w'):Cs lo bs v w':=by
 cases h with
 | of p c _ h hn hz hp=>exact .of p c w' (h.kt hk) hn hz (fun q hq=>Nat.lt_of_lt_of_le (hp q hq) hk.k.bel.size)
def set2 (w:World)(b:Nat)(u0 u1:Value):World:=(w.setCell ⟨b,0,none⟩ u0).setCell ⟨b,1,none⟩ u1
def Tu (w:World)(b:Nat)(u0 u1 u2 u3:Value):World:=(((w.setCell ⟨b,0,none⟩ u0).setCell ⟨b,1,none⟩ u1).setCell ⟨b,2,none⟩ u2).setCell ⟨b,3,none⟩ u3
structure dR (w:World) (b:Nat) (o:Obj) (w':World):Prop where
 new:w'.heap[b]? = some o
 old:∀g,g≠b->w'.heap[g]? = w.heap[g]?
 size:w'.heap.size=w.heap.size
 bel:∀B,B<=b->Below B w w'
theorem sA {w:World}{b:Nat}{v0 v1 u0 u1:Value}{T:TypeId}(h:w.heap[b]? = some (.cells #[v0,v1] T (0,0))):dR w b (.cells #[u0,u1] T (0,0)) (set2 w b u0 u1) :=
 ⟨by simp[set2,World.setCell,Array.getElem?_modify,h],fun g hg=>by simp[set2,World.setCell,Array.getElem?_modify,hg.symm],by simp[set2],fun B hB=>(((Below.refl _ _).setCell hB _).setCell hB _)⟩
theorem put4 {w:World}{b:Nat}{v0 v1 v2 v3 u0 u1 u2 u3:Value}{T:TypeId}(h:w.heap[b]? = some (.cells #[v0,v1,v2,v3] T (0,0))):dR w b (.cells #[u0,u1,u2,u3] T (0,0)) (Tu w b u0 u1 u2 u3) :=
 ⟨by simp[Tu,World.setCell,Array.getElem?_modify,h],fun g hg=>by simp[Tu,World.setCell,Array.getElem?_modify,hg.symm],by simp[Tu],fun B hB=>(((((Below.refl _ _).setCell hB _).setCell hB _).setCell hB _).setCell hB _)⟩
theorem dR.keep {w w':World}{b B:Nat}{o:Obj}{vs:Array Value}{T:TypeId}{m:Nat×Nat}(h:dR w b o w')(hb:w.heap[b]? = some (.cells vs T m))(hs:∀(j:Nat) (u:Value),vs[j]? = some u->∃q k d,u=.slice q k d)(hB:B<=b):Ap B w w' :=
 ⟨h.bel B hB,fun _ _ _ _ k=>k.off hb hs (Nat.le_of_eq h.size.symm) h.old⟩
theorem dR.kt {w w':World}{b B:Nat}{o:Obj}{vs:Array Value}{T:TypeId}{m:Nat×Nat}(h:dR w b o w')(hb:w.heap[b]? = some (.cells vs T m))(hs:∀(j:Nat) (u:Value),vs[j]? = some u->∃q k d,u=.slice q k d)(hB:B<=b):KT T B w w' :=
 ⟨h.keep hb hs hB,fun g us U k ho hU=>by
  have:g≠b:=fun e=>by
   subst e;rw[hb]at ho
   cases ho;rcases hU with hU|⟨j,u,hj,hu⟩
   .exact hU rfl
   .obtain⟨_,_,_,hx⟩:=hs _ _ hj;exact hu _ _ _ hx
  rw[h.old g this];exact ho⟩
theorem RG.putO {B:Nat}{wx:World}{l:List (Nat×Obj)}{w w':World}{b:Nat}{o:Obj}{vs:Array Value}{T:TypeId}{m:Nat×Nat}(h:RG B wx l w)(p:dR w b o w')(hb:w.heap[b]? = some (.cells vs T m))(hs:∀(j:Nat) (u:Value),vs[j]? = some u->∃q k d,u=.slice q k d)(hB:B<=b)(hn:∀x∈l,x.1≠b):RG B wx l w' :=
 ⟨h.keep.trans (p.keep hb hs hB),by rw[p.size];exact h.base,fun x hx=>by rw[p.old x.1 (hn x hx)];exact h.blk x hx⟩
theorem nZ (x y:Option Addr×Nat×Nat):∀(j:Nat) (u:Value),(#[Value.slice x.1 x.2.1 x.2.2,.slice y.1 y.2.1 y.2.2]:Array Value)[j]? = some u->∃q k d,u=.slice q k d
 | 0,u,h=>by cases h;exact⟨_,_,_,rfl⟩
 | 1,u,h=>by cases h;exact⟨_,_,_,rfl⟩
 | j+2,u,h=>by simp at h
theorem Wb (x y z t:Option Addr×Nat×Nat):∀(j:Nat) (u:Value),(#[Value.slice x.1 x.2.1 x.2.2,.slice y.1 y.2.1 y.2.2,.slice z.1 z.2.1 z.2.2,.slice t.1 t.2.1 t.2.2]:Array Value)[j]? = some u->∃q k d,u=.slice q k d
 | 0,u,h=>by cases h;exact⟨_,_,_,rfl⟩
 | 1,u,h=>by cases h;exact⟨_,_,_,rfl⟩
 | 2,u,h=>by cases h;exact⟨_,_,_,rfl⟩
 | 3,u,h=>by cases h;exact⟨_,_,_,rfl⟩
 | j+4,u,h=>by simp at h
def Tr (f:Bool)(b:Nat)(z:Obj)(F:Obj->World->Prop)(w:World):Prop:=(f=false->w.heap[b]? = some z)/\(f=true->∃o,w.heap[b]? = some o/\F o w)
theorem Tr.later {f:Bool}{b:Nat}{z:Obj}{F:Obj->World->Prop}{w w':World}(h:Tr f b z F w)(hb:Below w.heap.size w w')(hF:∀o,F o w->F o w'):Tr f b z F w' :=
 ⟨fun e=>by have:=h.1 e;rw[hb.block b (Array.getElem?_eq_some_iff.1 this).1];exact this,fun e=>by
  obtain⟨o,h1,h2⟩:=h.2 e;exact⟨o,by rw[hb.block b (Array.getElem?_eq_some_iff.1 h1).1];exact h1,hF o h2⟩⟩
theorem Tr.start {b:Nat}{z:Obj}{F:Obj->World->Prop}{w:World}(h:w.heap[b]? = some z):Tr false b z F w:=⟨fun _=>h,fun e=>by cases e⟩
theorem Tr.done {b:Nat}{z o:Obj}{F:Obj->World->Prop}{w:World}(h:w.heap[b]? = some o)(hF:F o w):Tr true b z F w:=⟨(fun e=>by cases e),fun _=>⟨o,h,hF⟩⟩
def iX (d f:Bool)(v:Value)(B:Nat)(z:Obj)(F:Obj->World->Prop)(w:World):Prop:=B<=w.heap.size/\(d=true->∃b,v=.pointer (some ⟨b,0,none⟩)/\B<=b/\Tr f b z F w)
theorem iX.start {v:Value}{B:Nat}{z:Obj}{F:Obj->World->Prop}{w:World}(h:B<=w.heap.size):iX false false v B z F w:=⟨h,fun e=>by cases e⟩
theorem iX.later {d f:Bool}{v:Value}{B:Nat}{z:Obj}{F:Obj->World->Prop}{w w':World}(h:iX d f v B z F w)(hb:Below w.heap.size w w')(hF:∀o,F o w->F o w'):iX d f v B z F w' :=
 ⟨Nat.le_trans h.1 hb.size,fun e=>let ⟨b,h1,h2,h3⟩:=h.2 e;⟨b,h1,h2,h3.later hb hF⟩⟩
theorem iX.made {v:Value}{B:Nat}{vs:Array Value}{T:TypeId}{F:Obj->World->Prop}{w:World}(h:iX false false v B (.cells vs T (0,0)) F w):iX true false (.pointer (some ⟨w.heap.size,0,none⟩)) B (.cells vs T (0,0)) F (w.alloc (.cells vs T)) :=
 ⟨by simp;have:=h.1;omega,fun _=>⟨_,rfl,h.1,Tr.start (heap_alloc_new w _)⟩⟩
def AtC (A B Y Z:Nat)(a b y z:Option Addr×Nat×Nat)(w:World):Prop:=Dv w a A/\Dv w b B/\Dv w y Y/\Dv w z Z
theorem AtC.below {A B Y Z:Nat}{a b y z:Option Addr×Nat×Nat}{w w':World}(h:AtC A B Y Z a b y z w)(hb:Below w.heap.size w w'):AtC A B Y Z a b y z w':=⟨h.1.below hb,h.2.1.below hb,h.2.2.1.below hb,h.2.2.2.below hb⟩
theorem AtC.keep {A B Y Z C:Nat}{a b y z:Option Addr×Nat×Nat}{w w':World}(h:AtC A B Y Z a b y z w)(k:Ap C w w'):AtC A B Y Z a b y z w':=⟨k.nat _ _ _ _ h.1,k.nat _ _ _ _ h.2.1,k.nat _ _ _ _ h.2.2.1,k.nat _ _ _ _ h.2.2.2⟩
theorem AtC.kt {T:TypeId}{A B Y Z C:Nat}{a b y z:Option Addr×Nat×Nat}{w w':World}(h:AtC A B Y Z a b y z w)(k:KT T C w w'):AtC A B Y Z a b y z w':=h.keep k.k
def pO (A B Y Z:Nat)(v:Value)(w:World):Prop:=∃xa xb xy xz:Option Addr×Nat×Nat,v=.agg #[.slice xa.1 xa.2.1 xa.2.2,.slice xb.1 xb.2.1 xb.2.2,.slice xy.1 xy.2.1 xy.2.2,.slice xz.1 xz.2.1 xz.2.2]/\AtC A B Y Z xa xb xy xz w
theorem pO.below {A B Y Z:Nat}{v:Value}{w w':World}(h:pO A B Y Z v w)(hb:Below w.heap.size w w'):pO A B Y Z v w' :=
 let ⟨a,b,y,z,h1,h2⟩:=h
 ⟨a,b,y,z,h1,h2.below hb⟩
theorem pO.kt {T:TypeId}{A B Y Z C:Nat}{v:Value}{w w':World}(h:pO A B Y Z v w)(k:KT T C w w'):pO A B Y Z v w' :=
 let ⟨a,b,y,z,h1,h2⟩:=h
 ⟨a,b,y,z,h1,h2.kt k⟩
def qY (T:TypeId)(A B Y Z:Nat)(o:Obj)(w:World):Prop:=∃xa xb xy xz:Option Addr×Nat×Nat,o=.cells #[.slice xa.1 xa.2.1 xa.2.2,.slice xb.1 xb.2.1 xb.2.2,.slice xy.1 xy.2.1 xy.2.2,.slice xz.1 xz.2.1 xz.2.2] T (0,0)/\AtC A B Y Z xa xb xy xz w
theorem qY.below {T:TypeId}{A B Y Z:Nat}{o:Obj}{w w':World}(hb:Below w.heap.size w w')(h:qY T A B Y Z o w):qY T A B Y Z o w' :=
 let ⟨a,b,y,z,h1,h2⟩:=h
 ⟨a,b,y,z,h1,h2.below hb⟩
def z4 (T:TypeId):Obj:=.cells #[.slice none 0 0,.slice none 0 0,.slice none 0 0,.slice none 0 0] T (0,0)
theorem cells4 {w:World}{b:Nat}{v0 v1 v2 v3:Value}{T:TypeId}(h:w.heap[b]? = some (.cells #[v0,v1,v2,v3] T (0,0))) :
  (w.cell? ⟨b,0,none⟩=some v0/\w.cell? ⟨b,1,none⟩=some v1/\w.cell? ⟨b,2,none⟩=some v2/\w.cell? ⟨b,3,none⟩=some v3)/\w.frozen? ⟨b,0,none⟩=false/\w.frozen? ⟨b,1,none⟩=false/\w.frozen? ⟨b,2,none⟩=false/\w.frozen? ⟨b,3,none⟩=false:=by
 simp[World.cell?,World.frozen?,h]
def Pn (C S:Nat)(v:Value)(w:World):Prop:=∃x y:Option Addr×Nat×Nat,v=.agg #[.slice x.1 x.2.1 x.2.2,.slice y.1 y.2.1 y.2.2]/\Dv w x C/\Dv w y S
theorem Pn.below {C S:Nat}{v:Value}{w w':World}(h:Pn C S v w)(hb:Below w.heap.size w w'):Pn C S v w' :=
 let ⟨x,y,h1,h2,h3⟩:=h
 ⟨x,y,h1,h2.below hb,h3.below hb⟩
theorem Pn.keep {B C S:Nat}{v:Value}{w w':World}(h:Pn C S v w)(k:Ap B w w'):Pn C S v w' :=
 let ⟨x,y,h1,h2,h3⟩:=h
 ⟨x,y,h1,k.nat _ _ _ _ h2,k.nat _ _ _ _ h3⟩
theorem Pn.kt {T:TypeId}{B C S:Nat}{v:Value}{w w':World}(h:Pn C S v w)(k:KT T B w w'):Pn C S v w':=h.keep k.k
def rT (C S:Nat)(o:Obj)(w:World):Prop:=∃x y:Option Addr×Nat×Nat,o=.cells #[.slice x.1 x.2.1 x.2.2,.slice y.1 y.2.1 y.2.2] 142 (0,0)/\Dv w x C/\Dv w y S
theorem rT.below {C S:Nat}{o:Obj}{w w':World}(hb:Below w.heap.size w w')(h:rT C S o w):rT C S o w' :=
 let ⟨x,y,h1,h2,h3⟩:=h
 ⟨x,y,h1,h2.below hb,h3.below hb⟩
def zP:Obj:=.cells #[.slice none 0 0,.slice none 0 0] 142 (0,0)
theorem cells2 {w:World}{b:Nat}{v0 v1:Value}{T:TypeId}(h:w.heap[b]? = some (.cells #[v0,v1] T (0,0))):(w.cell? ⟨b,0,none⟩=some v0/\w.cell? ⟨b,1,none⟩=some v1)/\w.frozen? ⟨b,0,none⟩=false/\w.frozen? ⟨b,1,none⟩=false :=
 ⟨⟨by simp[World.cell?,h],by simp[World.cell?,h]⟩,by simp[World.frozen?,h],by simp[World.frozen?,h]⟩
theorem Xr {w:World}{b P Q G H ek ec ex K C X:Nat}{vk vc vx:Value}(hg:Ax w b P Q G H)(hk:Fit ek K vk w)(hc:Fit ec C vc w)(hx:Fit ex X vx w)(hek:ek<=33)(hec:ec<=33)(hex:ex<=30000) :
  Calls Tryz.prog 94 #[.pointer (some ⟨b,0,none⟩),vk,vc,vx] w fun en w'=>∃x,en=.returned x/\Pn C ((K+C*X%Q)%Q) x w'/\Below w.heap.size w w':=by
 obtain⟨pk,nk,ck,rfl,h1,h2⟩:=Av hk;obtain⟨pc,nc,cc,rfl,h3,h4⟩:=Av hc;obtain⟨px,nx,cx,rfl,h5,h6⟩:=Av hx;have hbx:=Xy.mk3 w (.slice pk nk ck) (.slice pc nc cc) (.slice px nx cx);have hz3:(((w.alloc (.cells #[.slice pk nk ck] 36)).alloc (.cells #[.slice pc nc cc] 36)).alloc (.cells #[.slice px nx cx] 36)).heap.size=w.heap.size+1+1+1:=by simp
 obtain⟨w0,hw0⟩:∃wa,((w.alloc (.cells #[.slice pk nk ck] 36)).alloc (.cells #[.slice pc nc cc] 36)).alloc (.cells #[.slice px nx cx] 36)=wa:=⟨_,rfl⟩
 rw[hw0]at hbx hz3
 have hb0:Below w0.heap.size w0 (w0.alloc (.cells #[.slice none 0 0,.slice none 0 0] 142)):=Bt;have hz0:(w0.alloc (.cells #[.slice none 0 0,.slice none 0 0] 142)).heap[w0.heap.size]? = some zP:=heap_alloc_new w0 _;obtain⟨wa,hwa⟩:∃wa,w0.alloc (.cells #[.slice none 0 0,.slice none 0 0] 142)=wa:=⟨_,rfl⟩
 rw[hwa]at hb0 hz0
 rw[hz3]at hz0
 have hbel:=Ae hbx.bel hb0;have HXK0:=Ac (hbx.b0.below hb0 hbx.b0.lt);have HXC0:=Ac (hbx.b1.below hb0 hbx.b1.lt);have HXX0:=Ac (hbx.b2.below hb0 hbx.b2.lt);have HBL:=Ac hbel;have HZ0:=Ac hz0;have HK0:=Ac ((Fit.of h1 h2).below hbel);have HC0:=Ac ((Fit.of h3 h4).below hbel);have HX0:=Ac ((Fit.of h5 h6).below hbel);have HG:=Ac (hg.below hbel);have hQ2:=hg.lims.2.2;have HWS:Aa (w.heap.size+1+1+1<wa.heap.size):=⟨(Array.getElem?_eq_some_iff.1 hz0).1⟩
 obtain⟨MM,hMM⟩:∃M,C*X%Q=M:=⟨_,rfl⟩
 obtain⟨SS,hSS⟩:∃S,(K+MM)%Q=S:=⟨_,rfl⟩
 have HMM:=Ac hMM;have HSS:=Ac hSS;obtain⟨CC,hCC⟩:∃M,C=M:=⟨_,rfl⟩
 rw[hCC]at HC0 HMM
 rw[hMM,hSS,hCC];clear hMM hSS hCC h1 h2 h3 h4 h5 h6 hbx hg hk hc hx hb0 hz0 hbel;go_enter Tryz.func94,Tryz.ntmps94
 go_wp2_with fail
 refine(Mx HG.out).mono ?_;rintro en w1 ⟨r,rfl,hr,hb1⟩;have HR:Aa (∀w',KT 142 (w.heap.size+1+1+1) w1 w'->Ring w' r Q 33):=⟨fun w' k=>hr.kt k (by decide)⟩
 have hXK:=HXK0.out.below hb1 HXK0.out.lt;have HXK:=Ac hXK;have HXC:=Ac (HXC0.out.below hb1 HXC0.out.lt);have HXX:=Ac (HXX0.out.below hb1 HXX0.out.lt);have HK:=Ac (HK0.out.below hb1);have HC:=Ac (HC0.out.below hb1);have HX:=Ac (HX0.out.below hb1);have HB1:=Ac (Ae HBL.out hb1);have HZ1:Aa (w1.heap[(w.heap.size+1+1+1)]? = some zP):=⟨by rw[hb1.block _ HWS.out];exact HZ0.out⟩
 have HSB:Aa (∀ {w':World},KT 142 (w.heap.size+1+1+1) w1 w'->(w.heap.size+1+1+1)<=w'.heap.size):=⟨fun k=>by have h1:=k.k.bel.size;have h2:=hb1.size;have h3:=HWS.out;omega⟩
 clear hr hb1 hXK HXK0 HXC0 HXX0 HK0 HC0 HX0;go_wp2;refine Ai (by kernel_rfl) (by kernel_rfl)
  [some (.agg #[.slice pc nc cc]),some (.pointer (some ⟨r,0,none⟩)),some (.agg #[.slice pk nk ck]),some (.pointer (some ⟨r,0,none⟩)),some (.agg #[.slice pc nc cc]),some (.agg #[.slice px nx cx]),none,none,none,none]
  [false,false,false,false,false,false,true,true,true,true] rfl
  (fun w1 w2=>KT 142 (w.heap.size+1+1+1) w1 w2)
  (fun D w'=>KT 142 (w.heap.size+1+1+1) w1 w'/\Tr (D 9) (w.heap.size+1+1+1) zP (rT CC SS) w')
  (fun i v w'=>match i with
   | 6=>Fit 33 (MM) v w'
   | 7=>Fit 33 (SS) v w'
   | 8=>Pn CC SS v w'
   | 9=>True
   | _=>True)
  ?_ ⟨KT.drew _ _ _,Tr.start HZ1.out⟩ ?_ ?_
 .intro i v w1 w2 hf hb;split at hf
  .exact hf.kt hb
  .exact hf.kt hb
  .exact hf.kt hb
  .exact hf
  .trivial
 .simp only[Ba,Nat.reduceAdd];refine⟨?_,?_,?_,?_,?_,?_,?_,?_,?_,?_,trivial⟩
  all_goals intro D sp w' hD hW hdp hbx'
  case refine_1|refine_5 =>
   have c0:=(HXC.out.below hbx'.1.k.bel (by omega)).cell
   with_reducible refine Ad ?_ ?_
   all_goals simp[Region.wanted,yielded,execOp,Act.eval,Act.put,go_sem,c0]
  case refine_3 =>
   have c0:=(HXK.out.below hbx'.1.k.bel (by omega)).cell
   with_reducible refine Ad ?_ ?_
   all_goals simp[Region.wanted,yielded,execOp,Act.eval,Act.put,go_sem,c0]
  case refine_6 =>
   have c0:=(HXX.out.below hbx'.1.k.bel (by omega)).cell
   with_reducible refine Ad ?_ ?_
   all_goals simp[Region.wanted,yielded,execOp,Act.eval,Act.put,go_sem,c0]
  case refine_7 =>
   (with_reducible refine Ab (w1:=w') (f := 47) (args:=#[.pointer (some ⟨r,0,none⟩),.agg #[.slice pc nc cc],.agg #[.slice px nx cx]]) ?_ ?_ ?_)
   .simp[Region.wanted,yielded,Act.put,go_sem]
   .simp[Act.eval,Act.put,go_sem]
   .refine(Fx (HR.out w' hbx'.1) (HC.out.keep hbx'.1.k) (HX.out.keep hbx'.1.k) (by omega) (by omega)).mono ?_;rintro en w9 ⟨u,rfl,hu,hb⟩;rw[HMM.out]at hu
    exact⟨u,rfl,KT.of hb (HSB.out hbx'.1),hu,⟨hbx'.1.trans (KT.of hb (HSB.out hbx'.1)),by simpa [upd]using hbx'.2.later hb (fun o h=>h.below hb)⟩⟩
  case refine_8 =>
   have k6:Fit 33 (MM) (sp 6) w':=(hdp 6 (mq (by kernel_rfl))).2
   (with_reducible refine Ab (w1:=w') (f := 46) (args:=#[.pointer (some ⟨r,0,none⟩),.agg #[.slice pk nk ck],sp 6]) ?_ ?_ ?_)
   .simp[Region.wanted,yielded,Act.put,go_sem]
   .simp[Act.eval,Act.put,go_sem]
   .refine(Rw (HR.out w' hbx'.1) (HK.out.keep hbx'.1.k) k6 (by omega) (by decide)).mono ?_;rintro en w9 ⟨u,rfl,hu,hb⟩;rw[HSS.out]at hu
    exact⟨u,rfl,KT.of hb (HSB.out hbx'.1),hu,⟨hbx'.1.trans (KT.of hb (HSB.out hbx'.1)),by simpa [upd]using hbx'.2.later hb (fun o h=>h.below hb)⟩⟩
  case refine_9 =>
   have hx:∃p n c,sp 7=.agg #[.slice p n c]/\Ah w' p n c (SS)/\SS<Aq (33):=(hdp 7 (mq (by kernel_rfl))).2
   (with_reducible refine Exists.elim hx fun p hx1=>Exists.elim hx1 fun n hx2=>Exists.elim hx2 fun c hx3=>?_)
   have h1:=hx3.1
   (with_reducible refine Ag (w1:=w') (v:=.agg #[.slice pc nc cc,.slice p n c]) ?_ ?_ ?_)
   .simp only[Region.wanted]
   .simp[execOp,Act.eval,Act.put,go_sem,h1]
   .exact⟨KT.same _ _ _,⟨(pc,nc,cc),(p,n,c),rfl,Dk (HC.out.keep hbx'.1.k),hx3.2.1⟩,by simpa [upd]using hbx'⟩
  case refine_10 =>
   have hx:∃x y:Option Addr×Nat×Nat,sp 8=.agg #[.slice x.1 x.2.1 x.2.2,.slice y.1 y.2.1 y.2.2]/\Dv w' x CC/\Dv w' y SS:=(hdp 8 (mq (by kernel_rfl))).2
   (with_reducible refine Exists.elim hx fun x hx1=>Exists.elim hx1 fun y hx2=>?_)
   have h1:=hx2.1;rw[hD]at hbx'
   have h5:w'.heap[(w.heap.size+1+1+1)]? = some (.cells #[.slice none 0 0,.slice none 0 0] 142 (0,0)):=hbx'.2.1 rfl;have hp:=sA (u0:=.slice x.1 x.2.1 x.2.2) (u1:=.slice y.1 y.2.1 y.2.2) h5;have hkt:=hp.kt h5 (nZ (none,0,0) (none,0,0)) (Nat.le_refl _);have g0:=cells2 h5
   (with_reducible refine Ao (w1:=set2 w' (w.heap.size+1+1+1) (.slice x.1 x.2.1 x.2.2) (.slice y.1 y.2.1 y.2.2)) ?_ ?_ ?_)
   .simp only[Region.wanted]
   .simp[execOp,Act.eval,Act.put,go_sem,h1,g0.1,g0.2.1,g0.2.2,set2]
   .refine⟨hkt,trivial,hbx'.1.trans hkt,?_⟩;have h8:Tr true (w.heap.size+1+1+1) zP (rT CC SS) _:=Tr.done hp.new ⟨x,y,rfl,hkt.k.nat _ _ _ _ hx2.2.1,hkt.k.nat _ _ _ _ hx2.2.2⟩;simpa [upd]using h8
  all_goals ((with_reducible refine Ad ?_ ?_);all_goals first|(simp only[Region.wanted];done)|simp[Region.wanted,yielded,execOp,Act.eval,Act.put,go_sem])
 .intro sp w8 hsp hk;obtain⟨hk1,hk2⟩:=hk;obtain⟨_,hz,x,y,rfl,hC,hS⟩:=hk2.2 rfl;have g0:=cells2 hz;have k0:=g0.1.1;have k1:=g0.1.2;have HV:Aa (Pn CC SS (.agg #[.slice x.1 x.2.1 x.2.2,.slice y.1 y.2.1 y.2.2]) w8):=⟨⟨x,y,rfl,hC,hS⟩⟩
  have HB7:Aa (Below w.heap.size w w8):=⟨HB1.out.trans (hk1.k.bel.mono (by omega))⟩
  clear hsp hk1 hk2 hz hC hS g0 hz3;simp only[An,Nat.reduceAdd];generalize sp 6=y6,sp 7=y7,sp 8=y8,sp 9=y9 at *
  go_simp
  go_wp2;exact bodyPost_ret (v:=.agg #[.slice x.1 x.2.1 x.2.2,.slice y.1 y.2.1 y.2.2]) (by simp[results,Tryz.results94,go_sem,k0,k1]) rfl ⟨_,rfl,HV.out,HB7.out⟩
end Go.Proofs.YthgoeiegdhphjaaGreatDoor
