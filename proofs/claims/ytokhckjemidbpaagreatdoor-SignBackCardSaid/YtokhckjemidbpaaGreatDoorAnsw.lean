/- A challenge, answered (schnorr.Answered). -/
import Derived.Lib.SmallJoins
import Derived.Test.YtokhckjemidbpaaGreatDoorSgA
set_option maxRecDepth 1000000
set_option maxHeartbeats 16000000
set_option linter.all false
namespace Go.Proofs.YtokhckjemidbpaaGreatDoor
open Go Go.RowKit Go.Proofs.YtokhckjemidbpaaGreatDoor.Flow
theorem Mf {w:World}{g:Nat}{t:TypeId}{fr:Nat×Nat}{bs:List Nat}{n:Nat}(h:w.heap[g]? = some (.cells (bs.map fun(x:Nat)=>Value.int .u8 (x:Int)).toArray t fr))(hn:n=bs.length)(hm:n<=9223372036854775807):Bd w .u8 (some ⟨g,0,none⟩) n n bs :=
 ⟨hn,As _,hm,fun _=>⟨hn,As _,hm,.inr ⟨g,0,rfl,(Kv h).1,fun i x hx=>by
  rw[Nat.zero_add];unfold World.cell?
  dsimp only
  rw[h];simp[hx]⟩⟩⟩
def Ov (n:Nat)(bs:List Nat)(v:Value)(w:World):Prop:=∃g,v=.tuple #[.slice (some ⟨g,0,none⟩) n n,.int .i64 0]/\Bm w g 5 .u8 bs
def Gy (n:Nat)(bs:List Nat)(v:Value)(w:World):Prop:=∃g,v=.slice (some ⟨g,0,none⟩) n n/\Bm w g 5 .u8 bs
theorem Ov.below {n:Nat}{bs:List Nat}{v:Value}{w w':World}(h:Ov n bs v w)(hb:Below w.heap.size w w'):Ov n bs v w' :=
 let ⟨g,h1,h2⟩:=h
 ⟨g,h1,h2.below hb h2.lt⟩
theorem Gy.below {n:Nat}{bs:List Nat}{v:Value}{w w':World}(h:Gy n bs v w)(hb:Below w.heap.size w w'):Gy n bs v w' :=
 let ⟨g,h1,h2⟩:=h
 ⟨g,h1,h2.below hb h2.lt⟩
theorem iJ {w:World}{e N s:Nat}{v:Value}(h:Fit e N v w)(he:e<=30000)(hs:s<=1000)(hl:N<B8 s) :
  Calls Tryz.prog 122 #[v,.int .i64 (s:Nat)] w fun en w'=>∃x,en=.returned x/\Ov s (Az N s) x w'/\Below w.heap.size w w':=by
 obtain⟨p,n,c,rfl,h1,h2⟩:=h;have l1:=h1.len_le h2;have l2:=Gu h2;have l3:=Jf.2 hl;refine(Qp w p n c N s h1 (by omega) (by omega) (by omega) (by omega)).mono ?_;rintro en w' ⟨g,rfl,hb,hbel,_⟩;exact⟨_,rfl,⟨g,rfl,hb⟩,hbel⟩
theorem Gw {w:World}{g n N:Nat}(h:Bm w g 5 .u8 (Az N n))(hn:n<=1000):Ax w ⟨some ⟨g,0,none⟩,n,n,Az N n⟩ :=
 ⟨⟨(Bq N n).symm,As _,Dn hn (by decide),fun _=>h.row (Bq N n).symm (As _) (Dn hn (by decide))⟩,(Gf N n).reverse⟩
theorem kE (w:World)(P Q R S:Part)(hP:Ax w P)(hQ:Ax w Q)(hR:Ax w R)(hS:Ax w S):Ck (w.alloc (.cells #[.slice P.p P.n P.c,.slice Q.p Q.n Q.c,.slice R.p R.n R.c,.slice S.p S.n S.c] 23)) (some ⟨w.heap.size,0,none⟩) 4 4 [P,Q,R,S]:=by
 have hb:Below w.heap.size w (w.alloc (.cells #[.slice P.p P.n P.c,.slice Q.p Q.n Q.c,.slice R.p R.n R.c,.slice S.p S.n S.c] 23)):=Bx;have hn:=heap_alloc_new w (.cells #[.slice P.p P.n P.c,.slice Q.p Q.n Q.c,.slice R.p R.n R.c,.slice S.p S.n S.c] 23);refine⟨rfl,As _,by omega,fun i X hX=>?_,fun _=>⟨w.heap.size,0,rfl,by simp,fun i X hX=>?_⟩⟩
 .match i,hX with
  | 0,h=>cases h;exact hP.below hb
  | 1,h=>cases h;exact hQ.below hb
  | 2,h=>cases h;exact hR.below hb
  | 3,h=>cases h;exact hS.below hb
 .match i,hX with
  | 0,h=>cases h;unfold World.cell?;dsimp only;rw[hn];rfl
  | 1,h=>cases h;unfold World.cell?;dsimp only;rw[hn];rfl
  | 2,h=>cases h;unfold World.cell?;dsimp only;rw[hn];rfl
  | 3,h=>cases h;unfold World.cell?;dsimp only;rw[hn];rfl
structure KC (B:Nat) (w w':World):Prop where
 bel:Below B w w'
 cell:∀p v,w.cell? p=some v->w'.cell? p=some v
 shape:∀g s,w.shape? g=some s->w'.shape? g=some s
theorem Rd {w w':World}(h:Below w.heap.size w w'){g:Nat}{s:TypeId×Nat}(hs:w.shape? g=some s):w'.shape? g=some s:=by
 have hg:g<w.heap.size:=by
  rcases Nat.lt_or_ge g w.heap.size with k|k
  .exact k
  .unfold World.shape? at hs;rw[Array.getElem?_eq_none k]at hs
   cases hs
 unfold World.shape? at *;rw[h.block g hg];exact hs
theorem cell_below {w w':World}(h:Below w.heap.size w w'){p:Addr}{v:Value}(hp:w.cell? p=some v):w'.cell? p=some v:=by
 have hg:p.block<w.heap.size:=by
  rcases Nat.lt_or_ge p.block w.heap.size with k|k
  .exact k
  .unfold World.cell? at hp;rw[Array.getElem?_eq_none k]at hp
   cases hp
 rw[h.cell (p:=p) hg];exact hp
theorem KC.of {B:Nat}{w w':World}(h:Below w.heap.size w w')(hB:B<=w.heap.size):KC B w w':=⟨h.mono hB,fun _ _ hp=>cell_below h hp,fun _ _ hs=>Rd h hs⟩
theorem KC.same (B:Nat)(w:World):KC B w w:=⟨Bb _ _,fun _ _ h=>h,fun _ _ h=>h⟩
theorem KC.trans {B:Nat}{w1 w2 w3:World}(h:KC B w1 w2)(k:KC B w2 w3):KC B w1 w3:=⟨h.bel.trans k.bel,fun p v x=>k.cell p v (h.cell p v x),fun g s x=>k.shape g s (h.shape g s x)⟩
theorem KC.drew (B:Nat)(w:World):KC B w w.drew:=⟨(Bb _ _).drew,fun _ _ h=>h,fun _ _ h=>h⟩
theorem Jq (w:World)(a:Addr)(n:Nat)(p:Addr):(w.freeze a n).cell? p=w.cell? p:=by
 unfold World.freeze;split
 .rfl
 .unfold World.cell?;simp only[Array.getElem?_modify]
  by_cases h:a.block=p.block
  .simp only[h,if_true]
   cases w.heap[p.block]? with
   | none=>rfl
   | some o=>cases o<;>rfl
  .simp only[h,if_false]
theorem Pl (w:World)(a:Addr)(n:Nat)(g:Nat):(w.freeze a n).shape? g=w.shape? g:=by
 unfold World.freeze;split
 .rfl
 .unfold World.shape?;simp only[Array.getElem?_modify]
  by_cases h:a.block=g
  .simp only[h,if_true]
   cases w.heap[g]? with
   | none=>rfl
   | some o=>cases o<;>rfl
  .simp only[h,if_false]
theorem KC.mark {B g:Nat}{w:World}(k:Nat)(hB:B<=g):KC B w (w.freeze ⟨g,k,none⟩ 1) :=
 ⟨⟨rfl,rfl,rfl,by simp[World.freeze],fun j hj=>by
  unfold World.freeze;simp only[Nat.one_ne_zero,if_false,Array.getElem?_modify];rw[if_neg (by omega)]⟩,fun p v h=>by rw[Jq];exact h,fun j s h=>by rw[Pl];exact h⟩
theorem run_mark {w:World}{g n c k:Nat}(hs:w.shape? g=some (5,k)):(convert 23 23 (.slice (some ⟨g,0,none⟩) n c)).run Tryz.prog w=.ok (.slice (some ⟨g,0,none⟩) n c) (w.freeze ⟨g,k,none⟩ 1):=by
 simp[convert,run_underlying Tryz.underlying23,run_underlying Tryz.underlying5,markStringish,hs]
theorem Row.kc {B:Nat}{w w':World}{k:IntKind}{p:Option Addr}{n c:Nat}{xs:List Nat}(h:Row w k p n c xs)(hk:KC B w w'):Row w' k p n c xs:=by
 refine⟨h.len,h.cap,h.max,?_⟩;rcases h.at_ with h1|⟨b,off,h1,h2,h3⟩
 .exact .inl h1
 .exact .inr ⟨b,off,h1,Ej h2 hk.bel.size,fun i x hx=>hk.cell _ _ (h3 i x hx)⟩
theorem Ax.kc {B:Nat}{w w':World}{P:Part}(h:Ax w P)(hk:KC B w w'):Ax w' P:=⟨⟨h.row.len,h.row.cap,h.row.max,fun h0=>(h.row.row h0).kc hk⟩,h.bytes⟩
theorem Ck.kc {B:Nat}{w w':World}{p:Option Addr}{n c:Nat}{L:List Part}(h:Ck w p n c L)(hk:KC B w w'):Ck w' p n c L :=
 ⟨h.len,h.cap,h.max,fun i P hP=>(h.ok i P hP).kc hk,fun h0=>by
  obtain⟨b,off,h1,h2,h3⟩:=h.cells h0;exact⟨b,off,h1,Ej h2 hk.bel.size,fun i P hP=>hk.cell _ _ (h3 i P hP)⟩⟩
theorem jG {P Q R S:Part}(h1:P.p=none->P.c=0)(h2:Q.p=none->Q.c=0)(h3:R.p=none->R.c=0)(h4:S.p=none->S.c=0):Kd [P,Q,R,S]:=fun X hX=>by
 simp only[List.mem_cons,List.not_mem_nil,or_false]at hX;rcases hX with rfl|rfl|rfl|rfl
 .exact h1
 .exact h2
 .exact h3
 .exact h4
theorem Op {w:World}{e N s:Nat}{v:Value}(h:Fit e N v w)(he:e<=30000)(hs:s<=1000)(hl:N<B8 s) :
  Calls Tryz.prog 122 #[v,.int .i64 (s:Nat)] w fun en w'=>∃g,en=.returned (.tuple #[.slice (some ⟨g,0,none⟩) s s,.int .i64 0])/\Bm w' g 5 .u8 (Az N s)/\w.heap.size<=g/\Below w.heap.size w w':=by
 obtain⟨p,n,c,rfl,h1,h2⟩:=h;have l1:=h1.len_le h2;have l2:=Gu h2;have l3:=Jf.2 hl;refine(Qp w p n c N s h1 (by omega) (by omega) (by omega) (by omega)).mono ?_;rintro en w' ⟨g,rfl,hb,hbel,hn⟩;exact⟨g,rfl,hb,hn,hbel⟩
def Ws (B n:Nat)(bs:List Nat)(v:Value)(w:World):Prop:=∃g,v=.tuple #[.slice (some ⟨g,0,none⟩) n n,.int .i64 0]/\B<=g/\Bm w g 5 .u8 bs
def Ur (B n:Nat)(bs:List Nat)(v:Value)(w:World):Prop:=∃g,v=.slice (some ⟨g,0,none⟩) n n/\B<=g/\Bm w g 5 .u8 bs
theorem Ws.below {B n:Nat}{bs:List Nat}{v:Value}{w w':World}(h:Ws B n bs v w)(hb:Below w.heap.size w w'):Ws B n bs v w' :=
 let ⟨g,h1,h2,h3⟩:=h
 ⟨g,h1,h2,h3.below hb h3.lt⟩
theorem Ur.below {B n:Nat}{bs:List Nat}{v:Value}{w w':World}(h:Ur B n bs v w)(hb:Below w.heap.size w w'):Ur B n bs v w' :=
 let ⟨g,h1,h2,h3⟩:=h
 ⟨g,h1,h2,h3.below hb h3.lt⟩
theorem Tp {w:World}{b P Q G H e A sz:Nat}{v:Value}(hg:Bc w b P Q G H)(hv:Fit e A v w)(he:e<=30000)(hA:A<P)(hsz:Ak P=sz)(hs:sz<=16) :
  Calls Tryz.prog 133 #[.pointer (some ⟨b,0,none⟩),v] w fun en w'=>∃g,en=.returned (.slice (some ⟨g,0,none⟩) sz sz)/\w.heap.size<=g/\Bm w' g 5 .u8 (Az A sz)/\Below w.heap.size w w':=by
 obtain⟨pa,na,ca,rfl,h1,h2⟩:=Aw hv;have hX0:=Af.made w (.slice pa na ca);have hb0:Below w.heap.size w (w.alloc (.cells #[.slice pa na ca] 37)):=Bx;obtain⟨wa,hwa⟩:∃wa,w.alloc (.cells #[.slice pa na ca] 37)=wa:=⟨_,rfl⟩
 rw[hwa]at hX0 hb0
 have HBL:=Ab hb0;have HX0:=Ab hX0;have HA:=Ab ((Fit.of h1 h2).below hb0);have HG:=Ab (hg.below hb0);have hlm:=Dj P;rw[hsz]at hlm
 have HSZ:=Ab hsz;have HLM:Aa (A<B8 sz):=⟨by omega⟩
 clear h1 h2 hX0 hb0 hg hv hsz hlm hA;go_enter Tryz.func133,Tryz.ntmps133;go_wp2;refine Ah (by kernel_rfl) (by kernel_rfl)
  [some (.agg #[.slice pa na ca]),some (.pointer (some ⟨b,0,none⟩)),none,none,none,none,some (.int .i64 0),none,some (.int .i64 0)]
  [false,false,true,true,true,true,false,true,false] rfl
  (fun w1 w2=>Below w1.heap.size w1 w2)
  (fun _ w'=>Below wa.heap.size wa w')
  (fun i v w'=>match i with
   | 2=>v=.int .i64 (sz:Nat)
   | 3=>Ws w.heap.size (sz) (Az A sz) v w'
   | 4=>Ws w.heap.size (sz) (Az A sz) v w'
   | 5=>Ur w.heap.size (sz) (Az A sz) v w'
   | 7=>Ur w.heap.size (sz) (Az A sz) v w'
   | _=>True)
  ?_ (Bb _ _).drew ?_ ?_
 .intro i v w1 w2 hf hb;split at hf
  .exact hf
  .exact hf.below hb
  .exact hf.below hb
  .exact hf.below hb
  .exact hf.below hb
  .trivial
 .simp only[Ba,Nat.reduceAdd];refine⟨?_,?_,?_,?_,?_,?_,?_,?_,?_,trivial⟩
  all_goals intro D sp w' hD hW hdp hbx'
  case refine_1=>
   have c0:=(HX0.out.below hbx' HX0.out.lt).cell
   with_reducible refine Ad ?_ ?_
   all_goals simp[Region.wanted,yielded,execOp,Act.eval,Act.put,go_sem,c0]
  case refine_3=>
   (with_reducible refine Ac (w1:=w') (f := 191) (args:=#[.pointer (some ⟨b,0,none⟩)]) ?_ ?_ ?_)
   .simp[Region.wanted,yielded,Act.put,go_sem]
   .simp[Act.eval,Act.put,go_sem]
   .refine(gW (HG.out.below hbx')).mono ?_;rintro en w9 ⟨rfl,hb⟩;rw[HSZ.out];exact⟨_,rfl,hb,rfl,Ae hbx' hb⟩
  case refine_4=>
   have k2:(sp 2)=.int .i64 (sz:Nat):=(hdp 2 (mq (by kernel_rfl))).2
   (with_reducible refine Ac (w1:=w') (f := 122) (args:=#[.agg #[.slice pa na ca],.int .i64 (sz:Nat)]) ?_ ?_ ?_)
   .first|(simp only[Region.wanted];done)|simp[Region.wanted,yielded,Act.put,go_sem,k2]
   .simp[Act.eval,Act.put,go_sem,k2]
   .refine(Op (HA.out.below hbx') he (by omega) HLM.out).mono ?_;rintro en w9 ⟨g9,rfl,hu,hg9,hb⟩;exact⟨_,rfl,hb,⟨g9,rfl,Dn HBL.out.size (Dn hbx'.size hg9),hu⟩,Ae hbx' hb⟩
  case refine_5=>
   have k3:Ws w.heap.size (sz) (Az A sz) (sp 3) w':=(hdp 3 (mq (by kernel_rfl))).2
   (with_reducible refine Ai (w1:=w') (v:=sp 3) ?_ ?_ ?_)
   .simp[Region.wanted,yielded,Act.put,go_sem]
   .simp[execOp,Act.eval,Act.put,go_sem]
   .exact⟨Bb _ _,k3,hbx'⟩
  case refine_6=>
   have hx:∃g,sp 4=.tuple #[.slice (some ⟨g,0,none⟩) (sz) (sz),.int .i64 0]/\w.heap.size<=g/\Bm w' g 5 .u8 (Az A sz):=(hdp 4 (mq (by kernel_rfl))).2
   (with_reducible refine Ay hx fun g hx1=>?_)
   have h1:=hx1.1
   (with_reducible refine Ai (w1:=w') (v:=.slice (some ⟨g,0,none⟩) (sz) (sz)) ?_ ?_ ?_)
   .simp only[Region.wanted]
   .simp[execOp,Act.eval,Act.put,go_sem,h1]
   .exact⟨Bb _ _,⟨g,rfl,hx1.2⟩,hbx'⟩
  case refine_7=>
   have hx:∃g,sp 4=.tuple #[.slice (some ⟨g,0,none⟩) (sz) (sz),.int .i64 0]/\w.heap.size<=g/\Bm w' g 5 .u8 (Az A sz):=(hdp 4 (mq (by kernel_rfl))).2
   (with_reducible refine Ay hx fun g hx1=>?_)
   have h1:=hx1.1
   with_reducible refine Ad ?_ ?_
   all_goals simp[Region.wanted,yielded,execOp,Act.eval,Act.put,go_sem,h1]
  case refine_8=>
   have k5:Ur w.heap.size (sz) (Az A sz) (sp 5) w':=(hdp 5 (mq (by kernel_rfl))).2
   (with_reducible refine Ai (w1:=w') (v:=sp 5) ?_ ?_ ?_)
   .simp[Region.wanted,yielded,Act.put,go_sem]
   .simp[execOp,Act.eval,Act.put,go_sem]
   .exact⟨Bb _ _,k5,hbx'⟩
  all_goals ((with_reducible refine Ad ?_ ?_);all_goals first|(simp only[Region.wanted];done)|simp[Region.wanted,yielded,execOp,Act.eval,Act.put,go_sem])
 .intro sp w1 hsp hb1;obtain⟨ga,e7,hga,hk7⟩:Ur w.heap.size sz (Az A sz) (sp 7) w1:=hsp 7 rfl;have HKA:=Ab hk7;have HGA:=Ab hga;have HBL1:=Ab (Ae HBL.out hb1);clear hsp hb1 hk7 hga;simp only[An,Nat.reduceAdd];rw[e7];clear e7 hwa;generalize sp 2=y2,sp 3=y3,sp 4=y4,sp 5=y5 at *
  go_simp
  go_wp2;go_ret;exact⟨ga,rfl,HGA.out,HKA.out,HBL1.out⟩
structure KT (T:TypeId) (B:Nat) (w w':World):Prop where
 k:Ap B w w'
 blk:∀(g:Nat) (vs:Array Value) (U:TypeId) (m:Nat×Nat),w.heap[g]? = some (.cells vs U m)->(U≠T ∨ ∃(j:Nat) (u:Value),vs[j]? = some u/\∀q k d,u≠Value.slice q k d)->w'.heap[g]? = some (.cells vs U m)
theorem KT.of {T:TypeId}{B:Nat}{w w':World}(h:Below w.heap.size w w')(hB:B<=w.heap.size):KT T B w w' :=
 ⟨Ap.of h hB,fun g _ _ _ ho _=>by rw[h.block g (Kv ho).1];exact ho⟩
theorem KT.same (T:TypeId)(B:Nat)(w:World):KT T B w w:=⟨Ap.same _ _,fun _ _ _ _ h _=>h⟩
theorem Fit.kt {T:TypeId}{e N B:Nat}{v:Value}{w w':World}(h:Fit e N v w)(k:KT T B w w'):Fit e N v w':=h.keep k.k
theorem KT.trans {T:TypeId}{B:Nat}{w1 w2 w3:World}(h:KT T B w1 w2)(k:KT T B w2 w3):KT T B w1 w3:=⟨h.k.trans k.k,fun _ _ _ _ ho hU=>k.blk _ _ _ _ (h.blk _ _ _ _ ho hU) hU⟩
theorem KT.drew (T:TypeId)(B:Nat)(w:World):KT T B w w.drew:=⟨Ap.drew _ _,fun _ _ _ _ h _=>h⟩
theorem Ring.kt {T:TypeId}{B r M f:Nat}{w w':World}(h:Ring w r M f)(k:KT T B w w')(hT : 156 ≠ T):Ring w' r M f:=by
 obtain⟨p,n,c,h1,h2,h3⟩:=h.at_.ex
 exact⟨⟨p,n,c,k.blk _ _ _ _ h1 (.inl hT),k.k.nat _ _ _ _ h2,h3⟩,h.two,h.lim,h.few⟩
theorem Aj.off {w w':World}{p:Option Addr}{n c N b:Nat}{vs:Array Value}{T:TypeId}{m:Nat×Nat}(h:Aj w p n c N)(hb:w.heap[b]? = some (.cells vs T m))(hs:∀(j:Nat) (u:Value),vs[j]? = some u->∃q k d,u=.slice q k d)(hz:w.heap.size<=w'.heap.size)(ho:∀g,g≠b->w'.heap[g]? = w.heap[g]?):Aj w' p n c N:=by
 rcases Nat.eq_zero_or_pos n with rfl|h0
 .obtain⟨ws,r1,r2,r3,r4⟩:=h.ex;refine⟨ws,⟨r1.len,r1.cap,r1.max,?_⟩,r2,r3,r4⟩;rcases r1.at_ with k|⟨g,off,k1,k2,k3⟩
  .exact .inl k
  .refine .inr ⟨g,off,k1,Ej k2 hz,fun i x hx=>?_⟩;have:ws=[]:=List.eq_nil_of_length_eq_zero r1.len.symm;rw[this]at hx;cases hx
 .refine Hj.stay h hz fun q hq o=>World.cell?_of_block (a:=⟨q.block,o,none⟩) (ho q.block fun e=>?_)
  obtain⟨ws,r1,r2,r3,r4⟩:=h.ex;obtain⟨b',off,k1,k2,k3⟩:=r1.pos h0;rw[k1]at hq;cases hq
  have hbb:b'=b:=e;subst hbb;have h1:=k3 0 (ws.getD 0 0) (by rw[Du];simp[show 0<ws.length by rw[<-r1.len];exact h0]);rw[Nat.add_zero]at h1
  simp only[World.cell?,hb]at h1;obtain⟨q,k,d,hu⟩:=hs _ _ h1;cases hu
def set2 (w:World)(b:Nat)(u0 u1:Value):World:=(w.setCell ⟨b,0,none⟩ u0).setCell ⟨b,1,none⟩ u1
def nX (w:World)(b:Nat)(u0 u1 u2 u3:Value):World:=(((w.setCell ⟨b,0,none⟩ u0).setCell ⟨b,1,none⟩ u1).setCell ⟨b,2,none⟩ u2).setCell ⟨b,3,none⟩ u3
structure iV (w:World) (b:Nat) (o:Obj) (w':World):Prop where
 new:w'.heap[b]? = some o
 old:∀g,g≠b->w'.heap[g]? = w.heap[g]?
 size:w'.heap.size=w.heap.size
 bel:∀B,B<=b->Below B w w'
theorem rE {w:World}{b:Nat}{v0 v1 u0 u1:Value}{T:TypeId}(h:w.heap[b]? = some (.cells #[v0,v1] T (0,0))):iV w b (.cells #[u0,u1] T (0,0)) (set2 w b u0 u1) :=
 ⟨by simp[set2,World.setCell,Array.getElem?_modify,h],fun g hg=>by simp[set2,World.setCell,Array.getElem?_modify,hg.symm],by simp[set2],fun B hB=>(((Bb _ _).setCell hB _).setCell hB _)⟩
theorem put4 {w:World}{b:Nat}{v0 v1 v2 v3 u0 u1 u2 u3:Value}{T:TypeId}(h:w.heap[b]? = some (.cells #[v0,v1,v2,v3] T (0,0))):iV w b (.cells #[u0,u1,u2,u3] T (0,0)) (nX w b u0 u1 u2 u3) :=
 ⟨by simp[nX,World.setCell,Array.getElem?_modify,h],fun g hg=>by simp[nX,World.setCell,Array.getElem?_modify,hg.symm],by simp[nX],fun B hB=>(((((Bb _ _).setCell hB _).setCell hB _).setCell hB _).setCell hB _)⟩
theorem iV.keep {w w':World}{b B:Nat}{o:Obj}{vs:Array Value}{T:TypeId}{m:Nat×Nat}(h:iV w b o w')(hb:w.heap[b]? = some (.cells vs T m))(hs:∀(j:Nat) (u:Value),vs[j]? = some u->∃q k d,u=.slice q k d)(hB:B<=b):Ap B w w' :=
 ⟨h.bel B hB,fun _ _ _ _ k=>k.off hb hs (Nat.le_of_eq h.size.symm) h.old⟩
theorem iV.kt {w w':World}{b B:Nat}{o:Obj}{vs:Array Value}{T:TypeId}{m:Nat×Nat}(h:iV w b o w')(hb:w.heap[b]? = some (.cells vs T m))(hs:∀(j:Nat) (u:Value),vs[j]? = some u->∃q k d,u=.slice q k d)(hB:B<=b):KT T B w w' :=
 ⟨h.keep hb hs hB,fun g us U k ho hU=>by
  have:g≠b:=fun e=>by
   subst e;rw[hb]at ho
   cases ho;rcases hU with hU|⟨j,u,hj,hu⟩
   .exact hU rfl
   .obtain⟨_,_,_,hx⟩:=hs _ _ hj;exact hu _ _ _ hx
  rw[h.old g this];exact ho⟩
theorem nV (x y:Option Addr×Nat×Nat):∀(j:Nat) (u:Value),(#[Value.slice x.1 x.2.1 x.2.2,.slice y.1 y.2.1 y.2.2]:Array Value)[j]? = some u->∃q k d,u=.slice q k d
 | 0,u,h=>by cases h;exact⟨_,_,_,rfl⟩
 | 1,u,h=>by cases h;exact⟨_,_,_,rfl⟩
 | j+2,u,h=>by simp at h
def mQ (f:Bool)(b:Nat)(z:Obj)(F:Obj->World->Prop)(w:World):Prop:=(f=false->w.heap[b]? = some z)/\(f=true->∃o,w.heap[b]? = some o/\F o w)
theorem mQ.later {f:Bool}{b:Nat}{z:Obj}{F:Obj->World->Prop}{w w':World}(h:mQ f b z F w)(hb:Below w.heap.size w w')(hF:∀o,F o w->F o w'):mQ f b z F w' :=
 ⟨fun e=>by have:=h.1 e;rw[hb.block b (Kv this).1];exact this,fun e=>by
  obtain⟨o,h1,h2⟩:=h.2 e;exact⟨o,by rw[hb.block b (Kv h1).1];exact h1,hF o h2⟩⟩
theorem mQ.start {b:Nat}{z:Obj}{F:Obj->World->Prop}{w:World}(h:w.heap[b]? = some z):mQ false b z F w:=⟨fun _=>h,fun e=>by cases e⟩
theorem mQ.done {b:Nat}{z o:Obj}{F:Obj->World->Prop}{w:World}(h:w.heap[b]? = some o)(hF:F o w):mQ true b z F w:=⟨(fun e=>by cases e),fun _=>⟨o,h,hF⟩⟩
def z4 (T:TypeId):Obj:=.cells #[.slice none 0 0,.slice none 0 0,.slice none 0 0,.slice none 0 0] T (0,0)
def Rv (C S:Nat)(v:Value)(w:World):Prop:=∃x y:Option Addr×Nat×Nat,v=.agg #[.slice x.1 x.2.1 x.2.2,.slice y.1 y.2.1 y.2.2]/\Gq w x C/\Gq w y S
theorem Rv.below {C S:Nat}{v:Value}{w w':World}(h:Rv C S v w)(hb:Below w.heap.size w w'):Rv C S v w' :=
 let ⟨x,y,h1,h2,h3⟩:=h
 ⟨x,y,h1,h2.below hb,h3.below hb⟩
theorem Rv.keep {B C S:Nat}{v:Value}{w w':World}(h:Rv C S v w)(k:Ap B w w'):Rv C S v w' :=
 let ⟨x,y,h1,h2,h3⟩:=h
 ⟨x,y,h1,k.nat _ _ _ _ h2,k.nat _ _ _ _ h3⟩
theorem Rv.kt {T:TypeId}{B C S:Nat}{v:Value}{w w':World}(h:Rv C S v w)(k:KT T B w w'):Rv C S v w':=h.keep k.k
def qZ (C S:Nat)(o:Obj)(w:World):Prop:=∃x y:Option Addr×Nat×Nat,o=.cells #[.slice x.1 x.2.1 x.2.2,.slice y.1 y.2.1 y.2.2] 125 (0,0)/\Gq w x C/\Gq w y S
theorem qZ.below {C S:Nat}{o:Obj}{w w':World}(hb:Below w.heap.size w w')(h:qZ C S o w):qZ C S o w' :=
 let ⟨x,y,h1,h2,h3⟩:=h
 ⟨x,y,h1,h2.below hb,h3.below hb⟩
def zP:Obj:=.cells #[.slice none 0 0,.slice none 0 0] 125 (0,0)
theorem cells2 {w:World}{b:Nat}{v0 v1:Value}{T:TypeId}(h:w.heap[b]? = some (.cells #[v0,v1] T (0,0))):(w.cell? ⟨b,0,none⟩=some v0/\w.cell? ⟨b,1,none⟩=some v1)/\w.frozen? ⟨b,0,none⟩=false/\w.frozen? ⟨b,1,none⟩=false :=
 ⟨⟨by simp[World.cell?,h],by simp[World.cell?,h]⟩,by simp[World.frozen?,h],by simp[World.frozen?,h]⟩
theorem Yh {w:World}{b P Q G H ek ec ex K C X:Nat}{vk vc vx:Value}(hg:Bc w b P Q G H)(hk:Fit ek K vk w)(hc:Fit ec C vc w)(hx:Fit ex X vx w)(hek:ek<=33)(hec:ec<=33)(hex:ex<=30000) :
  Calls Tryz.prog 67 #[.pointer (some ⟨b,0,none⟩),vk,vc,vx] w fun en w'=>∃x,en=.returned x/\Rv C ((K+C*X%Q)%Q) x w'/\Below w.heap.size w w':=by
 obtain⟨pk,nk,ck,rfl,h1,h2⟩:=Aw hk;obtain⟨pc,nc,cc,rfl,h3,h4⟩:=Aw hc;obtain⟨px,nx,cx,rfl,h5,h6⟩:=Aw hx;have hbx:=Yn.mk3 w (.slice pk nk ck) (.slice pc nc cc) (.slice px nx cx);have hz3:(((w.alloc (.cells #[.slice pk nk ck] 37)).alloc (.cells #[.slice pc nc cc] 37)).alloc (.cells #[.slice px nx cx] 37)).heap.size=w.heap.size+1+1+1:=by simp
 obtain⟨w0,hw0⟩:∃wa,((w.alloc (.cells #[.slice pk nk ck] 37)).alloc (.cells #[.slice pc nc cc] 37)).alloc (.cells #[.slice px nx cx] 37)=wa:=⟨_,rfl⟩
 rw[hw0]at hbx hz3
 have hb0:Below w0.heap.size w0 (w0.alloc (.cells #[.slice none 0 0,.slice none 0 0] 125)):=Bx;have hz0:(w0.alloc (.cells #[.slice none 0 0,.slice none 0 0] 125)).heap[w0.heap.size]? = some zP:=heap_alloc_new w0 _;obtain⟨wa,hwa⟩:∃wa,w0.alloc (.cells #[.slice none 0 0,.slice none 0 0] 125)=wa:=⟨_,rfl⟩
 rw[hwa]at hb0 hz0
 rw[hz3]at hz0
 have hbel:=Ae hbx.bel hb0;have HXK0:=Ab (hbx.b0.below hb0 hbx.b0.lt);have HXC0:=Ab (hbx.b1.below hb0 hbx.b1.lt);have HXX0:=Ab (hbx.b2.below hb0 hbx.b2.lt);have HBL:=Ab hbel;have HZ0:=Ab hz0;have HK0:=Ab ((Fit.of h1 h2).below hbel);have HC0:=Ab ((Fit.of h3 h4).below hbel);have HX0:=Ab ((Fit.of h5 h6).below hbel);have HG:=Ab (hg.below hbel);have hQ2:=hg.lims.2.2;have HWS:Aa (w.heap.size+1+1+1<wa.heap.size):=⟨(Kv hz0).1⟩
 obtain⟨MM,hMM⟩:∃M,C*X%Q=M:=⟨_,rfl⟩
 obtain⟨SS,hSS⟩:∃S,(K+MM)%Q=S:=⟨_,rfl⟩
 have HMM:=Ab hMM;have HSS:=Ab hSS;obtain⟨CC,hCC⟩:∃M,C=M:=⟨_,rfl⟩
 rw[hCC]at HC0 HMM
 rw[hMM,hSS,hCC];clear hMM hSS hCC h1 h2 h3 h4 h5 h6 hbx hg hk hc hx hb0 hz0 hbel;go_enter Tryz.func67,Tryz.ntmps67
 go_wp2_with fail
 refine(Ja HG.out).mono ?_;rintro en w1 ⟨r,rfl,hr,hb1⟩;have HR:Aa (∀w',KT 125 (w.heap.size+1+1+1) w1 w'->Ring w' r Q 33):=⟨fun w' k=>hr.kt k (by decide)⟩
 have hXK:=HXK0.out.below hb1 HXK0.out.lt;have HXK:=Ab hXK;have HXC:=Ab (HXC0.out.below hb1 HXC0.out.lt);have HXX:=Ab (HXX0.out.below hb1 HXX0.out.lt);have HK:=Ab (HK0.out.below hb1);have HC:=Ab (HC0.out.below hb1);have HX:=Ab (HX0.out.below hb1);have HB1:=Ab (Ae HBL.out hb1);have HZ1:Aa (w1.heap[(w.heap.size+1+1+1)]? = some zP):=⟨by rw[hb1.block _ HWS.out];exact HZ0.out⟩
 have HSB:Aa (∀ {w':World},KT 125 (w.heap.size+1+1+1) w1 w'->(w.heap.size+1+1+1)<=w'.heap.size):=⟨fun k=>by have h1:=k.k.bel.size;have h2:=hb1.size;have h3:=HWS.out;omega⟩
 clear hr hb1 hXK HXK0 HXC0 HXX0 HK0 HC0 HX0;go_wp2;refine Ah (by kernel_rfl) (by kernel_rfl)
  [some (.agg #[.slice pc nc cc]),some (.pointer (some ⟨r,0,none⟩)),some (.agg #[.slice pk nk ck]),some (.pointer (some ⟨r,0,none⟩)),some (.agg #[.slice pc nc cc]),some (.agg #[.slice px nx cx]),none,none,none,none]
  [false,false,false,false,false,false,true,true,true,true] rfl
  (fun w1 w2=>KT 125 (w.heap.size+1+1+1) w1 w2)
  (fun D w'=>KT 125 (w.heap.size+1+1+1) w1 w'/\mQ (D 9) (w.heap.size+1+1+1) zP (qZ CC SS) w')
  (fun i v w'=>match i with
   | 6=>Fit 33 (MM) v w'
   | 7=>Fit 33 (SS) v w'
   | 8=>Rv CC SS v w'
   | 9=>True
   | _=>True)
  ?_ ⟨KT.drew _ _ _,mQ.start HZ1.out⟩ ?_ ?_
 .intro i v w1 w2 hf hb;split at hf
  .exact hf.kt hb
  .exact hf.kt hb
  .exact hf.kt hb
  .exact hf
  .trivial
 .simp only[Ba,Nat.reduceAdd];refine⟨?_,?_,?_,?_,?_,?_,?_,?_,?_,?_,trivial⟩
  all_goals intro D sp w' hD hW hdp hbx'
  case refine_1|refine_5=>
   have c0:=(HXC.out.below hbx'.1.k.bel (by omega)).cell
   with_reducible refine Ad ?_ ?_
   all_goals simp[Region.wanted,yielded,execOp,Act.eval,Act.put,go_sem,c0]
  case refine_3=>
   have c0:=(HXK.out.below hbx'.1.k.bel (by omega)).cell
   with_reducible refine Ad ?_ ?_
   all_goals simp[Region.wanted,yielded,execOp,Act.eval,Act.put,go_sem,c0]
  case refine_6=>
   have c0:=(HXX.out.below hbx'.1.k.bel (by omega)).cell
   with_reducible refine Ad ?_ ?_
   all_goals simp[Region.wanted,yielded,execOp,Act.eval,Act.put,go_sem,c0]
  case refine_7=>
   (with_reducible refine Ac (w1:=w') (f := 33) (args:=#[.pointer (some ⟨r,0,none⟩),.agg #[.slice pc nc cc],.agg #[.slice px nx cx]]) ?_ ?_ ?_)
   .simp[Region.wanted,yielded,Act.put,go_sem]
   .simp[Act.eval,Act.put,go_sem]
   .refine(Ge (HR.out w' hbx'.1) (HC.out.keep hbx'.1.k) (HX.out.keep hbx'.1.k) (by omega) (by omega)).mono ?_;rintro en w9 ⟨u,rfl,hu,hb⟩;rw[HMM.out]at hu
    exact⟨u,rfl,KT.of hb (HSB.out hbx'.1),hu,⟨hbx'.1.trans (KT.of hb (HSB.out hbx'.1)),by simpa [upd]using hbx'.2.later hb (fun o h=>h.below hb)⟩⟩
  case refine_8=>
   have k6:Fit 33 (MM) (sp 6) w':=(hdp 6 (mq (by kernel_rfl))).2
   (with_reducible refine Ac (w1:=w') (f := 32) (args:=#[.pointer (some ⟨r,0,none⟩),.agg #[.slice pk nk ck],sp 6]) ?_ ?_ ?_)
   .simp[Region.wanted,yielded,Act.put,go_sem]
   .simp[Act.eval,Act.put,go_sem]
   .refine(Oc (HR.out w' hbx'.1) (HK.out.keep hbx'.1.k) k6 (by omega) (by decide)).mono ?_;rintro en w9 ⟨u,rfl,hu,hb⟩;rw[HSS.out]at hu
    exact⟨u,rfl,KT.of hb (HSB.out hbx'.1),hu,⟨hbx'.1.trans (KT.of hb (HSB.out hbx'.1)),by simpa [upd]using hbx'.2.later hb (fun o h=>h.below hb)⟩⟩
  case refine_9=>
   have hx:∃p n c,sp 7=.agg #[.slice p n c]/\Aj w' p n c (SS)/\SS<Ar (33):=(hdp 7 (mq (by kernel_rfl))).2
   (with_reducible refine Ay hx fun p hx1=>Ay hx1 fun n hx2=>Ay hx2 fun c hx3=>?_)
   have h1:=hx3.1
   (with_reducible refine Ai (w1:=w') (v:=.agg #[.slice pc nc cc,.slice p n c]) ?_ ?_ ?_)
   .simp only[Region.wanted]
   .simp[execOp,Act.eval,Act.put,go_sem,h1]
   .exact⟨KT.same _ _ _,⟨(pc,nc,cc),(p,n,c),rfl,Hs (HC.out.keep hbx'.1.k),hx3.2.1⟩,by simpa [upd]using hbx'⟩
  case refine_10=>
   have hx:∃x y:Option Addr×Nat×Nat,sp 8=.agg #[.slice x.1 x.2.1 x.2.2,.slice y.1 y.2.1 y.2.2]/\Gq w' x CC/\Gq w' y SS:=(hdp 8 (mq (by kernel_rfl))).2
   (with_reducible refine Ay hx fun x hx1=>Ay hx1 fun y hx2=>?_)
   have h1:=hx2.1;rw[hD]at hbx'
   have h5:w'.heap[(w.heap.size+1+1+1)]? = some (.cells #[.slice none 0 0,.slice none 0 0] 125 (0,0)):=hbx'.2.1 rfl;have hp:=rE (u0:=.slice x.1 x.2.1 x.2.2) (u1:=.slice y.1 y.2.1 y.2.2) h5;have hkt:=hp.kt h5 (nV (none,0,0) (none,0,0)) (As _);have g0:=cells2 h5
   (with_reducible refine Aq (w1:=set2 w' (w.heap.size+1+1+1) (.slice x.1 x.2.1 x.2.2) (.slice y.1 y.2.1 y.2.2)) ?_ ?_ ?_)
   .simp only[Region.wanted]
   .simp[execOp,Act.eval,Act.put,go_sem,h1,g0.1,g0.2.1,g0.2.2,set2]
   .refine⟨hkt,trivial,hbx'.1.trans hkt,?_⟩;have h8:mQ true (w.heap.size+1+1+1) zP (qZ CC SS) _:=mQ.done hp.new ⟨x,y,rfl,hkt.k.nat _ _ _ _ hx2.2.1,hkt.k.nat _ _ _ _ hx2.2.2⟩;simpa [upd]using h8
  all_goals ((with_reducible refine Ad ?_ ?_);all_goals first|(simp only[Region.wanted];done)|simp[Region.wanted,yielded,execOp,Act.eval,Act.put,go_sem])
 .intro sp w8 hsp hk;obtain⟨hk1,hk2⟩:=hk;obtain⟨_,hz,x,y,rfl,hC,hS⟩:=hk2.2 rfl;have g0:=cells2 hz;have k0:=g0.1.1;have k1:=g0.1.2;have HV:Aa (Rv CC SS (.agg #[.slice x.1 x.2.1 x.2.2,.slice y.1 y.2.1 y.2.2]) w8):=⟨⟨x,y,rfl,hC,hS⟩⟩
  have HB7:Aa (Below w.heap.size w w8):=⟨HB1.out.trans (hk1.k.bel.mono (by omega))⟩
  clear hsp hk1 hk2 hz hC hS g0 hz3;simp only[An,Nat.reduceAdd];generalize sp 6=y6,sp 7=y7,sp 8=y8,sp 9=y9 at *
  go_simp
  go_wp2;exact bodyPost_ret (v:=.agg #[.slice x.1 x.2.1 x.2.2,.slice y.1 y.2.1 y.2.2]) (by simp[results,Tryz.results67,go_sem,k0,k1]) rfl ⟨_,rfl,HV.out,HB7.out⟩
end Go.Proofs.YtokhckjemidbpaaGreatDoor
