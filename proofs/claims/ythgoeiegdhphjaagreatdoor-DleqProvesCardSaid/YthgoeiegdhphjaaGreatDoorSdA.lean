/- The document's side of signatures: its group, its bytes, its challenge. -/
import Derived.Lib.SmallJoins
import Derived.Test.YthgoeiegdhphjaaGreatDoorSgA
set_option maxRecDepth 1000000
set_option maxHeartbeats 16000000
set_option linter.all false
namespace Go.Proofs.YthgoeiegdhphjaaGreatDoor
open Go Go.RowKit Go.Proofs.YthgoeiegdhphjaaGreatDoor.Flow
theorem Jf {w:World}{g:Nat}{t:TypeId}{fr:Nat×Nat}{bs:List Nat}{n:Nat}(h:w.heap[g]? = some (.cells (bs.map fun(x:Nat)=>Value.int .u8 (x:Int)).toArray t fr))(hn:n=bs.length)(hm:n<=9223372036854775807):Bd w .u8 (some ⟨g,0,none⟩) n n bs :=
 ⟨hn,Av _,hm,fun _=>⟨hn,Av _,hm,.inr ⟨g,0,rfl,(Ep h).1,fun i x hx=>by
  rw[Nat.zero_add];unfold World.cell?
  dsimp only
  rw[h];simp[hx]⟩⟩⟩
def Og (n:Nat)(bs:List Nat)(v:Value)(w:World):Prop:=∃g,v=.tuple #[.slice (some ⟨g,0,none⟩) n n,.int .i64 0]/\Bl w g 5 .u8 bs
def Gt (n:Nat)(bs:List Nat)(v:Value)(w:World):Prop:=∃g,v=.slice (some ⟨g,0,none⟩) n n/\Bl w g 5 .u8 bs
theorem Og.below {n:Nat}{bs:List Nat}{v:Value}{w w':World}(h:Og n bs v w)(hb:Below w.heap.size w w'):Og n bs v w' :=
 let ⟨g,h1,h2⟩:=h
 ⟨g,h1,h2.below hb h2.lt⟩
theorem Gt.below {n:Nat}{bs:List Nat}{v:Value}{w w':World}(h:Gt n bs v w)(hb:Below w.heap.size w w'):Gt n bs v w' :=
 let ⟨g,h1,h2⟩:=h
 ⟨g,h1,h2.below hb h2.lt⟩
theorem jK {w:World}{e N s:Nat}{v:Value}(h:Fit e N v w)(he:e<=30000)(hs:s<=1000)(hl:N<B8 s) :
  Calls Tryz.prog 130 #[v,.int .i64 (s:Nat)] w fun en w'=>∃x,en=.returned x/\Og s (As N s) x w'/\Below w.heap.size w w':=by
 obtain⟨p,n,c,rfl,h1,h2⟩:=h;have l1:=h1.len_le h2;have l2:=Fs h2;have l3:=Hv.2 hl;refine(Qg w p n c N s h1 (by omega) (by omega) (by omega) (by omega)).mono ?_;rintro en w' ⟨g,rfl,hb,hbel,_⟩;exact⟨_,rfl,⟨g,rfl,hb⟩,hbel⟩
theorem Gr {w:World}{g n N:Nat}(h:Bl w g 5 .u8 (As N n))(hn:n<=1000):Aq w ⟨some ⟨g,0,none⟩,n,n,As N n⟩ :=
 ⟨⟨(Bq N n).symm,Av _,Dx hn (by decide),fun _=>h.row (Bq N n).symm (Av _) (Dx hn (by decide))⟩,(Gc N n).reverse⟩
theorem lD (w:World)(P Q R S:Part)(hP:Aq w P)(hQ:Aq w Q)(hR:Aq w R)(hS:Aq w S):Br (w.alloc (.cells #[.slice P.p P.n P.c,.slice Q.p Q.n Q.c,.slice R.p R.n R.c,.slice S.p S.n S.c] 60)) (some ⟨w.heap.size,0,none⟩) 4 4 [P,Q,R,S]:=by
 have hb:Below w.heap.size w (w.alloc (.cells #[.slice P.p P.n P.c,.slice Q.p Q.n Q.c,.slice R.p R.n R.c,.slice S.p S.n S.c] 60)):=Bw;have hn:=heap_alloc_new w (.cells #[.slice P.p P.n P.c,.slice Q.p Q.n Q.c,.slice R.p R.n R.c,.slice S.p S.n S.c] 60);refine⟨rfl,Av _,by omega,fun i X hX=>?_,fun _=>⟨w.heap.size,0,rfl,by simp,fun i X hX=>?_⟩⟩
 .match i,hX with
  | 0,h=>cases h;exact hP.below hb
  | 1,h=>cases h;exact hQ.below hb
  | 2,h=>cases h;exact hR.below hb
  | 3,h=>cases h;exact hS.below hb
 .match i,hX with
  | 0,h=>cases h;unfold World.cell?;dsimp only;rw[hn];rfl
  | 1,h=>cases h;unfold World.cell?;dsimp only;rw[hn];rfl
  | 2,h=>cases h;unfold World.cell?;dsimp only;rw[hn];rfl
  | 3,h=>cases h;unfold World.cell?;dsimp only;rw[hn];rfl
structure KC (B:Nat) (w w':World):Prop where
 bel:Below B w w'
 cell:∀p v,w.cell? p=some v->w'.cell? p=some v
 shape:∀g s,w.shape? g=some s->w'.shape? g=some s
theorem Qw {w w':World}(h:Below w.heap.size w w'){g:Nat}{s:TypeId×Nat}(hs:w.shape? g=some s):w'.shape? g=some s:=by
 have hg:g<w.heap.size:=by
  rcases Nat.lt_or_ge g w.heap.size with k|k
  .exact k
  .unfold World.shape? at hs;rw[Array.getElem?_eq_none k]at hs
   cases hs
 unfold World.shape? at *;rw[h.block g hg];exact hs
theorem cell_below {w w':World}(h:Below w.heap.size w w'){p:Addr}{v:Value}(hp:w.cell? p=some v):w'.cell? p=some v:=by
 have hg:p.block<w.heap.size:=by
  rcases Nat.lt_or_ge p.block w.heap.size with k|k
  .exact k
  .unfold World.cell? at hp;rw[Array.getElem?_eq_none k]at hp
   cases hp
 rw[h.cell (p:=p) hg];exact hp
theorem KC.of {B:Nat}{w w':World}(h:Below w.heap.size w w')(hB:B<=w.heap.size):KC B w w':=⟨h.mono hB,fun _ _ hp=>cell_below h hp,fun _ _ hs=>Qw h hs⟩
theorem KC.same (B:Nat)(w:World):KC B w w:=⟨Bg _ _,fun _ _ h=>h,fun _ _ h=>h⟩
theorem KC.trans {B:Nat}{w1 w2 w3:World}(h:KC B w1 w2)(k:KC B w2 w3):KC B w1 w3:=⟨h.bel.trans k.bel,fun p v x=>k.cell p v (h.cell p v x),fun g s x=>k.shape g s (h.shape g s x)⟩
theorem KC.drew (B:Nat)(w:World):KC B w w.drew:=⟨(Bg _ _).drew,fun _ _ h=>h,fun _ _ h=>h⟩
theorem Mc (w:World)(a:Addr)(n:Nat)(p:Addr):(w.freeze a n).cell? p=w.cell? p:=by
 unfold World.freeze;split
 .rfl
 .unfold World.cell?;simp only[Array.getElem?_modify]
  by_cases h:a.block=p.block
  .simp only[h,if_true]
   cases w.heap[p.block]? with
   | none=>rfl
   | some o=>cases o<;>rfl
  .simp only[h,if_false]
theorem Pb (w:World)(a:Addr)(n:Nat)(g:Nat):(w.freeze a n).shape? g=w.shape? g:=by
 unfold World.freeze;split
 .rfl
 .unfold World.shape?;simp only[Array.getElem?_modify]
  by_cases h:a.block=g
  .simp only[h,if_true]
   cases w.heap[g]? with
   | none=>rfl
   | some o=>cases o<;>rfl
  .simp only[h,if_false]
theorem KC.mark {B g:Nat}{w:World}(k:Nat)(hB:B<=g):KC B w (w.freeze ⟨g,k,none⟩ 1) :=
 ⟨⟨rfl,rfl,rfl,by simp[World.freeze],fun j hj=>by
  unfold World.freeze;simp only[Nat.one_ne_zero,if_false,Array.getElem?_modify];rw[if_neg (by omega)]⟩,fun p v h=>by rw[Mc];exact h,fun j s h=>by rw[Pb];exact h⟩
theorem run_mark {w:World}{g n c k:Nat}(hs:w.shape? g=some (5,k)):(convert 60 60 (.slice (some ⟨g,0,none⟩) n c)).run Tryz.prog w=.ok (.slice (some ⟨g,0,none⟩) n c) (w.freeze ⟨g,k,none⟩ 1):=by
 simp[convert,run_underlying Tryz.underlying60,run_underlying Tryz.underlying5,markStringish,hs]
theorem Row.kc {B:Nat}{w w':World}{k:IntKind}{p:Option Addr}{n c:Nat}{xs:List Nat}(h:Row w k p n c xs)(hk:KC B w w'):Row w' k p n c xs:=by
 refine⟨h.len,h.cap,h.max,?_⟩;rcases h.at_ with h1|⟨b,off,h1,h2,h3⟩
 .exact .inl h1
 .exact .inr ⟨b,off,h1,Dj h2 hk.bel.size,fun i x hx=>hk.cell _ _ (h3 i x hx)⟩
theorem Aq.kc {B:Nat}{w w':World}{P:Part}(h:Aq w P)(hk:KC B w w'):Aq w' P:=⟨⟨h.row.len,h.row.cap,h.row.max,fun h0=>(h.row.row h0).kc hk⟩,h.bytes⟩
theorem Br.kc {B:Nat}{w w':World}{p:Option Addr}{n c:Nat}{L:List Part}(h:Br w p n c L)(hk:KC B w w'):Br w' p n c L :=
 ⟨h.len,h.cap,h.max,fun i P hP=>(h.ok i P hP).kc hk,fun h0=>by
  obtain⟨b,off,h1,h2,h3⟩:=h.cells h0;exact⟨b,off,h1,Dj h2 hk.bel.size,fun i P hP=>hk.cell _ _ (h3 i P hP)⟩⟩
theorem kE {P Q R S:Part}(h1:P.p=none->P.c=0)(h2:Q.p=none->Q.c=0)(h3:R.p=none->R.c=0)(h4:S.p=none->S.c=0):Gs [P,Q,R,S]:=fun X hX=>by
 simp only[List.mem_cons,List.not_mem_nil,or_false]at hX;rcases hX with rfl|rfl|rfl|rfl
 .exact h1
 .exact h2
 .exact h3
 .exact h4
theorem Ob {w:World}{e N s:Nat}{v:Value}(h:Fit e N v w)(he:e<=30000)(hs:s<=1000)(hl:N<B8 s) :
  Calls Tryz.prog 130 #[v,.int .i64 (s:Nat)] w fun en w'=>∃g,en=.returned (.tuple #[.slice (some ⟨g,0,none⟩) s s,.int .i64 0])/\Bl w' g 5 .u8 (As N s)/\w.heap.size<=g/\Below w.heap.size w w':=by
 obtain⟨p,n,c,rfl,h1,h2⟩:=h;have l1:=h1.len_le h2;have l2:=Fs h2;have l3:=Hv.2 hl;refine(Qg w p n c N s h1 (by omega) (by omega) (by omega) (by omega)).mono ?_;rintro en w' ⟨g,rfl,hb,hbel,hn⟩;exact⟨g,rfl,hb,hn,hbel⟩
def Xe (B n:Nat)(bs:List Nat)(v:Value)(w:World):Prop:=∃g,v=.tuple #[.slice (some ⟨g,0,none⟩) n n,.int .i64 0]/\B<=g/\Bl w g 5 .u8 bs
def Ux (B n:Nat)(bs:List Nat)(v:Value)(w:World):Prop:=∃g,v=.slice (some ⟨g,0,none⟩) n n/\B<=g/\Bl w g 5 .u8 bs
theorem Xe.below {B n:Nat}{bs:List Nat}{v:Value}{w w':World}(h:Xe B n bs v w)(hb:Below w.heap.size w w'):Xe B n bs v w' :=
 let ⟨g,h1,h2,h3⟩:=h
 ⟨g,h1,h2,h3.below hb h3.lt⟩
theorem Ux.below {B n:Nat}{bs:List Nat}{v:Value}{w w':World}(h:Ux B n bs v w)(hb:Below w.heap.size w w'):Ux B n bs v w' :=
 let ⟨g,h1,h2,h3⟩:=h
 ⟨g,h1,h2,h3.below hb h3.lt⟩
theorem Nv {w:World}{b P Q G H e A sz:Nat}{v:Value}(hg:Ba w b P Q G H)(hv:Fit e A v w)(he:e<=30000)(hA:A<P)(hsz:Ak P=sz)(hs:sz<=16) :
  Calls Tryz.prog 148 #[.pointer (some ⟨b,0,none⟩),v] w fun en w'=>∃g,en=.returned (.slice (some ⟨g,0,none⟩) sz sz)/\w.heap.size<=g/\Bl w' g 5 .u8 (As A sz)/\Below w.heap.size w w':=by
 obtain⟨pa,na,ca,rfl,h1,h2⟩:=Ax hv;have hX0:=Ag.made w (.slice pa na ca);have hb0:Below w.heap.size w (w.alloc (.cells #[.slice pa na ca] 36)):=Bw;obtain⟨wa,hwa⟩:∃wa,w.alloc (.cells #[.slice pa na ca] 36)=wa:=⟨_,rfl⟩
 rw[hwa]at hX0 hb0
 have HBL:=Ab hb0;have HX0:=Ab hX0;have HA:=Ab ((Fit.of h1 h2).below hb0);have HG:=Ab (hg.below hb0);have hlm:=Eu P;rw[hsz]at hlm
 have HSZ:=Ab hsz;have HLM:Aa (A<B8 sz):=⟨by omega⟩
 clear h1 h2 hX0 hb0 hg hv hsz hlm hA;go_enter Tryz.func148,Tryz.ntmps148;go_wp2;refine Aj (by kernel_rfl) (by kernel_rfl)
  [some (.agg #[.slice pa na ca]),some (.pointer (some ⟨b,0,none⟩)),none,none,none,none,some (.int .i64 0),none,some (.int .i64 0)]
  [false,false,true,true,true,true,false,true,false] rfl
  (fun w1 w2=>Below w1.heap.size w1 w2)
  (fun _ w'=>Below wa.heap.size wa w')
  (fun i v w'=>match i with
   | 2=>v=.int .i64 (sz:Nat)
   | 3=>Xe w.heap.size (sz) (As A sz) v w'
   | 4=>Xe w.heap.size (sz) (As A sz) v w'
   | 5=>Ux w.heap.size (sz) (As A sz) v w'
   | 7=>Ux w.heap.size (sz) (As A sz) v w'
   | _=>True)
  ?_ (Bg _ _).drew ?_ ?_
 .intro i v w1 w2 hf hb;split at hf
  .exact hf
  .exact hf.below hb
  .exact hf.below hb
  .exact hf.below hb
  .exact hf.below hb
  .trivial
 .simp only[Bc,Nat.reduceAdd];refine⟨?_,?_,?_,?_,?_,?_,?_,?_,?_,trivial⟩
  all_goals intro D sp w' hD hW hdp hbx'
  case refine_1=>
   have c0:=(HX0.out.below hbx' HX0.out.lt).cell
   with_reducible refine Ad ?_ ?_
   all_goals simp[Region.wanted,yielded,execOp,Act.eval,Act.put,go_sem,c0]
  case refine_3=>
   (with_reducible refine Ac (w1:=w') (f := 193) (args:=#[.pointer (some ⟨b,0,none⟩)]) ?_ ?_ ?_)
   .simp[Region.wanted,yielded,Act.put,go_sem]
   .simp[Act.eval,Act.put,go_sem]
   .refine(iW (HG.out.below hbx')).mono ?_;rintro en w9 ⟨rfl,hb⟩;rw[HSZ.out];exact⟨_,rfl,hb,rfl,Ae hbx' hb⟩
  case refine_4=>
   have k2:(sp 2)=.int .i64 (sz:Nat):=(hdp 2 (mq (by kernel_rfl))).2
   (with_reducible refine Ac (w1:=w') (f := 130) (args:=#[.agg #[.slice pa na ca],.int .i64 (sz:Nat)]) ?_ ?_ ?_)
   .first|(simp only[Region.wanted];done)|simp[Region.wanted,yielded,Act.put,go_sem,k2]
   .simp[Act.eval,Act.put,go_sem,k2]
   .refine(Ob (HA.out.below hbx') he (by omega) HLM.out).mono ?_;rintro en w9 ⟨g9,rfl,hu,hg9,hb⟩;exact⟨_,rfl,hb,⟨g9,rfl,Dx HBL.out.size (Dx hbx'.size hg9),hu⟩,Ae hbx' hb⟩
  case refine_5=>
   have k3:Xe w.heap.size (sz) (As A sz) (sp 3) w':=(hdp 3 (mq (by kernel_rfl))).2
   (with_reducible refine Af (w1:=w') (v:=sp 3) ?_ ?_ ?_)
   .simp[Region.wanted,yielded,Act.put,go_sem]
   .simp[execOp,Act.eval,Act.put,go_sem]
   .exact⟨Bg _ _,k3,hbx'⟩
  case refine_6=>
   have hx:∃g,sp 4=.tuple #[.slice (some ⟨g,0,none⟩) (sz) (sz),.int .i64 0]/\w.heap.size<=g/\Bl w' g 5 .u8 (As A sz):=(hdp 4 (mq (by kernel_rfl))).2
   (with_reducible refine Aw hx fun g hx1=>?_)
   have h1:=hx1.1
   (with_reducible refine Af (w1:=w') (v:=.slice (some ⟨g,0,none⟩) (sz) (sz)) ?_ ?_ ?_)
   .simp only[Region.wanted]
   .simp[execOp,Act.eval,Act.put,go_sem,h1]
   .exact⟨Bg _ _,⟨g,rfl,hx1.2⟩,hbx'⟩
  case refine_7=>
   have hx:∃g,sp 4=.tuple #[.slice (some ⟨g,0,none⟩) (sz) (sz),.int .i64 0]/\w.heap.size<=g/\Bl w' g 5 .u8 (As A sz):=(hdp 4 (mq (by kernel_rfl))).2
   (with_reducible refine Aw hx fun g hx1=>?_)
   have h1:=hx1.1
   with_reducible refine Ad ?_ ?_
   all_goals simp[Region.wanted,yielded,execOp,Act.eval,Act.put,go_sem,h1]
  case refine_8=>
   have k5:Ux w.heap.size (sz) (As A sz) (sp 5) w':=(hdp 5 (mq (by kernel_rfl))).2
   (with_reducible refine Af (w1:=w') (v:=sp 5) ?_ ?_ ?_)
   .simp[Region.wanted,yielded,Act.put,go_sem]
   .simp[execOp,Act.eval,Act.put,go_sem]
   .exact⟨Bg _ _,k5,hbx'⟩
  all_goals ((with_reducible refine Ad ?_ ?_);all_goals first|(simp only[Region.wanted];done)|simp[Region.wanted,yielded,execOp,Act.eval,Act.put,go_sem])
 .intro sp w1 hsp hb1;obtain⟨ga,e7,hga,hk7⟩:Ux w.heap.size sz (As A sz) (sp 7) w1:=hsp 7 rfl;have HKA:=Ab hk7;have HGA:=Ab hga;have HBL1:=Ab (Ae HBL.out hb1);clear hsp hb1 hk7 hga;simp only[Am,Nat.reduceAdd];rw[e7];clear e7 hwa;generalize sp 2=y2,sp 3=y3,sp 4=y4,sp 5=y5 at *
  go_simp
  go_wp2;go_ret;exact⟨ga,rfl,HGA.out,HKA.out,HBL1.out⟩
theorem cV (w:World)(p:Option Addr)(n c N s:Nat)(h:Bj w p n c N)(hs:s<=1000000)(hN:Ap N<=1000000000)(h2:¬s<Ak N) :
  Calls Tryz.prog 80 #[.slice p n c,.int .i64 s] w fun e w'=>e=.returned (.tuple #[.slice (some ⟨w.heap.size,0,none⟩) s s,.bool true])/\Bl w' w.heap.size 5 .u8 (As N s)/\Below w.heap.size w w':=by
 have hl:n=Ap N:=by have:=h.len;rwa [Be]at this
 have hmk:=Ow s (by omega);have hsn:n<=8*s:=by unfold Ak at h2;omega
 have h3:¬(s:Int)<((n:Int)+7)/8:=by omega
 have hw7:IntKind.i64.wrap ((n:Int)+7)=(n:Int)+7:=IntWalk.i64_in _ (by omega);have hw8:IntKind.i64.wrap (((n:Int)+7)/8)=((n:Int)+7)/8:=IntWalk.i64_in _ (by omega);have HL:=Ah hl;have hn9:n<=1000000000:=by omega
 clear hl h2;go_enter Tryz.func80,Tryz.ntmps80;go_wp2
 go_loopw [19] (fun i wr=>∃k:Nat,k<=n/\i=.int .i64 k/\w.heap.size<wr.heap.size/\Below w.heap.size w wr/\Bl wr w.heap.size 5 .u8 (As (N%2^k) s)) (fun i _=>n-(intOf i).toNat)
 case atStart=>
  refine⟨0,by omega,rfl,by simp,(Bg _ _).alloc (Av _) _,?_⟩;have:=Bl.zeros w 5 .u8 s;rw[Nat.pow_zero,Nat.mod_one,Xa];exact this
 case round=>
  obtain⟨k,hk,rfl,hsz,hbw,hblk⟩:=hrel
  by_cases hkn:k<n
  .obtain⟨b,off,rfl,hb,hc⟩:=h.pos (by omega);obtain⟨x,hx⟩:∃x,bit N k=x:=⟨_,rfl⟩
   have hci:wr.cell? ⟨b,off+k,none⟩=some (.bool x):=by
    rw[(Bz hbw).1 _ _ hb];exact hc k x (by rw[Db (by rw[<-HL.out];exact hkn),hx])
   have HX:=Ah hx;clear hc hx;go_wp2
   .have hxt:x=true:=by assumption
    have HB:Hid (N%2^(k+1)=N%2^k+2^k):=Ah (by rw[Je,HX.out,if_pos hxt]);have hMk:N%2^k<2^k:=Nat.mod_lt _ (Nat.pow_pos (by omega));obtain⟨q,hq⟩:∃q,k/8=q:=⟨_,rfl⟩
    obtain⟨r,hr⟩:∃r,k%8=r:=⟨_,rfl⟩
    have hqs:q<s:=by omega
    obtain⟨j,hj⟩:∃j,s-1-q=j:=⟨_,rfl⟩
    obtain⟨z,hz⟩:∃z,2^r=z:=⟨_,rfl⟩
    have hset:=bR (n:=s) hMk (by omega) (j:=j) (by omega);have hget:=bQ (M:=N%2^k) hqs hj.symm;have hlt:=(Tv (n:=s) hMk (by omega)).1;rw[hq,hr]at hset hlt
    obtain⟨d,hd⟩:∃d,N%2^k/B8 q%256=d:=⟨_,rfl⟩
    rw[hd]at hset hget hlt
    rw[hz]at hset hlt
    have hr8:r<8:=by omega
    have hz8:z<=128:=by rw[<-hz];exact Nat.pow_le_pow_right (show 0<2 by omega) (show r<=7 by omega)
    have t1:IntKind.i64.wrap ((k:Int)/8)=(q:Int):=by rw[IntWalk.i64_in _ (by omega)];omega
    have t2:(k:Int).tmod 8=(r:Int):=by rw[Int.tmod_eq_emod_of_nonneg (by omega)];omega
    have t4:IntKind.i64.wrap ((s:Int)-1)=(s:Int)-1:=IntWalk.i64_in _ (by omega);have t5:IntKind.i64.wrap ((s:Int)-1-q)=(j:Nat):=by
     rw[IntWalk.i64_in _ (by omega)];omega
    have t6:(j:Int)<s:=by omega
    have t7:j<s:=by omega
    have t8:IntKind.u8.wrap ((d:Int)+z)=(d:Int)+z:=IntWalk.u8_in _ (by omega);have t9:IntKind.u8.wrap ((2:Int)^r)=z:=by
     rw[show ((2:Int)^r)=(z:Nat) by rw[<-hz,Int.natCast_pow];rfl];exact IntWalk.u8_in _ (by omega)
    clear hq hr hd hj hMk;have HJ:=Ah hz;clear hz;refine Aj (by kernel_rfl) (by kernel_rfl)
     [some (.slice (some ⟨w.heap.size,0,none⟩) s s),some (.int .i64 s),some (.int .i64 ((s:Int)-1)),some (.int .i64 k),some (.int .i64 (q:Nat)),some (.int .i64 (j:Nat)),some (.pointer (some ⟨w.heap.size,j,none⟩)),some (.int .u8 (d:Nat)),
      some (.int .i64 k),some (.int .i64 (r:Nat)),some (.int .u8 (z:Nat)),some (.int .u8 (d+z:Nat)),some (.pointer (some ⟨w.heap.size,j,none⟩)),none]
     [false,false,false,false,false,false,false,false,false,false,false,false,false,true] rfl
     (fun _ _=>True)
     (fun D w'=>Below w.heap.size w w'/\w.heap.size<w'.heap.size/\Bl w' w.heap.size 5 .u8 (if D 13 then As (N%2^k+2^k) s else As (N%2^k) s))
     (fun _ _ _=>True)
     (fun _ _ _ _ h _=>h) ⟨hbw.trans ((Bg _ _).drew.mono (Av _)),hsz,hblk⟩ ?_ ?_
    .simp only[Bc,Nat.reduceAdd];refine⟨?_,?_,?_,?_,?_,?_,?_,?_,?_,?_,?_,?_,?_,?_,trivial⟩
     case refine_8=>
      intro D sp w' hD hW hdp ⟨hb',hsz',hblk'⟩;have h13:D 13=false:=hW 13 (mq (by kernel_rfl));rw[h13]at hblk'
      simp only[Bool.false_eq_true,if_false]at hblk';have hcl:w'.cell? ⟨w.heap.size,j,none⟩=some (.int .u8 (d:Nat)):=hblk'.cell hget;simp[asked,Region.wanted,Oper.gives,execOp,Act.eval,Act.put,go_sem,hcl]
     case refine_14=>
      intro D sp w' hD hW hdp ⟨hb',hsz',hblk'⟩;rw[hD]at hblk'
      simp only[Bool.false_eq_true,if_false]at hblk';have hcl:w'.cell? ⟨w.heap.size,j,none⟩=some (.int .u8 (d:Nat)):=hblk'.cell hget;have hfr:=hblk'.free j
      (with_reducible refine An (w1:=w'.setCell ⟨w.heap.size,j,none⟩ (.int .u8 (d+z:Nat))) ?_ ?_ ?_)
      .simp only[Region.wanted]
      .simp[execOp,Act.eval,Act.put,go_sem,hcl,hfr]
      .refine⟨trivial,trivial,hb'.setCell (Av _) _,by simpa using hsz',?_⟩;simp only[decide_true,Bool.or_true,if_true];rw[<-hset];exact hblk'.set _ _
     all_goals
      intro D sp w' hD hW hdp ⟨hb',hsz',hblk'⟩;simp[asked,Region.wanted,Oper.gives,execOp,Act.eval,Act.put,go_sem,t1,t2,t4,t5,t6,t8,t9]
    .intro sp w' hsp ⟨hb',hsz',hblk'⟩;have hblk2:Bl w' w.heap.size 5 .u8 (As (N%2^k+2^k) s):=hblk';clear hblk' hsp t1 t2 t4 t5 t6 t8 t9;simp only[Am,Nat.reduceAdd]
     go_simp
     go_wp2;go_roundw
     case rel=>exact⟨k+1,by omega,by go_num,hsz',hb',by rw[HB.out];exact hblk2⟩
     case measure=>simp[intOf];omega
   .have hxt:x=false:=by assumption
    have HB:Hid (N%2^(k+1)=N%2^k):=Ah (by rw[Je,HX.out,if_neg (by simp[hxt]),Nat.add_zero]);go_roundw
    case rel=>exact⟨k+1,by omega,by go_num,hsz,hbw,by rw[HB.out];exact hblk⟩
    case measure=>simp[intOf];omega
  .have HK:Hid (k=n):=Ah (by omega);go_wp2
   go_ret2
   have e:N%2^k=N:=Nat.mod_eq_of_lt ((Bi N k).1 (by rw[HK.out,HL.out];exact Av _));rw[e]at hblk
   exact⟨rfl,hblk,hbw⟩
theorem Qb {N:Nat}(h:Ak N<=16):Ap N<=100000:=by unfold Ak at h;omega
theorem Dr {N M:Nat}(h:N<M)(hM:Ak M<=16):Ap N<=100000:=Dx (Nc (Nat.le_of_lt h)) (Qb hM)
theorem aP {w:World}{b P Q G H:Nat}(h:Ba w b P Q G H) :
  Calls Tryz.prog 19 #[.pointer (some ⟨b,0,none⟩)] w fun e w'=>∃x,e=.returned x/\oI Q x w'/\Below w.heap.size w w':=by
 refine(Kw h).mono ?_;rintro en w' ⟨r,rfl,hr,hb⟩;exact⟨_,rfl,⟨r,rfl,hr⟩,hb⟩
theorem Zt {w:World}{b P Q G H:Nat}(hg:Ba w b P Q G H) :
  Calls Tryz.prog 16 #[.pointer (some ⟨b,0,none⟩)] w fun e w'=>∃x,e=.returned x/\Df P Q G H x w'/\Below w.heap.size w w':=by
 have hbx:Below w.heap.size w (w.alloc (.cells #[.slice none 0 0,.slice none 0 0,.slice none 0 0,.slice none 0 0] 30)):=Bw;have HBX:=Ab (Cp.made 30 w (.slice none 0 0) (.slice none 0 0) (.slice none 0 0) (.slice none 0 0));obtain⟨wa,hwa⟩:∃wa,w.alloc (.cells #[.slice none 0 0,.slice none 0 0,.slice none 0 0,.slice none 0 0] 30)=wa:=⟨_,rfl⟩
 rw[hwa]at hbx HBX
 have HG:=Ab (hg.below hbx);have HB:=Ab hbx;clear hg hbx;go_enter Tryz.func16,Tryz.ntmps16
 go_wp2_with fail
 refine(Ye HG.out).mono ?_;rintro en w1 ⟨x1,rfl,h1,b1⟩;have H1:=Ab h1;have HG1:=Ab (HG.out.below b1);have HB1:=Ab b1;clear h1 b1
 go_wp2_with fail
 refine(Gb H1.out (by decide)).mono ?_;rintro en w2 ⟨_,rfl,⟨p0,n0,c0,rfl,h2⟩,b2⟩;have H2:=Ab h2;have HG2:=Ab (HG1.out.below b2);have HB2:=Ab (Ae HB1.out b2);clear h2 b2
 go_wp2_with fail
 refine(aP HG2.out).mono ?_;rintro en w3 ⟨x3,rfl,h3,b3⟩;have H23:=Ab (H2.out.below b3);have HG3:=Ab (HG2.out.below b3);have HB3:=Ab (Ae HB2.out b3);obtain⟨r,rfl,hr3⟩:=h3.ex;have H3:Aa (Ring w3 r Q 33):=⟨hr3⟩
 clear h3 hr3 b3
 go_wp2_with fail
 refine(Ee H3.out).mono ?_;rintro en w4 ⟨x4,rfl,h4,b4⟩;have H24:=Ab (H23.out.below b4);have H4:=Ab h4;have HG4:=Ab (HG3.out.below b4);have HB4:=Ab (Ae HB3.out b4);clear h4 b4
 go_wp2_with fail
 refine(Gb H4.out (by decide)).mono ?_;rintro en w5 ⟨_,rfl,⟨p1,n1,c1,rfl,h5⟩,b5⟩;have H25:=Ab (H24.out.below b5);have H5:=Ab h5;have HG5:=Ab (HG4.out.below b5);have HB5:=Ab (Ae HB4.out b5);clear h5 b5
 go_wp2_with fail
 refine(dV HG5.out).mono ?_;rintro en w6 ⟨x6,rfl,h6,b6⟩;have H26:=Ab (H25.out.below b6);have H56:=Ab (H5.out.below b6);have H6:=Ab h6;have HG6:=Ab (HG5.out.below b6);have HB6:=Ab (Ae HB5.out b6);clear h6 b6
 go_wp2_with fail
 refine(Gb H6.out (by decide)).mono ?_;rintro en w7 ⟨_,rfl,⟨p2,n2,c2,rfl,h7⟩,b7⟩;have H27:=Ab (H26.out.below b7);have H57:=Ab (H56.out.below b7);have H7:=Ab h7;have HG7:=Ab (HG6.out.below b7);have HB7:=Ab (Ae HB6.out b7);clear h7 b7
 go_wp2_with fail
 refine(mV HG7.out).mono ?_;rintro en w8 ⟨x8,rfl,h8,b8⟩;have H28:=Ab (H27.out.below b8);have H58:=Ab (H57.out.below b8);have H78:=Ab (H7.out.below b8);have H8:=Ab h8;have HB8:=Ab (Ae HB7.out b8);clear h8 b8
 go_wp2_with fail
 refine(Gb H8.out (by decide)).mono ?_;rintro en w9 ⟨_,rfl,⟨p3,n3,c3,rfl,h9⟩,b9⟩;have H29:=Ab (H28.out.below b9);have H59:=Ab (H58.out.below b9);have H79:=Ab (H78.out.below b9);have H9:=Ab h9;have HB9:=Ab (Ae HB8.out b9);have hbx9:=HBX.out.below HB9.out HBX.out.lt;have g0:=hbx9.cells.1;have g1:=hbx9.cells.2.1;have g2:=hbx9.cells.2.2.1;have g3:=hbx9.cells.2.2.2;have f0:=hbx9.free;clear h9 b9;go_wp2;obtain⟨wf,hwf⟩:∃wf,wf=(((w9.setCell ⟨w.heap.size,0,none⟩ (.slice p0 n0 c0)).setCell ⟨w.heap.size,1,none⟩ (.slice p1 n1 c1)).setCell ⟨w.heap.size,2,none⟩ (.slice p2 n2 c2)).setCell ⟨w.heap.size,3,none⟩ (.slice p3 n3 c3):=⟨_,rfl⟩
 have hkp:Ie w9 wf:=by rw[hwf];exact iU (x0:=(none,0,0)) (x1:=(none,0,0)) (x2:=(none,0,0)) (x3:=(none,0,0)) hbx9 _ _ _ _
 have hst:=Jg hbx9 hwf;have e0:=hst.1.cells.1;have e1:=hst.1.cells.2.1;have e2:=hst.1.cells.2.2.1;have e3:=hst.1.cells.2.2.2;have hbf:=hst.2.2 w.heap.size w (Ae HB.out HB9.out) (Av _);rw[<-hwf];refine bodyPost_ret (v:=.agg #[.slice p0 n0 c0,.slice p1 n1 c1,.slice p2 n2 c2,.slice p3 n3 c3]) (by simp[results,Tryz.results16,go_sem,e0,e1,e2,e3]) rfl ⟨_,rfl,⟨p0,n0,c0,p1,n1,c1,p2,n2,c2,p3,n3,c3,rfl,Pj.kept H29.out hkp,Pj.kept H59.out hkp,Pj.kept H79.out hkp,Pj.kept H9.out hkp⟩,hbf⟩
def Fn (n:Nat)(bs:List Nat)(v:Value)(w:World):Prop:=∃p c,v=.slice p n c/\Aq w ⟨p,n,c,bs⟩/\(p=none->c=0)
theorem Fn.below {n:Nat}{bs:List Nat}{v:Value}{w w':World}(h:Fn n bs v w)(hb:Below w.heap.size w w'):Fn n bs v w' :=
 let ⟨p,c,h1,h2,h3⟩:=h
 ⟨p,c,h1,h2.below hb,h3⟩
theorem Tf {w:World}{N s:Nat}{v:Value}(h:Ao N v w)(hs:s<=1000)(hN:N<B8 s) :
  Calls Tryz.prog 80 #[v,.int .i64 (s:Nat)] w fun en w'=>∃g,en=.returned (.tuple #[.slice (some ⟨g,0,none⟩) s s,.bool true])/\Bl w' g 5 .u8 (As N s)/\w.heap.size<=g/\Below w.heap.size w w':=by
 obtain⟨p,n,c,rfl,h1⟩:=h;have hb:=Hv.2 hN;have hl:Ap N<=8*s:=by have:=hb;unfold Ak at this;omega
 refine(cV w p n c N s h1 (by omega) (by omega) (by omega)).mono ?_;rintro en w' ⟨rfl,hv,hbel⟩;exact⟨_,rfl,hv,Av _,hbel⟩
theorem Yi {w:World}{v:Value}{P Q G H:Nat}(h:Df P Q G H v w)(hl:Ap Q<=100000) :
  Calls Tryz.prog 104 #[v] w fun e w'=>e=.returned (.int .i64 (Ak Q:Nat))/\Below w.heap.size w w':=by
 obtain⟨p0,n0,c0,p1,n1,c1,p2,n2,c2,p3,n3,c3,rfl,h0,h1,h2,h3⟩:=h.ex;have hbx:Below w.heap.size w (w.alloc (.cells #[.slice p0 n0 c0,.slice p1 n1 c1,.slice p2 n2 c2,.slice p3 n3 c3] 30)):=Bw;have hbo:=Cp.made 30 w (.slice p0 n0 c0) (.slice p1 n1 c1) (.slice p2 n2 c2) (.slice p3 n3 c3);obtain⟨wa,hwa⟩:∃wa,w.alloc (.cells #[.slice p0 n0 c0,.slice p1 n1 c1,.slice p2 n2 c2,.slice p3 n3 c3] 30)=wa:=⟨_,rfl⟩
 rw[hwa]at hbx hbo
 have HB:=Ab hbx;have HBX:=Ab hbo;have HV:Aa (Df P Q G H (.agg #[.slice p0 n0 c0,.slice p1 n1 c1,.slice p2 n2 c2,.slice p3 n3 c3]) wa):=⟨⟨p0,n0,c0,p1,n1,c1,p2,n2,c2,p3,n3,c3,rfl,h0.below hbx,h1.below hbx,h2.below hbx,h3.below hbx⟩⟩
 have hn:=Dk h1;have HS:Aa (Ak Q=(n1+7)/8):=⟨by unfold Ak;rw[hn]⟩
 have hn0:n1<=100000:=by omega
 have hdiv:((n1:Int)+7).tdiv 8=(((n1+7)/8:Nat):Int):=by rw[Int.tdiv_eq_ediv_of_nonneg (by omega)];omega
 have c1':=HBX.out.cells.2.1;clear h h0 h1 h2 h3 hn hbx hl hbo;go_enter Tryz.func104,Tryz.ntmps104;go_wp2;go_ret;exact⟨by rw[HS.out];simp,HB.out⟩
theorem Gq {w:World}{v u:Value}{P Q G H N:Nat}(h:Df P Q G H v w)(hu:Ao N u w)(hl:Ap Q<=100000)(hs:Ak Q<=16)(hN:N<B8 (Ak Q)) :
  Calls Tryz.prog 48 #[v,u] w fun e w'=>∃g,e=.returned (.slice (some ⟨g,0,none⟩) (Ak Q) (Ak Q))/\Bl w' g 5 .u8 (As N (Ak Q))/\w.heap.size<=g/\Below w.heap.size w w':=by
 obtain⟨p0,n0,c0,p1,n1,c1,p2,n2,c2,p3,n3,c3,rfl,h0,h1,h2,h3⟩:=h.ex;have hbx:Below w.heap.size w (w.alloc (.cells #[.slice p0 n0 c0,.slice p1 n1 c1,.slice p2 n2 c2,.slice p3 n3 c3] 30)):=Bw;have hbo:=Cp.made 30 w (.slice p0 n0 c0) (.slice p1 n1 c1) (.slice p2 n2 c2) (.slice p3 n3 c3);obtain⟨wa,hwa⟩:∃wa,w.alloc (.cells #[.slice p0 n0 c0,.slice p1 n1 c1,.slice p2 n2 c2,.slice p3 n3 c3] 30)=wa:=⟨_,rfl⟩
 rw[hwa]at hbx hbo
 have HB:=Ab hbx;have HBX:=Ab hbo;have HV:Aa (Df P Q G H (.agg #[.slice p0 n0 c0,.slice p1 n1 c1,.slice p2 n2 c2,.slice p3 n3 c3]) wa):=⟨⟨p0,n0,c0,p1,n1,c1,p2,n2,c2,p3,n3,c3,rfl,h0.below hbx,h1.below hbx,h2.below hbx,h3.below hbx⟩⟩
 obtain⟨q0,m0,d0,rfl,hu0⟩:=hu;have HU:=Ab (Ao.of (hu0.below hbx));have HN:=Ab hN;have HSl:=Ab hs;have g0:=HBX.out.cells.1;have g1:=HBX.out.cells.2.1;have g2:=HBX.out.cells.2.2.1;have g3:=HBX.out.cells.2.2.2;have HW:=Ab (Yi HV.out hl);clear h h0 h1 h2 h3 hbx hl hbo hu0 hN hs;go_enter Tryz.func48,Tryz.ntmps48
 go_wp2_with fail
 refine HW.out.mono ?_;rintro en w1 ⟨rfl,hb1⟩;have HU1:=Ab (HU.out.below hb1);have HB1:=Ab (Ae HB.out hb1);clear hb1 g0 g1 g2 g3
 go_wp2_with fail
 refine(Tf HU1.out (by have:=HSl.out;omega) HN.out).mono ?_;rintro en w2 ⟨x,rfl,hx,hg,hb2⟩;have HX:=Ab hx;have HXG:Aa (w.heap.size<=x):=⟨Dx HB1.out.size hg⟩
 have HB2:=Ab (Ae HB1.out hb2);clear hx hb2 hg;go_wp2;go_ret;exact⟨x,rfl,HX.out,HXG.out,HB2.out⟩
theorem Vk {w:World}{v u:Value}{P Q G H N:Nat}(h:Df P Q G H v w)(hu:Ao N u w)(hl:Ap P<=100000)(hs:Ak P<=16)(hN:N<B8 (Ak P)) :
  Calls Tryz.prog 110 #[v,u] w fun e w'=>∃g,e=.returned (.slice (some ⟨g,0,none⟩) (Ak P) (Ak P))/\Bl w' g 5 .u8 (As N (Ak P))/\w.heap.size<=g/\Below w.heap.size w w':=by
 obtain⟨p0,n0,c0,p1,n1,c1,p2,n2,c2,p3,n3,c3,rfl,h0,h1,h2,h3⟩:=h.ex;have hbx:Below w.heap.size w (w.alloc (.cells #[.slice p0 n0 c0,.slice p1 n1 c1,.slice p2 n2 c2,.slice p3 n3 c3] 30)):=Bw;have hbo:=Cp.made 30 w (.slice p0 n0 c0) (.slice p1 n1 c1) (.slice p2 n2 c2) (.slice p3 n3 c3);obtain⟨wa,hwa⟩:∃wa,w.alloc (.cells #[.slice p0 n0 c0,.slice p1 n1 c1,.slice p2 n2 c2,.slice p3 n3 c3] 30)=wa:=⟨_,rfl⟩
 rw[hwa]at hbx hbo
 have HB:=Ab hbx;have HBX:=Ab hbo;have HV:Aa (Df P Q G H (.agg #[.slice p0 n0 c0,.slice p1 n1 c1,.slice p2 n2 c2,.slice p3 n3 c3]) wa):=⟨⟨p0,n0,c0,p1,n1,c1,p2,n2,c2,p3,n3,c3,rfl,h0.below hbx,h1.below hbx,h2.below hbx,h3.below hbx⟩⟩
 obtain⟨q0,m0,d0,rfl,hu0⟩:=hu;have HU:=Ab (Ao.of (hu0.below hbx));have HN:=Ab hN;have HSl:=Ab hs;have g0:=HBX.out.cells.1;have g1:=HBX.out.cells.2.1;have g2:=HBX.out.cells.2.2.1;have g3:=HBX.out.cells.2.2.2;have HW:=Ab (aV HV.out hl);clear h h0 h1 h2 h3 hbx hl hbo hu0 hN hs;go_enter Tryz.func110,Tryz.ntmps110
 go_wp2_with fail
 refine HW.out.mono ?_;rintro en w1 ⟨rfl,hb1⟩;have HU1:=Ab (HU.out.below hb1);have HB1:=Ab (Ae HB.out hb1);clear hb1 g0 g1 g2 g3
 go_wp2_with fail
 refine(Tf HU1.out (by have:=HSl.out;omega) HN.out).mono ?_;rintro en w2 ⟨x,rfl,hx,hg,hb2⟩;have HX:=Ab hx;have HXG:Aa (w.heap.size<=x):=⟨Dx HB1.out.size hg⟩
 have HB2:=Ab (Ae HB1.out hb2);clear hx hb2 hg;go_wp2;go_ret;exact⟨x,rfl,HX.out,HXG.out,HB2.out⟩
theorem Gj {w:World}{v u t:Value}{P Q G H A E:Nat}(h:Df P Q G H v w)(hu:Ao A u w)(ht:Ao E t w)(lA:Ap A<=100000)(lE:Ap E<=100000)(lP:Ap P<=100000)(hP:0<P) :
  Calls Tryz.prog 86 #[v,u,t] w fun e w'=>∃x,e=.returned x/\Ao (A^E%P) x w'/\Below w.heap.size w w':=by
 obtain⟨p0,n0,c0,p1,n1,c1,p2,n2,c2,p3,n3,c3,rfl,h0,h1,h2,h3⟩:=h.ex;have hbx:Below w.heap.size w (w.alloc (.cells #[.slice p0 n0 c0,.slice p1 n1 c1,.slice p2 n2 c2,.slice p3 n3 c3] 30)):=Bw;have hbo:=Cp.made 30 w (.slice p0 n0 c0) (.slice p1 n1 c1) (.slice p2 n2 c2) (.slice p3 n3 c3);obtain⟨wa,hwa⟩:∃wa,w.alloc (.cells #[.slice p0 n0 c0,.slice p1 n1 c1,.slice p2 n2 c2,.slice p3 n3 c3] 30)=wa:=⟨_,rfl⟩
 rw[hwa]at hbx hbo
 have HB:=Ab hbx;have HBX:=Ab hbo;have HV:Aa (Df P Q G H (.agg #[.slice p0 n0 c0,.slice p1 n1 c1,.slice p2 n2 c2,.slice p3 n3 c3]) wa):=⟨⟨p0,n0,c0,p1,n1,c1,p2,n2,c2,p3,n3,c3,rfl,h0.below hbx,h1.below hbx,h2.below hbx,h3.below hbx⟩⟩
 obtain⟨q0,m0,d0,rfl,hu0⟩:=hu;obtain⟨q1,m1,d1,rfl,ht0⟩:=ht;have HC:=Ab (nF (Ao.of (hu0.below hbx)) (Ao.of (ht0.below hbx)) (Ao.of (h0.below hbx)) lA lE lP hP);have g0:=HBX.out.cells.1;clear h h0 h1 h2 h3 hbx hbo hu0 ht0 lA lE lP hP;go_enter Tryz.func86,Tryz.ntmps86
 go_wp2_with fail
 refine HC.out.mono ?_;rintro en w1 ⟨x,rfl,hx,hb1⟩;have HX:=Ab hx;have HB1:=Ab (Ae HB.out hb1);clear hx hb1 g0;go_wp2;go_ret;exact⟨x,rfl,HX.out,HB1.out⟩
theorem Ao.kc {N B:Nat}{v:Value}{w w':World}(h:Ao N v w)(hk:KC B w w'):Ao N v w':=by
 obtain⟨q,m,d,rfl,hb⟩:=h;refine Ao.of ⟨hb.len,hb.cap,hb.max,?_⟩;rcases hb.at_ with h1|⟨b,off,h1,h2,h3⟩
 .exact .inl h1
 .exact .inr ⟨b,off,h1,Dj h2 hk.bel.size,fun i x hx=>hk.cell _ _ (h3 i x hx)⟩
theorem Fn.kc {n B:Nat}{bs:List Nat}{v:Value}{w w':World}(h:Fn n bs v w)(hk:KC B w w'):Fn n bs v w' :=
 let ⟨p,c,h1,h2,h3⟩:=h
 ⟨p,c,h1,h2.kc hk,h3⟩
theorem qT {w:World}{v u:Value}{P Q G H N sz:Nat}(h:Df P Q G H v w)(hu:Ao N u w)(hl:Ap P<=100000)(hsz:Ak P=sz)(hs:sz<=16)(hN:N<B8 sz) :
  Calls Tryz.prog 110 #[v,u] w fun e w'=>∃x,e=.returned x/\Fn sz (As N sz) x w'/\Below w.heap.size w w':=by
 subst hsz;refine(Vk h hu hl hs hN).mono ?_;rintro en w' ⟨g,rfl,hb,_,hbel⟩;exact⟨_,rfl,⟨_,_,rfl,Gr hb (by omega),fun h=>by cases h⟩,hbel⟩
end Go.Proofs.YthgoeiegdhphjaaGreatDoor
