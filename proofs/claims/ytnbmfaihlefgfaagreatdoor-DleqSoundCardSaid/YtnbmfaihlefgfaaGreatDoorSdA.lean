/- The document's side of signatures: its group, its bytes, its challenge. -/
import Derived.Lib.SmallJoins
import Derived.Test.YtnbmfaihlefgfaaGreatDoorSgA
set_option maxRecDepth 1000000
set_option maxHeartbeats 16000000
set_option linter.all false
namespace Go.Proofs.YtnbmfaihlefgfaaGreatDoor
open Go Go.RowKit Go.Proofs.YtnbmfaihlefgfaaGreatDoor.Flow
theorem Ik {w:World}{g:Nat}{t:TypeId}{fr:Nat×Nat}{bs:List Nat}{n:Nat}(h:w.heap[g]? = some (.cells (bs.map fun(x:Nat)=>Value.int .u8 (x:Int)).toArray t fr))(hn:n=bs.length)(hm:n<=9223372036854775807):Bi w .u8 (some ⟨g,0,none⟩) n n bs :=
 ⟨hn,As _,hm,fun _=>⟨hn,As _,hm,.inr ⟨g,0,rfl,(Gn h).1,fun i x hx=>by
  rw[Nat.zero_add];unfold World.cell?
  dsimp only
  rw[h];simp[hx]⟩⟩⟩
def Nt (n:Nat)(bs:List Nat)(v:Value)(w:World):Prop:=∃g,v=.tuple #[.slice (some ⟨g,0,none⟩) n n,.int .i64 0]/\Bl w g 5 .u8 bs
def Kq (n:Nat)(bs:List Nat)(v:Value)(w:World):Prop:=∃g,v=.slice (some ⟨g,0,none⟩) n n/\Bl w g 5 .u8 bs
theorem Nt.below {n:Nat}{bs:List Nat}{v:Value}{w w':World}(h:Nt n bs v w)(hb:Below w.heap.size w w'):Nt n bs v w' :=
 let ⟨g,h1,h2⟩:=h
 ⟨g,h1,h2.below hb h2.lt⟩
theorem Kq.below {n:Nat}{bs:List Nat}{v:Value}{w w':World}(h:Kq n bs v w)(hb:Below w.heap.size w w'):Kq n bs v w' :=
 let ⟨g,h1,h2⟩:=h
 ⟨g,h1,h2.below hb h2.lt⟩
theorem iB {w:World}{e N s:Nat}{v:Value}(h:Fit e N v w)(he:e<=30000)(hs:s<=1000)(hl:N<B8 s) :
  Calls Tryz.prog 149 #[v,.int .i64 (s:Nat)] w fun en w'=>∃x,en=.returned x/\Nt s (Ar N s) x w'/\Below w.heap.size w w':=by
 obtain⟨p,n,c,rfl,h1,h2⟩:=h;have l1:=h1.len_le h2;have l2:=Fa h2;have l3:=Hz.2 hl;refine(Pr w p n c N s h1 (by omega) (by omega) (by omega) (by omega)).mono ?_;rintro en w' ⟨g,rfl,hb,hbel,_⟩;exact⟨_,rfl,⟨g,rfl,hb⟩,hbel⟩
theorem Ib {w:World}{g n N:Nat}(h:Bl w g 5 .u8 (Ar N n))(hn:n<=1000):Au w ⟨some ⟨g,0,none⟩,n,n,Ar N n⟩ :=
 ⟨⟨(Bp N n).symm,As _,Ec hn (by decide),fun _=>h.row (Bp N n).symm (As _) (Ec hn (by decide))⟩,(Dx N n).reverse⟩
theorem pV (w:World)(P Q R S:Part)(hP:Au w P)(hQ:Au w Q)(hR:Au w R)(hS:Au w S):Bv (w.alloc (.cells #[.slice P.p P.n P.c,.slice Q.p Q.n Q.c,.slice R.p R.n R.c,.slice S.p S.n S.c] 60)) (some ⟨w.heap.size,0,none⟩) 4 4 [P,Q,R,S]:=by
 have hb:Below w.heap.size w (w.alloc (.cells #[.slice P.p P.n P.c,.slice Q.p Q.n Q.c,.slice R.p R.n R.c,.slice S.p S.n S.c] 60)):=By;have hn:=heap_alloc_new w (.cells #[.slice P.p P.n P.c,.slice Q.p Q.n Q.c,.slice R.p R.n R.c,.slice S.p S.n S.c] 60);refine⟨rfl,As _,by omega,fun i X hX=>?_,fun _=>⟨w.heap.size,0,rfl,by simp,fun i X hX=>?_⟩⟩
 .match i,hX with
  | 0,h=>cases h;exact hP.below hb
  | 1,h=>cases h;exact hQ.below hb
  | 2,h=>cases h;exact hR.below hb
  | 3,h=>cases h;exact hS.below hb
 .match i,hX with
  | 0,h=>cases h;unfold World.cell?;dsimp only;rw[hn];rfl
  | 1,h=>cases h;unfold World.cell?;dsimp only;rw[hn];rfl
  | 2,h=>cases h;unfold World.cell?;dsimp only;rw[hn];rfl
  | 3,h=>cases h;unfold World.cell?;dsimp only;rw[hn];rfl
structure KC (B:Nat) (w w':World):Prop where
 bel:Below B w w'
 cell:∀p v,w.cell? p=some v->w'.cell? p=some v
 shape:∀g s,w.shape? g=some s->w'.shape? g=some s
theorem Qh {w w':World}(h:Below w.heap.size w w'){g:Nat}{s:TypeId×Nat}(hs:w.shape? g=some s):w'.shape? g=some s:=by
 have hg:g<w.heap.size:=by
  rcases Nat.lt_or_ge g w.heap.size with k|k
  .exact k
  .unfold World.shape? at hs;rw[Array.getElem?_eq_none k]at hs
   cases hs
 unfold World.shape? at *;rw[h.block g hg];exact hs
theorem cell_below {w w':World}(h:Below w.heap.size w w'){p:Addr}{v:Value}(hp:w.cell? p=some v):w'.cell? p=some v:=by
 have hg:p.block<w.heap.size:=by
  rcases Nat.lt_or_ge p.block w.heap.size with k|k
  .exact k
  .unfold World.cell? at hp;rw[Array.getElem?_eq_none k]at hp
   cases hp
 rw[h.cell (p:=p) hg];exact hp
theorem KC.of {B:Nat}{w w':World}(h:Below w.heap.size w w')(hB:B<=w.heap.size):KC B w w':=⟨h.mono hB,fun _ _ hp=>cell_below h hp,fun _ _ hs=>Qh h hs⟩
theorem KC.same (B:Nat)(w:World):KC B w w:=⟨Bd _ _,fun _ _ h=>h,fun _ _ h=>h⟩
theorem KC.trans {B:Nat}{w1 w2 w3:World}(h:KC B w1 w2)(k:KC B w2 w3):KC B w1 w3:=⟨h.bel.trans k.bel,fun p v x=>k.cell p v (h.cell p v x),fun g s x=>k.shape g s (h.shape g s x)⟩
theorem KC.drew (B:Nat)(w:World):KC B w w.drew:=⟨(Bd _ _).drew,fun _ _ h=>h,fun _ _ h=>h⟩
theorem Lm (w:World)(a:Addr)(n:Nat)(p:Addr):(w.freeze a n).cell? p=w.cell? p:=by
 unfold World.freeze;split
 .rfl
 .unfold World.cell?;simp only[Array.getElem?_modify]
  by_cases h:a.block=p.block
  .simp only[h,if_true]
   cases w.heap[p.block]? with
   | none=>rfl
   | some o=>cases o<;>rfl
  .simp only[h,if_false]
theorem On (w:World)(a:Addr)(n:Nat)(g:Nat):(w.freeze a n).shape? g=w.shape? g:=by
 unfold World.freeze;split
 .rfl
 .unfold World.shape?;simp only[Array.getElem?_modify]
  by_cases h:a.block=g
  .simp only[h,if_true]
   cases w.heap[g]? with
   | none=>rfl
   | some o=>cases o<;>rfl
  .simp only[h,if_false]
theorem KC.mark {B g:Nat}{w:World}(k:Nat)(hB:B<=g):KC B w (w.freeze ⟨g,k,none⟩ 1) :=
 ⟨⟨rfl,rfl,rfl,by simp[World.freeze],fun j hj=>by
  unfold World.freeze;simp only[Nat.one_ne_zero,if_false,Array.getElem?_modify];rw[if_neg (by omega)]⟩,fun p v h=>by rw[Lm];exact h,fun j s h=>by rw[On];exact h⟩
theorem run_mark {w:World}{g n c k:Nat}(hs:w.shape? g=some (5,k)):(convert 60 60 (.slice (some ⟨g,0,none⟩) n c)).run Tryz.prog w=.ok (.slice (some ⟨g,0,none⟩) n c) (w.freeze ⟨g,k,none⟩ 1):=by
 simp[convert,run_underlying Tryz.underlying60,run_underlying Tryz.underlying5,markStringish,hs]
theorem Row.kc {B:Nat}{w w':World}{k:IntKind}{p:Option Addr}{n c:Nat}{xs:List Nat}(h:Row w k p n c xs)(hk:KC B w w'):Row w' k p n c xs:=by
 refine⟨h.len,h.cap,h.max,?_⟩;rcases h.at_ with h1|⟨b,off,h1,h2,h3⟩
 .exact .inl h1
 .exact .inr ⟨b,off,h1,De h2 hk.bel.size,fun i x hx=>hk.cell _ _ (h3 i x hx)⟩
theorem Au.kc {B:Nat}{w w':World}{P:Part}(h:Au w P)(hk:KC B w w'):Au w' P:=⟨⟨h.row.len,h.row.cap,h.row.max,fun h0=>(h.row.row h0).kc hk⟩,h.bytes⟩
theorem Bv.kc {B:Nat}{w w':World}{p:Option Addr}{n c:Nat}{L:List Part}(h:Bv w p n c L)(hk:KC B w w'):Bv w' p n c L :=
 ⟨h.len,h.cap,h.max,fun i P hP=>(h.ok i P hP).kc hk,fun h0=>by
  obtain⟨b,off,h1,h2,h3⟩:=h.cells h0;exact⟨b,off,h1,De h2 hk.bel.size,fun i P hP=>hk.cell _ _ (h3 i P hP)⟩⟩
theorem pL {P Q R S:Part}(h1:P.p=none->P.c=0)(h2:Q.p=none->Q.c=0)(h3:R.p=none->R.c=0)(h4:S.p=none->S.c=0):Iy [P,Q,R,S]:=fun X hX=>by
 simp only[List.mem_cons,List.not_mem_nil,or_false]at hX;rcases hX with rfl|rfl|rfl|rfl
 .exact h1
 .exact h2
 .exact h3
 .exact h4
theorem Nn {w:World}{e N s:Nat}{v:Value}(h:Fit e N v w)(he:e<=30000)(hs:s<=1000)(hl:N<B8 s) :
  Calls Tryz.prog 149 #[v,.int .i64 (s:Nat)] w fun en w'=>∃g,en=.returned (.tuple #[.slice (some ⟨g,0,none⟩) s s,.int .i64 0])/\Bl w' g 5 .u8 (Ar N s)/\w.heap.size<=g/\Below w.heap.size w w':=by
 obtain⟨p,n,c,rfl,h1,h2⟩:=h;have l1:=h1.len_le h2;have l2:=Fa h2;have l3:=Hz.2 hl;refine(Pr w p n c N s h1 (by omega) (by omega) (by omega) (by omega)).mono ?_;rintro en w' ⟨g,rfl,hb,hbel,hn⟩;exact⟨g,rfl,hb,hn,hbel⟩
def Vs (B n:Nat)(bs:List Nat)(v:Value)(w:World):Prop:=∃g,v=.tuple #[.slice (some ⟨g,0,none⟩) n n,.int .i64 0]/\B<=g/\Bl w g 5 .u8 bs
def To (B n:Nat)(bs:List Nat)(v:Value)(w:World):Prop:=∃g,v=.slice (some ⟨g,0,none⟩) n n/\B<=g/\Bl w g 5 .u8 bs
theorem Vs.below {B n:Nat}{bs:List Nat}{v:Value}{w w':World}(h:Vs B n bs v w)(hb:Below w.heap.size w w'):Vs B n bs v w' :=
 let ⟨g,h1,h2,h3⟩:=h
 ⟨g,h1,h2,h3.below hb h3.lt⟩
theorem To.below {B n:Nat}{bs:List Nat}{v:Value}{w w':World}(h:To B n bs v w)(hb:Below w.heap.size w w'):To B n bs v w' :=
 let ⟨g,h1,h2,h3⟩:=h
 ⟨g,h1,h2,h3.below hb h3.lt⟩
theorem Nc {w:World}{b P Q G H e A sz:Nat}{v:Value}(hg:Bb w b P Q G H)(hv:Fit e A v w)(he:e<=30000)(hA:A<P)(hsz:Al P=sz)(hs:sz<=16) :
  Calls Tryz.prog 166 #[.pointer (some ⟨b,0,none⟩),v] w fun en w'=>∃g,en=.returned (.slice (some ⟨g,0,none⟩) sz sz)/\w.heap.size<=g/\Bl w' g 5 .u8 (Ar A sz)/\Below w.heap.size w w':=by
 obtain⟨pa,na,ca,rfl,h1,h2⟩:=Aw hv;have hX0:=Af.made w (.slice pa na ca);have hb0:Below w.heap.size w (w.alloc (.cells #[.slice pa na ca] 36)):=By;obtain⟨wa,hwa⟩:∃wa,w.alloc (.cells #[.slice pa na ca] 36)=wa:=⟨_,rfl⟩
 rw[hwa]at hX0 hb0
 have HBL:=Aa hb0;have HX0:=Aa hX0;have HA:=Aa ((Fit.of h1 h2).below hb0);have HG:=Aa (hg.below hb0);have hlm:=Fb P;rw[hsz]at hlm
 have HSZ:=Aa hsz;have HLM:Ad (A<B8 sz):=⟨by omega⟩
 clear h1 h2 hX0 hb0 hg hv hsz hlm hA;go_enter Tryz.func166,Tryz.ntmps166;go_wp2;refine Ai (by kernel_rfl) (by kernel_rfl)
  [some (.agg #[.slice pa na ca]),some (.pointer (some ⟨b,0,none⟩)),none,none,none,none,some (.int .i64 0),none,some (.int .i64 0)]
  [false,false,true,true,true,true,false,true,false] rfl
  (fun w1 w2=>Below w1.heap.size w1 w2)
  (fun _ w'=>Below wa.heap.size wa w')
  (fun i v w'=>match i with
   | 2=>v=.int .i64 (sz:Nat)
   | 3=>Vs w.heap.size (sz) (Ar A sz) v w'
   | 4=>Vs w.heap.size (sz) (Ar A sz) v w'
   | 5=>To w.heap.size (sz) (Ar A sz) v w'
   | 7=>To w.heap.size (sz) (Ar A sz) v w'
   | _=>True)
  ?_ (Bd _ _).drew ?_ ?_
 .intro i v w1 w2 hf hb;split at hf
  .exact hf
  .exact hf.below hb
  .exact hf.below hb
  .exact hf.below hb
  .exact hf.below hb
  .trivial
 .simp only[Ba,Nat.reduceAdd];refine⟨?_,?_,?_,?_,?_,?_,?_,?_,?_,trivial⟩
  all_goals intro D sp w' hD hW hdp hbx'
  case refine_1=>
   have c0:=(HX0.out.below hbx' HX0.out.lt).cell
   with_reducible refine Ac ?_ ?_
   all_goals simp[Region.wanted,yielded,execOp,Act.eval,Act.put,go_sem,c0]
  case refine_3=>
   (with_reducible refine Ab (w1:=w') (f := 215) (args:=#[.pointer (some ⟨b,0,none⟩)]) ?_ ?_ ?_)
   .simp[Region.wanted,yielded,Act.put,go_sem]
   .simp[Act.eval,Act.put,go_sem]
   .refine(gL (HG.out.below hbx')).mono ?_;rintro en w9 ⟨rfl,hb⟩;rw[HSZ.out];exact⟨_,rfl,hb,rfl,Ae hbx' hb⟩
  case refine_4=>
   have k2:(sp 2)=.int .i64 (sz:Nat):=(hdp 2 (mq (by kernel_rfl))).2
   (with_reducible refine Ab (w1:=w') (f := 149) (args:=#[.agg #[.slice pa na ca],.int .i64 (sz:Nat)]) ?_ ?_ ?_)
   .first|(simp only[Region.wanted];done)|simp[Region.wanted,yielded,Act.put,go_sem,k2]
   .simp[Act.eval,Act.put,go_sem,k2]
   .refine(Nn (HA.out.below hbx') he (by omega) HLM.out).mono ?_;rintro en w9 ⟨g9,rfl,hu,hg9,hb⟩;exact⟨_,rfl,hb,⟨g9,rfl,Ec HBL.out.size (Ec hbx'.size hg9),hu⟩,Ae hbx' hb⟩
  case refine_5=>
   have k3:Vs w.heap.size (sz) (Ar A sz) (sp 3) w':=(hdp 3 (mq (by kernel_rfl))).2
   (with_reducible refine Ag (w1:=w') (v:=sp 3) ?_ ?_ ?_)
   .simp[Region.wanted,yielded,Act.put,go_sem]
   .simp[execOp,Act.eval,Act.put,go_sem]
   .exact⟨Bd _ _,k3,hbx'⟩
  case refine_6=>
   have hx:∃g,sp 4=.tuple #[.slice (some ⟨g,0,none⟩) (sz) (sz),.int .i64 0]/\w.heap.size<=g/\Bl w' g 5 .u8 (Ar A sz):=(hdp 4 (mq (by kernel_rfl))).2
   (with_reducible refine Aq hx fun g hx1=>?_)
   have h1:=hx1.1
   (with_reducible refine Ag (w1:=w') (v:=.slice (some ⟨g,0,none⟩) (sz) (sz)) ?_ ?_ ?_)
   .simp only[Region.wanted]
   .simp[execOp,Act.eval,Act.put,go_sem,h1]
   .exact⟨Bd _ _,⟨g,rfl,hx1.2⟩,hbx'⟩
  case refine_7=>
   have hx:∃g,sp 4=.tuple #[.slice (some ⟨g,0,none⟩) (sz) (sz),.int .i64 0]/\w.heap.size<=g/\Bl w' g 5 .u8 (Ar A sz):=(hdp 4 (mq (by kernel_rfl))).2
   (with_reducible refine Aq hx fun g hx1=>?_)
   have h1:=hx1.1
   with_reducible refine Ac ?_ ?_
   all_goals simp[Region.wanted,yielded,execOp,Act.eval,Act.put,go_sem,h1]
  case refine_8=>
   have k5:To w.heap.size (sz) (Ar A sz) (sp 5) w':=(hdp 5 (mq (by kernel_rfl))).2
   (with_reducible refine Ag (w1:=w') (v:=sp 5) ?_ ?_ ?_)
   .simp[Region.wanted,yielded,Act.put,go_sem]
   .simp[execOp,Act.eval,Act.put,go_sem]
   .exact⟨Bd _ _,k5,hbx'⟩
  all_goals ((with_reducible refine Ac ?_ ?_);all_goals first|(simp only[Region.wanted];done)|simp[Region.wanted,yielded,execOp,Act.eval,Act.put,go_sem])
 .intro sp w1 hsp hb1;obtain⟨ga,e7,hga,hk7⟩:To w.heap.size sz (Ar A sz) (sp 7) w1:=hsp 7 rfl;have HKA:=Aa hk7;have HGA:=Aa hga;have HBL1:=Aa (Ae HBL.out hb1);clear hsp hb1 hk7 hga;simp only[Am,Nat.reduceAdd];rw[e7];clear e7 hwa;generalize sp 2=y2,sp 3=y3,sp 4=y4,sp 5=y5 at *
  go_simp
  go_wp2;go_ret;exact⟨ga,rfl,HGA.out,HKA.out,HBL1.out⟩
theorem bK (w:World)(p:Option Addr)(n c N s:Nat)(h:Bn w p n c N)(hs:s<=1000000)(hN:Ax N<=1000000000)(h2:¬s<Al N) :
  Calls Tryz.prog 95 #[.slice p n c,.int .i64 s] w fun e w'=>e=.returned (.tuple #[.slice (some ⟨w.heap.size,0,none⟩) s s,.bool true])/\Bl w' w.heap.size 5 .u8 (Ar N s)/\Below w.heap.size w w':=by
 have hl:n=Ax N:=by have:=h.len;rwa [Bf]at this
 have hmk:=Oi s (by omega);have hsn:n<=8*s:=by unfold Al at h2;omega
 have h3:¬(s:Int)<((n:Int)+7)/8:=by omega
 have hw7:IntKind.i64.wrap ((n:Int)+7)=(n:Int)+7:=IntWalk.i64_in _ (by omega);have hw8:IntKind.i64.wrap (((n:Int)+7)/8)=((n:Int)+7)/8:=IntWalk.i64_in _ (by omega);have HL:=Ah hl;have hn9:n<=1000000000:=by omega
 clear hl h2;go_enter Tryz.func95,Tryz.ntmps95;go_wp2
 go_loopw [19] (fun i wr=>∃k:Nat,k<=n/\i=.int .i64 k/\w.heap.size<wr.heap.size/\Below w.heap.size w wr/\Bl wr w.heap.size 5 .u8 (Ar (N%2^k) s)) (fun i _=>n-(intOf i).toNat)
 case atStart=>
  refine⟨0,by omega,rfl,by simp,(Bd _ _).alloc (As _) _,?_⟩;have:=Bl.zeros w 5 .u8 s;rw[Nat.pow_zero,Nat.mod_one,Vo];exact this
 case round=>
  obtain⟨k,hk,rfl,hsz,hbw,hblk⟩:=hrel
  by_cases hkn:k<n
  .obtain⟨b,off,rfl,hb,hc⟩:=h.pos (by omega);obtain⟨x,hx⟩:∃x,bit N k=x:=⟨_,rfl⟩
   have hci:wr.cell? ⟨b,off+k,none⟩=some (.bool x):=by
    rw[(Bz hbw).1 _ _ hb];exact hc k x (by rw[Do (by rw[<-HL.out];exact hkn),hx])
   have HX:=Ah hx;clear hc hx;go_wp2
   .have hxt:x=true:=by assumption
    have HB:Hid (N%2^(k+1)=N%2^k+2^k):=Ah (by rw[Mi,HX.out,if_pos hxt]);have hMk:N%2^k<2^k:=Nat.mod_lt _ (Nat.pow_pos (by omega));obtain⟨q,hq⟩:∃q,k/8=q:=⟨_,rfl⟩
    obtain⟨r,hr⟩:∃r,k%8=r:=⟨_,rfl⟩
    have hqs:q<s:=by omega
    obtain⟨j,hj⟩:∃j,s-1-q=j:=⟨_,rfl⟩
    obtain⟨z,hz⟩:∃z,2^r=z:=⟨_,rfl⟩
    have hset:=aN (n:=s) hMk (by omega) (j:=j) (by omega);have hget:=aM (M:=N%2^k) hqs hj.symm;have hlt:=(Sq (n:=s) hMk (by omega)).1;rw[hq,hr]at hset hlt
    obtain⟨d,hd⟩:∃d,N%2^k/B8 q%256=d:=⟨_,rfl⟩
    rw[hd]at hset hget hlt
    rw[hz]at hset hlt
    have hr8:r<8:=by omega
    have hz8:z<=128:=by rw[<-hz];exact Nat.pow_le_pow_right (show 0<2 by omega) (show r<=7 by omega)
    have t1:IntKind.i64.wrap ((k:Int)/8)=(q:Int):=by rw[IntWalk.i64_in _ (by omega)];omega
    have t2:(k:Int).tmod 8=(r:Int):=by rw[Int.tmod_eq_emod_of_nonneg (by omega)];omega
    have t4:IntKind.i64.wrap ((s:Int)-1)=(s:Int)-1:=IntWalk.i64_in _ (by omega);have t5:IntKind.i64.wrap ((s:Int)-1-q)=(j:Nat):=by
     rw[IntWalk.i64_in _ (by omega)];omega
    have t6:(j:Int)<s:=by omega
    have t7:j<s:=by omega
    have t8:IntKind.u8.wrap ((d:Int)+z)=(d:Int)+z:=IntWalk.u8_in _ (by omega);have t9:IntKind.u8.wrap ((2:Int)^r)=z:=by
     rw[show ((2:Int)^r)=(z:Nat) by rw[<-hz,Int.natCast_pow];rfl];exact IntWalk.u8_in _ (by omega)
    clear hq hr hd hj hMk;have HJ:=Ah hz;clear hz;refine Ai (by kernel_rfl) (by kernel_rfl)
     [some (.slice (some ⟨w.heap.size,0,none⟩) s s),some (.int .i64 s),some (.int .i64 ((s:Int)-1)),some (.int .i64 k),some (.int .i64 (q:Nat)),some (.int .i64 (j:Nat)),some (.pointer (some ⟨w.heap.size,j,none⟩)),some (.int .u8 (d:Nat)),
      some (.int .i64 k),some (.int .i64 (r:Nat)),some (.int .u8 (z:Nat)),some (.int .u8 (d+z:Nat)),some (.pointer (some ⟨w.heap.size,j,none⟩)),none]
     [false,false,false,false,false,false,false,false,false,false,false,false,false,true] rfl
     (fun _ _=>True)
     (fun D w'=>Below w.heap.size w w'/\w.heap.size<w'.heap.size/\Bl w' w.heap.size 5 .u8 (if D 13 then Ar (N%2^k+2^k) s else Ar (N%2^k) s))
     (fun _ _ _=>True)
     (fun _ _ _ _ h _=>h) ⟨hbw.trans ((Bd _ _).drew.mono (As _)),hsz,hblk⟩ ?_ ?_
    .simp only[Ba,Nat.reduceAdd];refine⟨?_,?_,?_,?_,?_,?_,?_,?_,?_,?_,?_,?_,?_,?_,trivial⟩
     case refine_8=>
      intro D sp w' hD hW hdp ⟨hb',hsz',hblk'⟩;have h13:D 13=false:=hW 13 (mq (by kernel_rfl));rw[h13]at hblk'
      simp only[Bool.false_eq_true,if_false]at hblk';have hcl:w'.cell? ⟨w.heap.size,j,none⟩=some (.int .u8 (d:Nat)):=hblk'.cell hget;simp[asked,Region.wanted,Oper.gives,execOp,Act.eval,Act.put,go_sem,hcl]
     case refine_14=>
      intro D sp w' hD hW hdp ⟨hb',hsz',hblk'⟩;rw[hD]at hblk'
      simp only[Bool.false_eq_true,if_false]at hblk';have hcl:w'.cell? ⟨w.heap.size,j,none⟩=some (.int .u8 (d:Nat)):=hblk'.cell hget;have hfr:=hblk'.free j
      (with_reducible refine An (w1:=w'.setCell ⟨w.heap.size,j,none⟩ (.int .u8 (d+z:Nat))) ?_ ?_ ?_)
      .simp only[Region.wanted]
      .simp[execOp,Act.eval,Act.put,go_sem,hcl,hfr]
      .refine⟨trivial,trivial,hb'.setCell (As _) _,by simpa using hsz',?_⟩;simp only[decide_true,Bool.or_true,if_true];rw[<-hset];exact hblk'.set _ _
     all_goals
      intro D sp w' hD hW hdp ⟨hb',hsz',hblk'⟩;simp[asked,Region.wanted,Oper.gives,execOp,Act.eval,Act.put,go_sem,t1,t2,t4,t5,t6,t8,t9]
    .intro sp w' hsp ⟨hb',hsz',hblk'⟩;have hblk2:Bl w' w.heap.size 5 .u8 (Ar (N%2^k+2^k) s):=hblk';clear hblk' hsp t1 t2 t4 t5 t6 t8 t9;simp only[Am,Nat.reduceAdd]
     go_simp
     go_wp2;go_roundw
     case rel=>exact⟨k+1,by omega,by go_num,hsz',hb',by rw[HB.out];exact hblk2⟩
     case measure=>simp[intOf];omega
   .have hxt:x=false:=by assumption
    have HB:Hid (N%2^(k+1)=N%2^k):=Ah (by rw[Mi,HX.out,if_neg (by simp[hxt]),Nat.add_zero]);go_roundw
    case rel=>exact⟨k+1,by omega,by go_num,hsz,hbw,by rw[HB.out];exact hblk⟩
    case measure=>simp[intOf];omega
  .have HK:Hid (k=n):=Ah (by omega);go_wp2
   go_ret2
   have e:N%2^k=N:=Nat.mod_eq_of_lt ((Bo N k).1 (by rw[HK.out,HL.out];exact As _));rw[e]at hblk
   exact⟨rfl,hblk,hbw⟩
theorem Zm {w:World}{b P Q G H:Nat}(h:Bb w b P Q G H) :
  Calls Tryz.prog 20 #[.pointer (some ⟨b,0,none⟩)] w fun e w'=>∃x,e=.returned x/\mS Q x w'/\Below w.heap.size w w':=by
 refine(Kd h).mono ?_;rintro en w' ⟨r,rfl,hr,hb⟩;exact⟨_,rfl,⟨r,rfl,hr⟩,hb⟩
theorem Qj {w:World}{b P Q G H:Nat}(hg:Bb w b P Q G H) :
  Calls Tryz.prog 17 #[.pointer (some ⟨b,0,none⟩)] w fun e w'=>∃x,e=.returned x/\Er P Q G H x w'/\Below w.heap.size w w':=by
 have hbx:Below w.heap.size w (w.alloc (.cells #[.slice none 0 0,.slice none 0 0,.slice none 0 0,.slice none 0 0] 30)):=By;have HBX:=Aa (Cm.made 30 w (.slice none 0 0) (.slice none 0 0) (.slice none 0 0) (.slice none 0 0));obtain⟨wa,hwa⟩:∃wa,w.alloc (.cells #[.slice none 0 0,.slice none 0 0,.slice none 0 0,.slice none 0 0] 30)=wa:=⟨_,rfl⟩
 rw[hwa]at hbx HBX
 have HG:=Aa (hg.below hbx);have HB:=Aa hbx;clear hg hbx;go_enter Tryz.func17,Tryz.ntmps17
 go_wp2_with fail
 refine(Wy HG.out).mono ?_;rintro en w1 ⟨x1,rfl,h1,b1⟩;have H1:=Aa h1;have HG1:=Aa (HG.out.below b1);have HB1:=Aa b1;clear h1 b1
 go_wp2_with fail
 refine(Cu H1.out (by decide)).mono ?_;rintro en w2 ⟨_,rfl,⟨p0,n0,c0,rfl,h2⟩,b2⟩;have H2:=Aa h2;have HG2:=Aa (HG1.out.below b2);have HB2:=Aa (Ae HB1.out b2);clear h2 b2
 go_wp2_with fail
 refine(Zm HG2.out).mono ?_;rintro en w3 ⟨x3,rfl,h3,b3⟩;have H23:=Aa (H2.out.below b3);have HG3:=Aa (HG2.out.below b3);have HB3:=Aa (Ae HB2.out b3);obtain⟨r,rfl,hr3⟩:=h3.ex;have H3:Ad (Ring w3 r Q 33):=⟨hr3⟩
 clear h3 hr3 b3
 go_wp2_with fail
 refine(Ei H3.out).mono ?_;rintro en w4 ⟨x4,rfl,h4,b4⟩;have H24:=Aa (H23.out.below b4);have H4:=Aa h4;have HG4:=Aa (HG3.out.below b4);have HB4:=Aa (Ae HB3.out b4);clear h4 b4
 go_wp2_with fail
 refine(Cu H4.out (by decide)).mono ?_;rintro en w5 ⟨_,rfl,⟨p1,n1,c1,rfl,h5⟩,b5⟩;have H25:=Aa (H24.out.below b5);have H5:=Aa h5;have HG5:=Aa (HG4.out.below b5);have HB5:=Aa (Ae HB4.out b5);clear h5 b5
 go_wp2_with fail
 refine(Xa HG5.out).mono ?_;rintro en w6 ⟨x6,rfl,h6,b6⟩;have H26:=Aa (H25.out.below b6);have H56:=Aa (H5.out.below b6);have H6:=Aa h6;have HG6:=Aa (HG5.out.below b6);have HB6:=Aa (Ae HB5.out b6);clear h6 b6
 go_wp2_with fail
 refine(Cu H6.out (by decide)).mono ?_;rintro en w7 ⟨_,rfl,⟨p2,n2,c2,rfl,h7⟩,b7⟩;have H27:=Aa (H26.out.below b7);have H57:=Aa (H56.out.below b7);have H7:=Aa h7;have HG7:=Aa (HG6.out.below b7);have HB7:=Aa (Ae HB6.out b7);clear h7 b7
 go_wp2_with fail
 refine(kR HG7.out).mono ?_;rintro en w8 ⟨x8,rfl,h8,b8⟩;have H28:=Aa (H27.out.below b8);have H58:=Aa (H57.out.below b8);have H78:=Aa (H7.out.below b8);have H8:=Aa h8;have HB8:=Aa (Ae HB7.out b8);clear h8 b8
 go_wp2_with fail
 refine(Cu H8.out (by decide)).mono ?_;rintro en w9 ⟨_,rfl,⟨p3,n3,c3,rfl,h9⟩,b9⟩;have H29:=Aa (H28.out.below b9);have H59:=Aa (H58.out.below b9);have H79:=Aa (H78.out.below b9);have H9:=Aa h9;have HB9:=Aa (Ae HB8.out b9);have hbx9:=HBX.out.below HB9.out HBX.out.lt;have g0:=hbx9.cells.1;have g1:=hbx9.cells.2.1;have g2:=hbx9.cells.2.2.1;have g3:=hbx9.cells.2.2.2;have f0:=hbx9.free;clear h9 b9;go_wp2;obtain⟨wf,hwf⟩:∃wf,wf=(((w9.setCell ⟨w.heap.size,0,none⟩ (.slice p0 n0 c0)).setCell ⟨w.heap.size,1,none⟩ (.slice p1 n1 c1)).setCell ⟨w.heap.size,2,none⟩ (.slice p2 n2 c2)).setCell ⟨w.heap.size,3,none⟩ (.slice p3 n3 c3):=⟨_,rfl⟩
 have hkp:Hd w9 wf:=by rw[hwf];exact gJ (x0:=(none,0,0)) (x1:=(none,0,0)) (x2:=(none,0,0)) (x3:=(none,0,0)) hbx9 _ _ _ _
 have hst:=Il hbx9 hwf;have e0:=hst.1.cells.1;have e1:=hst.1.cells.2.1;have e2:=hst.1.cells.2.2.1;have e3:=hst.1.cells.2.2.2;have hbf:=hst.2.2 w.heap.size w (Ae HB.out HB9.out) (As _);rw[<-hwf];refine bodyPost_ret (v:=.agg #[.slice p0 n0 c0,.slice p1 n1 c1,.slice p2 n2 c2,.slice p3 n3 c3]) (by simp[results,Tryz.results17,go_sem,e0,e1,e2,e3]) rfl ⟨_,rfl,⟨p0,n0,c0,p1,n1,c1,p2,n2,c2,p3,n3,c3,rfl,Ow.kept H29.out hkp,Ow.kept H59.out hkp,Ow.kept H79.out hkp,Ow.kept H9.out hkp⟩,hbf⟩
def Jn (n:Nat)(bs:List Nat)(v:Value)(w:World):Prop:=∃p c,v=.slice p n c/\Au w ⟨p,n,c,bs⟩/\(p=none->c=0)
theorem Jn.below {n:Nat}{bs:List Nat}{v:Value}{w w':World}(h:Jn n bs v w)(hb:Below w.heap.size w w'):Jn n bs v w' :=
 let ⟨p,c,h1,h2,h3⟩:=h
 ⟨p,c,h1,h2.below hb,h3⟩
theorem Se {w:World}{N s:Nat}{v:Value}(h:Bj N v w)(hs:s<=1000)(hN:N<B8 s) :
  Calls Tryz.prog 95 #[v,.int .i64 (s:Nat)] w fun en w'=>∃g,en=.returned (.tuple #[.slice (some ⟨g,0,none⟩) s s,.bool true])/\Bl w' g 5 .u8 (Ar N s)/\w.heap.size<=g/\Below w.heap.size w w':=by
 obtain⟨p,n,c,rfl,h1⟩:=h;have hb:=Hz.2 hN;have hl:Ax N<=8*s:=by have:=hb;unfold Al at this;omega
 refine(bK w p n c N s h1 (by omega) (by omega) (by omega)).mono ?_;rintro en w' ⟨rfl,hv,hbel⟩;exact⟨_,rfl,hv,As _,hbel⟩
theorem Xe {w:World}{v:Value}{P Q G H:Nat}(h:Er P Q G H v w)(hl:Ax Q<=100000) :
  Calls Tryz.prog 118 #[v] w fun e w'=>e=.returned (.int .i64 (Al Q:Nat))/\Below w.heap.size w w':=by
 obtain⟨p0,n0,c0,p1,n1,c1,p2,n2,c2,p3,n3,c3,rfl,h0,h1,h2,h3⟩:=h.ex;have hbx:Below w.heap.size w (w.alloc (.cells #[.slice p0 n0 c0,.slice p1 n1 c1,.slice p2 n2 c2,.slice p3 n3 c3] 30)):=By;have hbo:=Cm.made 30 w (.slice p0 n0 c0) (.slice p1 n1 c1) (.slice p2 n2 c2) (.slice p3 n3 c3);obtain⟨wa,hwa⟩:∃wa,w.alloc (.cells #[.slice p0 n0 c0,.slice p1 n1 c1,.slice p2 n2 c2,.slice p3 n3 c3] 30)=wa:=⟨_,rfl⟩
 rw[hwa]at hbx hbo
 have HB:=Aa hbx;have HBX:=Aa hbo;have HV:Ad (Er P Q G H (.agg #[.slice p0 n0 c0,.slice p1 n1 c1,.slice p2 n2 c2,.slice p3 n3 c3]) wa):=⟨⟨p0,n0,c0,p1,n1,c1,p2,n2,c2,p3,n3,c3,rfl,h0.below hbx,h1.below hbx,h2.below hbx,h3.below hbx⟩⟩
 have hn:=Gv h1;have HS:Ad (Al Q=(n1+7)/8):=⟨by unfold Al;rw[hn]⟩
 have hn0:n1<=100000:=by omega
 have hdiv:((n1:Int)+7).tdiv 8=(((n1+7)/8:Nat):Int):=by rw[Int.tdiv_eq_ediv_of_nonneg (by omega)];omega
 have c1':=HBX.out.cells.2.1;clear h h0 h1 h2 h3 hn hbx hl hbo;go_enter Tryz.func118,Tryz.ntmps118;go_wp2;go_ret;exact⟨by rw[HS.out];simp,HB.out⟩
theorem Oq {w:World}{v u:Value}{P Q G H N:Nat}(h:Er P Q G H v w)(hu:Bj N u w)(hl:Ax Q<=100000)(hs:Al Q<=16)(hN:N<B8 (Al Q)) :
  Calls Tryz.prog 49 #[v,u] w fun e w'=>∃g,e=.returned (.slice (some ⟨g,0,none⟩) (Al Q) (Al Q))/\Bl w' g 5 .u8 (Ar N (Al Q))/\w.heap.size<=g/\Below w.heap.size w w':=by
 obtain⟨p0,n0,c0,p1,n1,c1,p2,n2,c2,p3,n3,c3,rfl,h0,h1,h2,h3⟩:=h.ex;have hbx:Below w.heap.size w (w.alloc (.cells #[.slice p0 n0 c0,.slice p1 n1 c1,.slice p2 n2 c2,.slice p3 n3 c3] 30)):=By;have hbo:=Cm.made 30 w (.slice p0 n0 c0) (.slice p1 n1 c1) (.slice p2 n2 c2) (.slice p3 n3 c3);obtain⟨wa,hwa⟩:∃wa,w.alloc (.cells #[.slice p0 n0 c0,.slice p1 n1 c1,.slice p2 n2 c2,.slice p3 n3 c3] 30)=wa:=⟨_,rfl⟩
 rw[hwa]at hbx hbo
 have HB:=Aa hbx;have HBX:=Aa hbo;have HV:Ad (Er P Q G H (.agg #[.slice p0 n0 c0,.slice p1 n1 c1,.slice p2 n2 c2,.slice p3 n3 c3]) wa):=⟨⟨p0,n0,c0,p1,n1,c1,p2,n2,c2,p3,n3,c3,rfl,h0.below hbx,h1.below hbx,h2.below hbx,h3.below hbx⟩⟩
 obtain⟨q0,m0,d0,rfl,hu0⟩:=hu;have HU:=Aa (Bj.of (hu0.below hbx));have HN:=Aa hN;have HSl:=Aa hs;have g0:=HBX.out.cells.1;have g1:=HBX.out.cells.2.1;have g2:=HBX.out.cells.2.2.1;have g3:=HBX.out.cells.2.2.2;have HW:=Aa (Xe HV.out hl);clear h h0 h1 h2 h3 hbx hl hbo hu0 hN hs;go_enter Tryz.func49,Tryz.ntmps49
 go_wp2_with fail
 refine HW.out.mono ?_;rintro en w1 ⟨rfl,hb1⟩;have HU1:=Aa (HU.out.below hb1);have HB1:=Aa (Ae HB.out hb1);clear hb1 g0 g1 g2 g3
 go_wp2_with fail
 refine(Se HU1.out (by have:=HSl.out;omega) HN.out).mono ?_;rintro en w2 ⟨x,rfl,hx,hg,hb2⟩;have HX:=Aa hx;have HXG:Ad (w.heap.size<=x):=⟨Ec HB1.out.size hg⟩
 have HB2:=Aa (Ae HB1.out hb2);clear hx hb2 hg;go_wp2;go_ret;exact⟨x,rfl,HX.out,HXG.out,HB2.out⟩
theorem Uc {w:World}{v u:Value}{P Q G H N:Nat}(h:Er P Q G H v w)(hu:Bj N u w)(hl:Ax P<=100000)(hs:Al P<=16)(hN:N<B8 (Al P)) :
  Calls Tryz.prog 124 #[v,u] w fun e w'=>∃g,e=.returned (.slice (some ⟨g,0,none⟩) (Al P) (Al P))/\Bl w' g 5 .u8 (Ar N (Al P))/\w.heap.size<=g/\Below w.heap.size w w':=by
 obtain⟨p0,n0,c0,p1,n1,c1,p2,n2,c2,p3,n3,c3,rfl,h0,h1,h2,h3⟩:=h.ex;have hbx:Below w.heap.size w (w.alloc (.cells #[.slice p0 n0 c0,.slice p1 n1 c1,.slice p2 n2 c2,.slice p3 n3 c3] 30)):=By;have hbo:=Cm.made 30 w (.slice p0 n0 c0) (.slice p1 n1 c1) (.slice p2 n2 c2) (.slice p3 n3 c3);obtain⟨wa,hwa⟩:∃wa,w.alloc (.cells #[.slice p0 n0 c0,.slice p1 n1 c1,.slice p2 n2 c2,.slice p3 n3 c3] 30)=wa:=⟨_,rfl⟩
 rw[hwa]at hbx hbo
 have HB:=Aa hbx;have HBX:=Aa hbo;have HV:Ad (Er P Q G H (.agg #[.slice p0 n0 c0,.slice p1 n1 c1,.slice p2 n2 c2,.slice p3 n3 c3]) wa):=⟨⟨p0,n0,c0,p1,n1,c1,p2,n2,c2,p3,n3,c3,rfl,h0.below hbx,h1.below hbx,h2.below hbx,h3.below hbx⟩⟩
 obtain⟨q0,m0,d0,rfl,hu0⟩:=hu;have HU:=Aa (Bj.of (hu0.below hbx));have HN:=Aa hN;have HSl:=Aa hs;have g0:=HBX.out.cells.1;have g1:=HBX.out.cells.2.1;have g2:=HBX.out.cells.2.2.1;have g3:=HBX.out.cells.2.2.2;have HW:=Aa (Zs HV.out hl);clear h h0 h1 h2 h3 hbx hl hbo hu0 hN hs;go_enter Tryz.func124,Tryz.ntmps124
 go_wp2_with fail
 refine HW.out.mono ?_;rintro en w1 ⟨rfl,hb1⟩;have HU1:=Aa (HU.out.below hb1);have HB1:=Aa (Ae HB.out hb1);clear hb1 g0 g1 g2 g3
 go_wp2_with fail
 refine(Se HU1.out (by have:=HSl.out;omega) HN.out).mono ?_;rintro en w2 ⟨x,rfl,hx,hg,hb2⟩;have HX:=Aa hx;have HXG:Ad (w.heap.size<=x):=⟨Ec HB1.out.size hg⟩
 have HB2:=Aa (Ae HB1.out hb2);clear hx hb2 hg;go_wp2;go_ret;exact⟨x,rfl,HX.out,HXG.out,HB2.out⟩
theorem Bj.kc {N B:Nat}{v:Value}{w w':World}(h:Bj N v w)(hk:KC B w w'):Bj N v w':=by
 obtain⟨q,m,d,rfl,hb⟩:=h;refine Bj.of ⟨hb.len,hb.cap,hb.max,?_⟩;rcases hb.at_ with h1|⟨b,off,h1,h2,h3⟩
 .exact .inl h1
 .exact .inr ⟨b,off,h1,De h2 hk.bel.size,fun i x hx=>hk.cell _ _ (h3 i x hx)⟩
theorem Jn.kc {n B:Nat}{bs:List Nat}{v:Value}{w w':World}(h:Jn n bs v w)(hk:KC B w w'):Jn n bs v w' :=
 let ⟨p,c,h1,h2,h3⟩:=h
 ⟨p,c,h1,h2.kc hk,h3⟩
theorem qO {w:World}{v u:Value}{P Q G H N sz:Nat}(h:Er P Q G H v w)(hu:Bj N u w)(hl:Ax P<=100000)(hsz:Al P=sz)(hs:sz<=16)(hN:N<B8 sz) :
  Calls Tryz.prog 124 #[v,u] w fun e w'=>∃x,e=.returned x/\Jn sz (Ar N sz) x w'/\Below w.heap.size w w':=by
 subst hsz;refine(Uc h hu hl hs hN).mono ?_;rintro en w' ⟨g,rfl,hb,_,hbel⟩;exact⟨_,rfl,⟨_,_,rfl,Ib hb (by omega),fun h=>by cases h⟩,hbel⟩
end Go.Proofs.YtnbmfaihlefgfaaGreatDoor
