/- The greatest number that divides two. -/
import Derived.Test.YtokhckjemidbpaaGreatDoorFit
import Derived.Deep.QuietTactic
import Derived.BigQuiet
import Derived.RangeFuncNested
import Derived.Test.YtokhckjemidbpaaGreatDoorDiv
import Derived.Deep.LoopGhost
set_option maxRecDepth 1000000
set_option maxHeartbeats 16000000
set_option linter.all false
namespace Go.Proofs.YtokhckjemidbpaaGreatDoor
open Go Go.RowKit Go.Proofs.YtokhckjemidbpaaGreatDoor.Flow
def aT (N:Nat)(w:World)(e:Ending)(w':World):Prop :=
 e=.returned (.tuple #[.int .u64 ((if Ay N<=64 then N else 0:Nat):Int),.bool (decide (Ay N<=64))])/\Below w.heap.size w w'
theorem eI {ws:List Nat}(hw:Words ws)(h:ws.length<=2):val ws=ws.getD 1 0*4294967296+ws.getD 0 0:=by
 match ws,h with
 | [],_=>simp[val]
 | [x],_=>simp[val]
 | [x,y],_=>simp[val];omega
theorem Ho (w:World)(p:Option Addr)(n c N:Nat)(h:Ah w p n c N)(hn:n<1000000) :
  Calls Tryz.prog 215 #[.agg #[.slice p n c]] w (aT N w):=by
 have hbx:=Cw.mk1 w (.slice p n c) 37
 by_cases hN:Ay N<=64
 .have hn2:n<=2:=h.len_le (k:=2) (by have:=(Cj N 64).1 hN;exact this);obtain⟨ws,r1,r2,r3,r4⟩:=h.ex;have hv:=eI r2 (by have:=r1.len;omega);obtain⟨y,hy⟩:∃y,ws.getD 1 0=y:=⟨_,rfl⟩
  obtain⟨x,hx⟩:∃x,ws.getD 0 0=x:=⟨_,rfl⟩
  have hy4:y<4294967296:=by rw[<-hy];exact r2.get 1
  have hx4:x<4294967296:=by rw[<-hx];exact r2.get 0
  rw[hy,hx,r4]at hv
  have HY:=Af hy;have HX:=Af hx;have HV:=Af hv;have HB:Hid (Ay N<=64):=Af hN;have HI:Hid (¬(64:Int)<(Ay N:Nat)):=Af (by omega);clear hv hx hy r4 hN;go_enter Tryz.func215,Tryz.ntmps215
  go_wp2_with fail
  refine(Dy _ p n c N (h.below hbx.bel) hn).mono ?_;rintro e w1 ⟨rfl,hb1⟩;have hbx1:=hbx.later hb1;have hI:=HI.out;go_wp2;clear hI;have t1:IntKind.u64.wrap ((y:Int)*4294967296)=(y:Int)*4294967296:=IntWalk.u64_in _ (by omega);have t2:=Lh y x hy4 hx4;have t3:IntKind.u64.wrap (y:Int)=y:=IntWalk.u64_in _ (by omega);have t4:IntKind.u64.wrap (x:Int)=x:=IntWalk.u64_in _ (by omega);refine Aj (by kernel_rfl) (by kernel_rfl)
   [some (.agg #[.slice p n c]),none,some (.int .u64 y),some (.int .u64 ((y:Int)*4294967296)),some (.agg #[.slice p n c]),none,some (.int .u64 x),some (.int .u64 ((y*4294967296+x:Nat):Int)),
    some (.int .u64 ((y*4294967296+x:Nat):Int)),some (.bool true)]
   [false,true,false,false,false,true,false,false,false,false] rfl
   (fun _ _=>True)
   (fun _ w'=>Cw w w' (.slice p n c))
   (fun i v w'=>match i with
    | 1=>v=.int .u32 y
    | _=>v=.int .u32 x)
   (fun _ _ _ _ h _=>h) (hbx1.below (Bd _ _).drew (Av _)) ?_ ?_
  .simp only[Bh,Nat.reduceAdd];refine⟨?_,?_,?_,?_,?_,?_,?_,?_,?_,?_,trivial⟩
   case refine_2=>
    intro D sp w' hD hW hdp hbx'
    (with_reducible refine Ad (w1:=w') (f := 157) (args:=#[.agg #[.slice p n c],.int .i64 1]) ?_ ?_ ?_)
    .simp only[Region.wanted]
    .simp[Act.eval,Act.put,go_sem]
    .refine(Ep w' p n c ws 1 y (r1.below hbx'.bel) (by omega) HY.out).mono ?_;rintro e w2 ⟨rfl,hb⟩;exact⟨_,rfl,trivial,rfl,hbx'.later hb⟩
   case refine_6=>
    intro D sp w' hD hW hdp hbx'
    (with_reducible refine Ad (w1:=w') (f := 157) (args:=#[.agg #[.slice p n c],.int .i64 0]) ?_ ?_ ?_)
    .simp only[Region.wanted]
    .simp[Act.eval,Act.put,go_sem]
    .refine(Ep w' p n c ws 0 x (r1.below hbx'.bel) (by omega) HX.out).mono ?_;rintro e w2 ⟨rfl,hb⟩;exact⟨_,rfl,trivial,rfl,hbx'.later hb⟩
   case refine_3=>
    intro D sp w' hD hW hdp hbx';have k1:sp 1=.int .u32 y:=(hdp 1 (mq (by kernel_rfl))).2;simp[asked,Region.wanted,Oper.gives,execOp,Act.eval,Act.put,go_sem,k1,t3]
   case refine_7=>
    intro D sp w' hD hW hdp hbx';have k1:sp 5=.int .u32 x:=(hdp 5 (mq (by kernel_rfl))).2;simp[asked,Region.wanted,Oper.gives,execOp,Act.eval,Act.put,go_sem,k1,t4]
   all_goals
    intro D sp w' hD hW hdp hbx';have c0:=hbx'.c0;simp[asked,Region.wanted,Oper.gives,execOp,Act.eval,Act.put,go_sem,c0,t1,t2]
  .intro sp w' hsp hbx';clear hsp t1 t2 t3 t4;simp only[Ak,Nat.reduceAdd];generalize sp 1=u1,sp 5=u5 at *
   go_simp
   go_wp2
   go_ret2
   refine⟨?_,hbx'.bel⟩;have hB:=HB.out;rw[if_pos hB,decide_eq_true hB,HV.out];simp
 .have HB:Hid (¬Ay N<=64):=Af hN;have HI:Hid ((64:Int)<(Ay N:Nat)):=Af (by omega);clear hN;go_enter Tryz.func215,Tryz.ntmps215
  go_wp2_with fail
  refine(Dy _ p n c N (h.below hbx.bel) hn).mono ?_;rintro e w1 ⟨rfl,hb1⟩;have hbx1:=hbx.later hb1;have hI:=HI.out;go_wp2
  go_ret2
  refine⟨?_,hbx1.bel⟩;rw[if_neg HB.out,decide_eq_false HB.out];rfl
theorem dJ {N i x:Nat}(h:N/Al (i/32)%4294967296=x):x/2^(i%32)%2=(bit N i).toNat:=by
 have e:Al (i/32)=2^(32*(i/32)):=by unfold Al;rw[Nat.pow_mul]
 have h2:bit N i=bit x (i%32):=by
  rw[Gq,Gq,<-h,e,show (4294967296:Nat)=2^32 from rfl,Nat.testBit_mod_two_pow,Nat.testBit_div_two_pow];have:i%32<32:=Nat.mod_lt _ (by omega);rw[Nat.mod_add_div];simp[this]
 rw[h2];unfold bit
 by_cases h3:x/2^(i%32)%2=1
 .simp[h3]
 .have h4:x/2^(i%32)%2<2:=Nat.mod_lt _ (by omega);have:x/2^(i%32)%2=0:=by omega
  simp[this]
def Pq (N:Nat)(i:Int):Nat:=if 0<=i then (bit N i.toNat).toNat else 0
theorem aN (w:World)(p:Option Addr)(n c N:Nat)(i:Int)(h:Ah w p n c N)(_hn:n<1000000)(hi:-9223372036854775808<=i)(hi2:i<=9223372036854775807) :
  Calls Tryz.prog 195 #[.agg #[.slice p n c],.int .i64 i] w fun e w'=>e=.returned (.int .i64 (Pq N i:Nat))/\Below w.heap.size w w':=by
 have hbx:=Cw.mk1 w (.slice p n c) 37
 by_cases h0:i<0
 .have HA:Hid (Pq N i=0):=Af (by unfold Pq;rw[if_neg (by omega)]);go_enter Tryz.func195,Tryz.ntmps195;go_wp2;go_ret;exact⟨by rw[HA.out];rfl,hbx.bel⟩
 .obtain⟨j,rfl⟩:=Int.eq_ofNat_of_zero_le (show 0<=i by omega);have HA:Hid (Pq N (j:Int)=(bit N j).toNat):=Af (by unfold Pq;rw[if_pos (by omega),Int.toNat_natCast]);obtain⟨ws,r1,r2,r3,r4⟩:=h.ex;obtain⟨q,hq⟩:∃q,j/32=q:=⟨_,rfl⟩
  obtain⟨r,hr⟩:∃r,j%32=r:=⟨_,rfl⟩
  obtain⟨x,hx⟩:∃x,ws.getD q 0=x:=⟨_,rfl⟩
  have hx4:x<4294967296:=by rw[<-hx];exact r2.get _
  have hd:=digit ws r2 q;rw[hx,r4]at hd
  have hbw:=dJ (N:=N) (i:=j) (x:=x) (by rw[hq];exact hd);rw[hr]at hbw
  have hr5:r<32:=by omega
  have HX:=Af hx;have HW:=Af hbw;have eq1:Hid ((j:Int)/32=(q:Nat)):=Af (by omega);have er1:Hid ((j:Int)%32=(r:Nat)):=Af (by omega);have hq9:q<9223372036854775807:=by omega
  have hz4:x/2^r<4294967296:=Nat.lt_of_le_of_lt (Nat.div_le_self _ _) hx4;have hand:bits BinOp.and IntKind.u32 ((x:Int)/2^r) 1=((x/2^r%2:Nat):Int):=by
   have e1:((x:Int)/2^r)=((x/2^r:Nat):Int):=by simp[Int.natCast_ediv]
   have:=u32_and_nat (x/2^r) 1 hz4 (by omega);rw[e1];exact this.trans (by rw[Nat.and_one_is_mod])
  have HAN:=Af hand;clear hd hbw hx hq hr r4 hand;go_enter Tryz.func195,Tryz.ntmps195
  go_wp2_with fail
  rw[eq1.out];refine(Ep _ p n c ws q x (r1.below hbx.bel) (by omega) HX.out).mono ?_;rintro e w1 ⟨rfl,hb1⟩;have hbx1:=hbx.later hb1;have hE:=er1.out;go_wp2;clear hE;go_ret;refine⟨?_,hbx1.bel⟩;rw[HAN.out,HW.out,HA.out,IntWalk.wrap64_in _ (by have:(bit N j).toNat<=1:=Bool.toNat_le _;omega)];rfl
def dX (N:Nat)(v:Value)(w:World):Prop:=∃q n d,v=.slice q n d/\Row w .u8 q n d (Bf N (Ao N))
theorem Ti {w:World}{v:Value}{e N:Nat}(h:Fit e N v w) :
  Calls Tryz.prog 21 #[v] w fun en w'=>∃x,en=.returned x/\x=.bool (decide (N=0))/\Below w.heap.size w w':=by
 obtain⟨p,n,c,rfl,h1,h2⟩:=h;refine(Dh w p n c).mono ?_;rintro en w' ⟨rfl,hb⟩;exact⟨_,rfl,by rw[decide_eq_decide.2 h1.zero],hb⟩
theorem Ex (w:World) :
  Calls Tryz.prog 17 #[.int .u64 1] w fun en w'=>∃x,en=.returned x/\Fit 1 1 x w'/\Below w.heap.size w w':=by
 refine(Cp 1 w (by decide)).mono ?_;rintro en w' ⟨p,n,c,rfl,hn,hb,_⟩;exact⟨_,rfl,Fit.of hn (by decide),hb⟩
theorem Zt {w:World}{v:Value}{e N:Nat}(h:Fit e N v w)(he:e<=30000) :
  Calls Tryz.prog 91 #[v] w fun en w'=>∃x,en=.returned x/\dX N x w'/\Below w.heap.size w w':=by
 obtain⟨p,n,c,rfl,h1,h2⟩:=h;have l1:=h1.len_le h2;have hbl:Ay N<=32*e:=(Cj N _).2 (by
  have:Al e=2^(32*e):=by unfold Al;rw[Nat.pow_mul]
  rw[<-this];exact h2)
 refine(Uk w p n c N h1 (by omega) (by omega)).mono ?_;rintro en w' ⟨x,rfl,⟨q,m,d,k1,k2,_⟩,hb⟩;exact⟨_,rfl,⟨q,m,d,k1,k2⟩,hb⟩
theorem Cg {x y:Nat}:Bp x y=0 ↔ x=y:=by
 unfold Bp;repeat' split
 all_goals omega
theorem Jl {x y:Nat}:0<Bp x y ↔ y<x:=by
 unfold Bp;repeat' split
 all_goals omega
def carry (N M k:Nat):Nat:=(N%2^k+M%2^k)/2^k
theorem cG (N k:Nat):N%2^(k+1)=N%2^k+2^k*(bit N k).toNat:=by
 rw[Oc];cases bit N k<;>simp
theorem Ab {w w1 w2:World}(h:Below w.heap.size w w1)(k:Below w1.heap.size w1 w2):Below w.heap.size w w2:=h.trans (k.mono h.size)
theorem Hf {e N:Nat}(h:N<Al e):Ay N<=32*e:=(Cj N _).2 (by
 have:Al e=2^(32*e):=by unfold Al;rw[Nat.pow_mul]
 rw[<-this];exact h)
def Il (N:Nat)(v:Value)(w:World):Prop:=∃q m d,v=.slice q m d/\Bj w q m d N
theorem Il.below {N:Nat}{v:Value}{w w':World}(h:Il N v w)(hb:Below w.heap.size w w'):Il N v w' :=
 let ⟨q,m,d,h1,h2⟩:=h
 ⟨q,m,d,h1,h2.below hb⟩
theorem Il.of {N:Nat}{q:Option Addr}{m d:Nat}{w:World}(h:Bj w q m d N):Il N (.slice q m d) w:=⟨q,m,d,rfl,h⟩
theorem Sr {w:World}{v u:Value}{e f N M:Nat}(h:Fit e N v w)(k:Fit f M u w)(he:e<=800000)(hf:f<=800000) :
  Calls Tryz.prog 93 #[v,u] w fun en w'=>∃x,en=.returned x/\(∃q r,x=.tuple #[q,r,.int .i64 (if M=0 then 5 else 0)]/\Fit e (N/M) q w'/\Fit e (if M=0 then 0 else N%M) r w')/\Below w.heap.size w w':=by
 obtain⟨p,n,c,rfl,h1,h2⟩:=h;obtain⟨q,m,d,rfl,k1,k2⟩:=k;have l1:=h1.len_le h2;have l2:=k1.len_le k2;refine(Rj w p n c N q m d M h1 k1 (by omega) (by omega)).mono ?_;rintro en w' ⟨p1,n1,c1,p2,n2,c2,rfl,g1,g2,hb,_,_⟩;refine⟨_,rfl,⟨_,_,rfl,Fit.of g1 (Nat.lt_of_le_of_lt (Nat.div_le_self _ _) h2),Fit.of g2 ?_⟩,hb⟩;split
 .exact Fs e
 .exact Nat.lt_of_le_of_lt (Nat.mod_le _ _) h2
def Im (v:Value)(B N:Nat)(full:Bool)(w:World):Prop:=∃b,v=.pointer (some ⟨b,0,none⟩)/\B<=b/\∃p n c,Ae w b (.slice p n c)/\(full=true->Ah w p n c N)
theorem Im.later {v:Value}{B N:Nat}{full:Bool}{w w':World}(h:Im v B N full w)(hb:Below w.heap.size w w'):Im v B N full w' :=
 let ⟨b,h1,h2,p,n,c,h3,h4⟩:=h
 ⟨b,h1,h2,p,n,c,h3.below hb h3.lt,fun hf=>(h4 hf).below hb⟩
theorem Im.made (w:World){B:Nat}(hB:B<=w.heap.size)(N:Nat):Im (.pointer (some ⟨w.heap.size,0,none⟩)) B N false (w.alloc (.cells #[.slice none 0 0] 37)) :=
 ⟨w.heap.size,rfl,hB,none,0,0,Ae.made _ _,fun h=>by cases h⟩
theorem Ae.other {w:World}{b b':Nat}{u:Value}(h:Ae w b u)(hne:b≠b')(v:Value):Ae (w.setCell ⟨b',0,none⟩ v) b u:=by
 unfold Ae at *;rw[heap_setCell_other w ⟨b',0,none⟩ b v (fun e=>hne e)];exact h
structure Fq (B x y:Nat) (d1 d2 f1 f2:Bool) (v1 v2:Value) (w:World):Prop where
 one:d1=true->Im v1 B x f1 w
 two:d2=true->Im v2 B y f2 w
 ne:d1=true->d2=true->v1≠v2
 size:B<=w.heap.size
theorem Fq.start {B x y:Nat}{f1 f2:Bool}{v1 v2:Value}{w:World}(h:B<=w.heap.size):Fq B x y false false f1 f2 v1 v2 w :=
 ⟨(fun h=>by cases h),(fun h=>by cases h),(fun h=>by cases h),h⟩
theorem Fq.swap {B x y:Nat}{d1 d2 f1 f2:Bool}{v1 v2:Value}{w:World}(h:Fq B x y d1 d2 f1 f2 v1 v2 w):Fq B y x d2 d1 f2 f1 v2 v1 w :=
 ⟨h.two,h.one,fun a b e=>h.ne b a e.symm,h.size⟩
theorem Fq.later {B x y:Nat}{d1 d2 f1 f2:Bool}{v1 v2:Value}{w w':World}(h:Fq B x y d1 d2 f1 f2 v1 v2 w)(hb:Below w.heap.size w w'):Fq B x y d1 d2 f1 f2 v1 v2 w' :=
 ⟨fun a=>(h.one a).later hb,fun a=>(h.two a).later hb,h.ne,Eo h.size hb.size⟩
theorem Fq.alloc1 {B x y:Nat}{d2 f1 f2:Bool}{v1 v2:Value}{w:World}(h:Fq B x y false d2 f1 f2 v1 v2 w) :
  Fq B x y true d2 false f2 (.pointer (some ⟨w.heap.size,0,none⟩)) v2 (w.alloc (.cells #[.slice none 0 0] 37)) :=
 ⟨fun _=>Im.made w h.size x,fun a=>(h.two a).later ((Bd _ _).alloc (Av _) _),fun _ a e=>by
  obtain⟨b,h1,_,p,n,c,h3,_⟩:=h.two a;have:=h3.lt;rw[h1]at e
  simp only[Value.pointer.injEq,Option.some.injEq,Addr.mk.injEq]at e;omega,Eo h.size (by simp)⟩
theorem Fq.alloc2 {B x y:Nat}{d1 f1 f2:Bool}{v1 v2:Value}{w:World}(h:Fq B x y d1 false f1 f2 v1 v2 w) :
  Fq B x y d1 true f1 false v1 (.pointer (some ⟨w.heap.size,0,none⟩)) (w.alloc (.cells #[.slice none 0 0] 37)):=h.swap.alloc1.swap
theorem Fq.store1 {B x y:Nat}{d2 f1 f2:Bool}{v1 v2:Value}{w:World}{p:Option Addr}{n c:Nat}(h:Fq B x y true d2 f1 f2 v1 v2 w)(hx:Ah w p n c x) :
  ∃b q m d,v1=.pointer (some ⟨b,0,none⟩)/\B<=b/\Ae w b (.slice q m d)/\Fq B x y true d2 true f2 v1 v2 (w.setCell ⟨b,0,none⟩ (.slice p n c)):=by
 obtain⟨b,h1,h2,q,m,d,h3,_⟩:=h.one rfl;refine⟨b,q,m,d,h1,h2,h3,fun _=>⟨b,h1,h2,p,n,c,h3.set _,fun _=>hx.store h3 _⟩,fun a=>?_,h.ne,by simpa using h.size⟩;obtain⟨b',g1,g2,q',m',d',g3,g4⟩:=h.two a;have hne:b'≠b:=fun e=>h.ne rfl a (by rw[h1,g1,e])
 exact⟨b',g1,g2,q',m',d',g3.other hne _,fun hf=>(g4 hf).store h3 _⟩
theorem Fq.store2 {B x y:Nat}{d1 f1 f2:Bool}{v1 v2:Value}{w:World}{p:Option Addr}{n c:Nat}(h:Fq B x y d1 true f1 f2 v1 v2 w)(hy:Ah w p n c y) :
  ∃b q m d,v2=.pointer (some ⟨b,0,none⟩)/\B<=b/\Ae w b (.slice q m d)/\Fq B x y d1 true f1 true v1 v2 (w.setCell ⟨b,0,none⟩ (.slice p n c)):=by
 obtain⟨b,q,m,d,h1,h2,h3,h4⟩:=h.swap.store1 hy;exact⟨b,q,m,d,h1,h2,h3,h4.swap⟩
theorem cT (A B:Nat):Nat.gcd B (A%B)=Nat.gcd A B:=by
 rw[Nat.gcd_comm B,<-Nat.gcd_rec,Nat.gcd_comm]
structure fS (w wr:World) (e A k:Nat) (pa:Option Addr) (na ca:Nat) (pb:Option Addr) (nb cb:Nat):Prop where
 box0:Ae wr w.heap.size (.slice pa na ca)
 box1:Ae wr (w.heap.size+1) (.slice pb nb cb)
 box2:Ae wr (w.heap.size+2) (.slice none 0 0)
 one:Ah wr pa na ca A
 two:Ah wr pb nb cb k
 lim1:A<Al e
 lim2:k<Al e
 bel:Below w.heap.size w wr
theorem Zz (w:World)(pa:Option Addr)(na ca N:Nat)(pb:Option Addr)(nb cb M e:Nat)(hA:Ah w pa na ca N)(hB:Ah w pb nb cb M)(hlA:N<Al e)(hlB:M<Al e)(he:e<=800000) :
  Calls Tryz.prog 251 #[.agg #[.slice pa na ca],.agg #[.slice pb nb cb]] w (Fg (Nat.gcd N M) w):=by
 obtain⟨G,hG⟩:∃G,Nat.gcd N M=G:=⟨_,rfl⟩
 rw[hG];have HG:=Af hG;clear hG;go_enter Tryz.func251,Tryz.ntmps251;go_wp2
 go_loopg [7] M (fun k _ wr=>∃(A:Nat) (pa:Option Addr) (na ca:Nat) (pb:Option Addr) (nb cb:Nat),fS w wr e A k pa na ca pb nb cb/\Hid (Nat.gcd A k=G))
 case atStart=>
  have hbx:=Ci.mk3 w (.slice pa na ca) (.slice pb nb cb) (.slice none 0 0) 37 37 37;refine⟨N,pa,na,ca,pb,nb,cb,⟨?_,?_,?_,hA.below hbx.bel,hB.below hbx.bel,hlA,hlB,hbx.bel⟩,HG⟩
  .exact((Ae.made w _).below ((Bd _ _).alloc (Av _) _) (by simp)).below ((Bd _ _).alloc (Av _) _) (by simp;omega)
  .have:=(Ae.made (w.alloc (.cells #[.slice pa na ca] 37)) (.slice pb nb cb)).below ((Bd _ _).alloc (Av _) (.cells #[.slice none 0 0] 37)) (by simp);simpa using this
  .have:=Ae.made ((w.alloc (.cells #[.slice pa na ca] 37)).alloc (.cells #[.slice pb nb cb] 37)) (.slice none 0 0);simpa using this
 case round=>
  obtain⟨A,pa,na,ca,pb,nb,cb,hst,hgc⟩:=hrel;have HST:=Af hst;have c1:=hst.box1.cell;have l1:=hst.one.len_le hst.lim1;have l2:=hst.two.len_le hst.lim2;clear hst
  go_wp2_with fail
  refine(Dh wr pb nb cb).mono ?_;rintro en w1 ⟨rfl,hb1⟩;have hz:decide (nb=0)=decide (gk=0):=decide_eq_decide.2 HST.out.two.zero;rw[hz];clear hz;rcases Nat.eq_zero_or_pos gk with h0|h0
  .have hd0:decide (gk=0)=true:=decide_eq_true h0;rw[hd0];have HAG:Hid (A=G):=Af (by have:=hgc.out;rw[h0,Nat.gcd_zero_right]at this;exact this);have HB1:=Af hb1;have k0:=(HST.out.box0.below hb1 HST.out.box0.lt).cell;clear hd0 h0 c1
   go_wp2_with fail
   refine(Np w1 pa na ca A (HST.out.one.below HB1.out) (by omega)).mono ?_;rintro en w2 ⟨q,m,d,rfl,hn,hb2,hq⟩;have k2:=((HST.out.box2.below HB1.out HST.out.box2.lt).below hb2 (Dk HST.out.box2.lt HB1.out.size))
   have k2c:=k2.cell;have k2f:=k2.free;have hqn:w.heap.size+2<w1.heap.size:=Dk HST.out.box2.lt HB1.out.size;have hbw:=Ab (Ab HST.out.bel HB1.out) hb2;clear k0;go_wp2;refine bodyPost_ret (v:=.agg #[.slice q m d]) (by simp[results,Tryz.results251,go_sem,k2c]) rfl ⟨q,m,d,rfl,?_,hbw.setCell (by simp;omega) _,hq.mono (by omega)⟩;have:=hn.setCell (a:=⟨w.heap.size+2,0,none⟩) (hq.ne (by simpa using hqn)) (.slice q m d);rw[HAG.out]at this
   exact this
  .have hd0:decide (gk=0)=false:=decide_eq_false (by omega);rw[hd0];have H0:=Af h0;have HB1:=Af hb1;have k0:=(HST.out.box0.below hb1 HST.out.box0.lt).cell;have k1:=(HST.out.box1.below hb1 HST.out.box1.lt).cell;clear hd0 h0 c1 hb1
   go_wp2_with fail
   refine(Rj w1 pa na ca A pb nb cb gk (HST.out.one.below HB1.out) (HST.out.two.below HB1.out) (by omega) (by omega)).mono ?_;rintro en w2 ⟨q,m,d,r,l,f,rfl,hq,hr,hb2,_,_⟩;rw[if_neg (by have:=H0.out;omega)]at hr
   rw[if_neg (by have:=H0.out;omega)];have hb12:=Ab HB1.out hb2;have g0:=HST.out.box0.below hb12 HST.out.box0.lt;have g1:=HST.out.box1.below hb12 HST.out.box1.lt;have g2:=HST.out.box2.below hb12 HST.out.box2.lt;have n2:=HST.out.two.below hb12;have hbw:=Ab HST.out.bel hb12;have s2:=g2.lt;have HG0:=Af g0;have HG1:=Af g1;have HG2:=Af g2;have HR:=Af hr;have HN2:=Af n2;have HBW:=Af hbw;clear k0 k1 hq g0 g1 g2 hr n2 hbw hb12 hb2;go_wp2;obtain⟨w3,hw3⟩:∃w3,(w2.alloc (.cells #[.slice q m d] 37)).alloc (.cells #[.slice r l f] 37)=w3:=⟨_,rfl⟩
   have hb3:Below w2.heap.size w2 w3:=by rw[<-hw3];exact((Bd _ _).alloc (Av _) _).alloc (by simp) _
   have hr3:Ae w3 (w2.heap.size+1) (.slice r l f):=by
    rw[<-hw3];have:=Ae.made (w2.alloc (.cells #[.slice q m d] 37)) (.slice r l f);simpa using this
   rw[hw3];have hb4:=hb3.trans (Bd w2.heap.size w3).drew;have hs2:w.heap.size+2<w2.heap.size:=s2;refine Aj (by kernel_rfl) (by kernel_rfl)
    [some (.agg #[.slice pb nb cb]),some (.agg #[.slice r l f]),none,none]
    [false,false,true,true] rfl
    (fun _ _=>True)
    (fun D w'=>Ae w' w.heap.size (if D 2 then .slice pb nb cb else .slice pa na ca)/\Ae w' (w.heap.size+1) (if D 3 then .slice r l f else .slice pb nb cb)/\Ae w' (w.heap.size+2) (.slice none 0 0)/\Ae w' (w2.heap.size+1) (.slice r l f)/\Ah w' pb nb cb gk/\Ah w' r l f (A%gk)/\Below w.heap.size w w')
    (fun _ _ _=>True)
    (fun _ _ _ _ h _=>h) ⟨HG0.out.below hb4 HG0.out.lt,HG1.out.below hb4 HG1.out.lt,HG2.out.below hb4 HG2.out.lt,hr3,HN2.out.below hb4,HR.out.below hb4,Ab HBW.out hb4⟩ ?_ ?_
   .simp only[Bh,Nat.reduceAdd];refine⟨?_,?_,?_,?_,trivial⟩
    case refine_1=>
     intro D sp w' hD hW hdp ⟨k0,k1,k2,k3,k4,k5,k6⟩;have h3:D 3=false:=hW 3 (mq (by kernel_rfl));rw[h3]at k1
     simp only[Bool.false_eq_true,if_false]at k1;have c1:=k1.cell;simp[asked,Region.wanted,Oper.gives,execOp,Act.eval,go_sem,c1]
    case refine_2=>
     intro D sp w' hD hW hdp ⟨k0,k1,k2,k3,k4,k5,k6⟩;have c3:=k3.cell;simp[asked,Region.wanted,Oper.gives,execOp,Act.eval,Act.put,go_sem,c3]
    case refine_3=>
     intro D sp w' hD hW hdp ⟨k0,k1,k2,k3,k4,k5,k6⟩;rw[hD]at k0
     simp only[Bool.false_eq_true,if_false]at k0;have c0:=k0.cell;have f0:=k0.free;have e1:=k1.other (b':=w.heap.size) (by omega) (.slice pb nb cb);have e2:=k2.other (b':=w.heap.size) (by omega) (.slice pb nb cb);have e3:=k3.other (b':=w.heap.size) (by omega) (.slice pb nb cb)
     (with_reducible refine Aq (w1:=w'.setCell ⟨w.heap.size,0,none⟩ (.slice pb nb cb)) ?_ ?_ ?_)
     .simp only[Region.wanted]
     .simp[execOp,Act.eval,Act.put,go_sem,c0,f0]
     .refine⟨trivial,trivial,?_,?_,e2,e3,k4.store k0 _,k5.store k0 _,k6.setCell (Av _) _⟩
      .simp only[decide_true,Bool.or_true,if_true];exact k0.set _
      .simpa using e1
    case refine_4=>
     intro D sp w' hD hW hdp ⟨k0,k1,k2,k3,k4,k5,k6⟩;rw[hD]at k1
     simp only[Bool.false_eq_true,if_false]at k1;have c0:=k1.cell;have f0:=k1.free;have e1:=k0.other (b':=w.heap.size+1) (by omega) (.slice r l f);have e2:=k2.other (b':=w.heap.size+1) (by omega) (.slice r l f);have e3:=k3.other (b':=w.heap.size+1) (by omega) (.slice r l f)
     (with_reducible refine Aq (w1:=w'.setCell ⟨w.heap.size+1,0,none⟩ (.slice r l f)) ?_ ?_ ?_)
     .simp only[Region.wanted]
     .simp[execOp,Act.eval,Act.put,go_sem,c0,f0]
     .refine⟨trivial,trivial,?_,?_,e2,e3,k4.store k1 _,k5.store k1 _,k6.setCell (by simp) _⟩
      .simpa using e1
      .simp only[decide_true,Bool.or_true,if_true];exact k1.set _
   .intro sp w' hsp ⟨k0,k1,k2,k3,k4,k5,k6⟩;have j0:Ae w' w.heap.size (.slice pb nb cb):=k0;have j1:Ae w' (w.heap.size+1) (.slice r l f):=k1;have hlt:A%gk<gk:=Nat.mod_lt _ H0.out;have HLT:=Af hlt;have J:Hid (fS w w' e gk (A%gk) pb nb cb r l f):=Af ⟨j0,j1,k2,k4,k5,HST.out.lim2,Nat.lt_trans hlt HST.out.lim2,k6⟩;clear hsp k0 k1 k2 k3 k4 k5 k6 j0 j1 hlt;simp only[Ak,Nat.reduceAdd];generalize sp 2=u2,sp 3=u3 at *
    go_simp
    go_wp2
    go_roundg (A%gk)
    case measure=>exact HLT.out
    case rel=>exact⟨gk,pb,nb,cb,r,l,f,J.out,Af (by rw[cT];exact hgc.out)⟩
end Go.Proofs.YtokhckjemidbpaaGreatDoor
