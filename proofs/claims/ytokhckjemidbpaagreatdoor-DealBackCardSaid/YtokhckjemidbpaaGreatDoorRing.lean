/- A ring: what is left, sums, differences, products; the document's. -/
import Derived.Deep.QuietTactic
import Derived.BigQuiet
import Derived.RangeFuncNested
import Derived.Test.YtokhckjemidbpaaGreatDoorDiv
import Derived.Deep.LoopGhost
set_option maxRecDepth 1000000
set_option maxHeartbeats 16000000
set_option linter.all false
namespace Go.Proofs.YtokhckjemidbpaaGreatDoor
open Go Go.RowKit Go.Proofs.YtokhckjemidbpaaGreatDoor.Flow
def iO (N:Nat)(w:World)(e:Ending)(w':World):Prop :=
 e=.returned (.tuple #[.int .u64 ((if Bg N<=64 then N else 0:Nat):Int),.bool (decide (Bg N<=64))])/\Below w.heap.size w w'
theorem mW {ws:List Nat}(hw:Words ws)(h:ws.length<=2):val ws=ws.getD 1 0*4294967296+ws.getD 0 0:=by
 match ws,h with
 | [],_=>simp[val]
 | [x],_=>simp[val]
 | [x,y],_=>simp[val];omega
theorem Iw (w:World)(p:Option Addr)(n c N:Nat)(h:Ag w p n c N)(hn:n<1000000) :
  Calls Tryz.prog 215 #[.agg #[.slice p n c]] w (iO N w):=by
 have hbx:=Dp.mk1 w (.slice p n c) 37
 by_cases hN:Bg N<=64
 .have hn2:n<=2:=h.len_le (k:=2) (by have:=(Du N 64).1 hN;exact this);obtain⟨ws,r1,r2,r3,r4⟩:=h.ex;have hv:=mW r2 (by have:=r1.len;omega);obtain⟨y,hy⟩:∃y,ws.getD 1 0=y:=⟨_,rfl⟩
  obtain⟨x,hx⟩:∃x,ws.getD 0 0=x:=⟨_,rfl⟩
  have hy4:y<4294967296:=by rw[<-hy];exact r2.get 1
  have hx4:x<4294967296:=by rw[<-hx];exact r2.get 0
  rw[hy,hx,r4]at hv
  have HY:=Ah hy;have HX:=Ah hx;have HV:=Ah hv;have HB:Hid (Bg N<=64):=Ah hN;have HI:Hid (¬(64:Int)<(Bg N:Nat)):=Ah (by omega);clear hv hx hy r4 hN;go_enter Tryz.func215,Tryz.ntmps215
  go_wp2_with fail
  refine(Fr _ p n c N (h.below hbx.bel) hn).mono ?_;rintro e w1 ⟨rfl,hb1⟩;have hbx1:=hbx.later hb1;have hI:=HI.out;go_wp2;clear hI;have t1:IntKind.u64.wrap ((y:Int)*4294967296)=(y:Int)*4294967296:=IntWalk.u64_in _ (by omega);have t2:=Mw y x hy4 hx4;have t3:IntKind.u64.wrap (y:Int)=y:=IntWalk.u64_in _ (by omega);have t4:IntKind.u64.wrap (x:Int)=x:=IntWalk.u64_in _ (by omega);refine Ak (by kernel_rfl) (by kernel_rfl)
   [some (.agg #[.slice p n c]),none,some (.int .u64 y),some (.int .u64 ((y:Int)*4294967296)),some (.agg #[.slice p n c]),none,some (.int .u64 x),some (.int .u64 ((y*4294967296+x:Nat):Int)),
    some (.int .u64 ((y*4294967296+x:Nat):Int)),some (.bool true)]
   [false,true,false,false,false,true,false,false,false,false] rfl
   (fun _ _=>True)
   (fun _ w'=>Dp w w' (.slice p n c))
   (fun i v w'=>match i with
    | 1=>v=.int .u32 y
    | _=>v=.int .u32 x)
   (fun _ _ _ _ h _=>h) (hbx1.below (Ba _ _).drew (Av _)) ?_ ?_
  .simp only[Be,Nat.reduceAdd];refine⟨?_,?_,?_,?_,?_,?_,?_,?_,?_,?_,trivial⟩
   case refine_2=>
    intro D sp w' hD hW hdp hbx'
    (with_reducible refine Ac (w1:=w') (f := 157) (args:=#[.agg #[.slice p n c],.int .i64 1]) ?_ ?_ ?_)
    .simp only[Region.wanted]
    .simp[Act.eval,Act.put,go_sem]
    .refine(Fn w' p n c ws 1 y (r1.below hbx'.bel) (by omega) HY.out).mono ?_;rintro e w2 ⟨rfl,hb⟩;exact⟨_,rfl,trivial,rfl,hbx'.later hb⟩
   case refine_6=>
    intro D sp w' hD hW hdp hbx'
    (with_reducible refine Ac (w1:=w') (f := 157) (args:=#[.agg #[.slice p n c],.int .i64 0]) ?_ ?_ ?_)
    .simp only[Region.wanted]
    .simp[Act.eval,Act.put,go_sem]
    .refine(Fn w' p n c ws 0 x (r1.below hbx'.bel) (by omega) HX.out).mono ?_;rintro e w2 ⟨rfl,hb⟩;exact⟨_,rfl,trivial,rfl,hbx'.later hb⟩
   case refine_3=>
    intro D sp w' hD hW hdp hbx';have k1:sp 1=.int .u32 y:=(hdp 1 (mq (by kernel_rfl))).2;simp[asked,Region.wanted,Oper.gives,execOp,Act.eval,Act.put,go_sem,k1,t3]
   case refine_7=>
    intro D sp w' hD hW hdp hbx';have k1:sp 5=.int .u32 x:=(hdp 5 (mq (by kernel_rfl))).2;simp[asked,Region.wanted,Oper.gives,execOp,Act.eval,Act.put,go_sem,k1,t4]
   all_goals
    intro D sp w' hD hW hdp hbx';have c0:=hbx'.c0;simp[asked,Region.wanted,Oper.gives,execOp,Act.eval,Act.put,go_sem,c0,t1,t2]
  .intro sp w' hsp hbx';clear hsp t1 t2 t3 t4;simp only[Al,Nat.reduceAdd];generalize sp 1=u1,sp 5=u5 at *
   go_simp
   go_wp2
   go_ret2
   refine⟨?_,hbx'.bel⟩;have hB:=HB.out;rw[if_pos hB,decide_eq_true hB,HV.out];simp
 .have HB:Hid (¬Bg N<=64):=Ah hN;have HI:Hid ((64:Int)<(Bg N:Nat)):=Ah (by omega);clear hN;go_enter Tryz.func215,Tryz.ntmps215
  go_wp2_with fail
  refine(Fr _ p n c N (h.below hbx.bel) hn).mono ?_;rintro e w1 ⟨rfl,hb1⟩;have hbx1:=hbx.later hb1;have hI:=HI.out;go_wp2
  go_ret2
  refine⟨?_,hbx1.bel⟩;rw[if_neg HB.out,decide_eq_false HB.out];rfl
theorem lY {N i x:Nat}(h:N/An (i/32)%4294967296=x):x/2^(i%32)%2=(bit N i).toNat:=by
 have e:An (i/32)=2^(32*(i/32)):=by unfold An;rw[Nat.pow_mul]
 have h2:bit N i=bit x (i%32):=by
  rw[Qg,Qg,<-h,e,show (4294967296:Nat)=2^32 from rfl,Nat.testBit_mod_two_pow,Nat.testBit_div_two_pow];have:i%32<32:=Nat.mod_lt _ (by omega);rw[Nat.mod_add_div];simp[this]
 rw[h2];unfold bit
 by_cases h3:x/2^(i%32)%2=1
 .simp[h3]
 .have h4:x/2^(i%32)%2<2:=Nat.mod_lt _ (by omega);have:x/2^(i%32)%2=0:=by omega
  simp[this]
def Nu (N:Nat)(i:Int):Nat:=if 0<=i then (bit N i.toNat).toNat else 0
theorem Vp (w:World)(p:Option Addr)(n c N:Nat)(i:Int)(h:Ag w p n c N)(_hn:n<1000000)(hi:-9223372036854775808<=i)(hi2:i<=9223372036854775807) :
  Calls Tryz.prog 195 #[.agg #[.slice p n c],.int .i64 i] w fun e w'=>e=.returned (.int .i64 (Nu N i:Nat))/\Below w.heap.size w w':=by
 have hbx:=Dp.mk1 w (.slice p n c) 37
 by_cases h0:i<0
 .have HA:Hid (Nu N i=0):=Ah (by unfold Nu;rw[if_neg (by omega)]);go_enter Tryz.func195,Tryz.ntmps195;go_wp2;go_ret;exact⟨by rw[HA.out];rfl,hbx.bel⟩
 .obtain⟨j,rfl⟩:=Int.eq_ofNat_of_zero_le (show 0<=i by omega);have HA:Hid (Nu N (j:Int)=(bit N j).toNat):=Ah (by unfold Nu;rw[if_pos (by omega),Int.toNat_natCast]);obtain⟨ws,r1,r2,r3,r4⟩:=h.ex;obtain⟨q,hq⟩:∃q,j/32=q:=⟨_,rfl⟩
  obtain⟨r,hr⟩:∃r,j%32=r:=⟨_,rfl⟩
  obtain⟨x,hx⟩:∃x,ws.getD q 0=x:=⟨_,rfl⟩
  have hx4:x<4294967296:=by rw[<-hx];exact r2.get _
  have hd:=digit ws r2 q;rw[hx,r4]at hd
  have hbw:=lY (N:=N) (i:=j) (x:=x) (by rw[hq];exact hd);rw[hr]at hbw
  have hr5:r<32:=by omega
  have HX:=Ah hx;have HW:=Ah hbw;have eq1:Hid ((j:Int)/32=(q:Nat)):=Ah (by omega);have er1:Hid ((j:Int)%32=(r:Nat)):=Ah (by omega);have hq9:q<9223372036854775807:=by omega
  have hz4:x/2^r<4294967296:=Nat.lt_of_le_of_lt (Nat.div_le_self _ _) hx4;have hand:bits BinOp.and IntKind.u32 ((x:Int)/2^r) 1=((x/2^r%2:Nat):Int):=by
   have e1:((x:Int)/2^r)=((x/2^r:Nat):Int):=by simp[Int.natCast_ediv]
   have:=u32_and_nat (x/2^r) 1 hz4 (by omega);rw[e1];exact this.trans (by rw[Nat.and_one_is_mod])
  have HAN:=Ah hand;clear hd hbw hx hq hr r4 hand;go_enter Tryz.func195,Tryz.ntmps195
  go_wp2_with fail
  rw[eq1.out];refine(Fn _ p n c ws q x (r1.below hbx.bel) (by omega) HX.out).mono ?_;rintro e w1 ⟨rfl,hb1⟩;have hbx1:=hbx.later hb1;have hE:=er1.out;go_wp2;clear hE;go_ret;refine⟨?_,hbx1.bel⟩;rw[HAN.out,HW.out,HA.out,IntWalk.wrap64_in _ (by have:(bit N j).toNat<=1:=Bool.toNat_le _;omega)];rfl
theorem Xv {w:World}{v:Value}{e N:Nat}(h:Fit e N v w) :
  Calls Tryz.prog 21 #[v] w fun en w'=>∃x,en=.returned x/\x=.bool (decide (N=0))/\Below w.heap.size w w':=by
 obtain⟨p,n,c,rfl,h1,h2⟩:=h;refine(Dj w p n c).mono ?_;rintro en w' ⟨rfl,hb⟩;exact⟨_,rfl,by rw[decide_eq_decide.2 h1.zero],hb⟩
theorem Ed (w:World) :
  Calls Tryz.prog 17 #[.int .u64 1] w fun en w'=>∃x,en=.returned x/\Fit 1 1 x w'/\Below w.heap.size w w':=by
 refine(Cc 1 w (by decide)).mono ?_;rintro en w' ⟨p,n,c,rfl,hn,hb,_⟩;exact⟨_,rfl,Fit.of hn (by decide),hb⟩
theorem Bn {x y:Nat}:Bk x y=0 ↔ x=y:=by
 unfold Bk;repeat' split
 all_goals omega
theorem Il {x y:Nat}:0<Bk x y ↔ y<x:=by
 unfold Bk;repeat' split
 all_goals omega
theorem Ae {w w1 w2:World}(h:Below w.heap.size w w1)(k:Below w1.heap.size w1 w2):Below w.heap.size w w2:=h.trans (k.mono h.size)
theorem If {e N:Nat}(h:N<An e):Bg N<=32*e:=(Du N _).2 (by
 have:An e=2^(32*e):=by unfold An;rw[Nat.pow_mul]
 rw[<-this];exact h)
theorem Xg {w:World}{v u:Value}{e f N M:Nat}(h:Fit e N v w)(k:Fit f M u w)(he:e<=800000)(hf:f<=800000) :
  Calls Tryz.prog 93 #[v,u] w fun en w'=>∃x,en=.returned x/\(∃q r,x=.tuple #[q,r,.int .i64 (if M=0 then 5 else 0)]/\Fit e (N/M) q w'/\Fit e (if M=0 then 0 else N%M) r w')/\Below w.heap.size w w':=by
 obtain⟨p,n,c,rfl,h1,h2⟩:=h;obtain⟨q,m,d,rfl,k1,k2⟩:=k;have l1:=h1.len_le h2;have l2:=k1.len_le k2;refine(Vg w p n c N q m d M h1 k1 (by omega) (by omega)).mono ?_;rintro en w' ⟨p1,n1,c1,p2,n2,c2,rfl,g1,g2,hb,_,_⟩;refine⟨_,rfl,⟨_,_,rfl,Fit.of g1 (Nat.lt_of_le_of_lt (Nat.div_le_self _ _) h2),Fit.of g2 ?_⟩,hb⟩;split
 .exact Fh e
 .exact Nat.lt_of_le_of_lt (Nat.mod_le _ _) h2
def Jt (v:Value)(B N:Nat)(full:Bool)(w:World):Prop:=∃b,v=.pointer (some ⟨b,0,none⟩)/\B<=b/\∃p n c,Af w b (.slice p n c)/\(full=true->Ag w p n c N)
theorem Jt.later {v:Value}{B N:Nat}{full:Bool}{w w':World}(h:Jt v B N full w)(hb:Below w.heap.size w w'):Jt v B N full w' :=
 let ⟨b,h1,h2,p,n,c,h3,h4⟩:=h
 ⟨b,h1,h2,p,n,c,h3.below hb h3.lt,fun hf=>(h4 hf).below hb⟩
theorem Jt.made (w:World){B:Nat}(hB:B<=w.heap.size)(N:Nat):Jt (.pointer (some ⟨w.heap.size,0,none⟩)) B N false (w.alloc (.cells #[.slice none 0 0] 37)) :=
 ⟨w.heap.size,rfl,hB,none,0,0,Af.made _ _,fun h=>by cases h⟩
theorem Af.other {w:World}{b b':Nat}{u:Value}(h:Af w b u)(hne:b≠b')(v:Value):Af (w.setCell ⟨b',0,none⟩ v) b u:=by
 unfold Af at *;rw[heap_setCell_other w ⟨b',0,none⟩ b v (fun e=>hne e)];exact h
structure Gr (B x y:Nat) (d1 d2 f1 f2:Bool) (v1 v2:Value) (w:World):Prop where
 one:d1=true->Jt v1 B x f1 w
 two:d2=true->Jt v2 B y f2 w
 ne:d1=true->d2=true->v1≠v2
 size:B<=w.heap.size
theorem Gr.start {B x y:Nat}{f1 f2:Bool}{v1 v2:Value}{w:World}(h:B<=w.heap.size):Gr B x y false false f1 f2 v1 v2 w :=
 ⟨(fun h=>by cases h),(fun h=>by cases h),(fun h=>by cases h),h⟩
theorem Gr.swap {B x y:Nat}{d1 d2 f1 f2:Bool}{v1 v2:Value}{w:World}(h:Gr B x y d1 d2 f1 f2 v1 v2 w):Gr B y x d2 d1 f2 f1 v2 v1 w :=
 ⟨h.two,h.one,fun a b e=>h.ne b a e.symm,h.size⟩
theorem Gr.later {B x y:Nat}{d1 d2 f1 f2:Bool}{v1 v2:Value}{w w':World}(h:Gr B x y d1 d2 f1 f2 v1 v2 w)(hb:Below w.heap.size w w'):Gr B x y d1 d2 f1 f2 v1 v2 w' :=
 ⟨fun a=>(h.one a).later hb,fun a=>(h.two a).later hb,h.ne,Ee h.size hb.size⟩
theorem Gr.alloc1 {B x y:Nat}{d2 f1 f2:Bool}{v1 v2:Value}{w:World}(h:Gr B x y false d2 f1 f2 v1 v2 w) :
  Gr B x y true d2 false f2 (.pointer (some ⟨w.heap.size,0,none⟩)) v2 (w.alloc (.cells #[.slice none 0 0] 37)) :=
 ⟨fun _=>Jt.made w h.size x,fun a=>(h.two a).later ((Ba _ _).alloc (Av _) _),fun _ a e=>by
  obtain⟨b,h1,_,p,n,c,h3,_⟩:=h.two a;have:=h3.lt;rw[h1]at e
  simp only[Value.pointer.injEq,Option.some.injEq,Addr.mk.injEq]at e;omega,Ee h.size (by simp)⟩
theorem Gr.alloc2 {B x y:Nat}{d1 f1 f2:Bool}{v1 v2:Value}{w:World}(h:Gr B x y d1 false f1 f2 v1 v2 w) :
  Gr B x y d1 true f1 false v1 (.pointer (some ⟨w.heap.size,0,none⟩)) (w.alloc (.cells #[.slice none 0 0] 37)):=h.swap.alloc1.swap
theorem Gr.store1 {B x y:Nat}{d2 f1 f2:Bool}{v1 v2:Value}{w:World}{p:Option Addr}{n c:Nat}(h:Gr B x y true d2 f1 f2 v1 v2 w)(hx:Ag w p n c x) :
  ∃b q m d,v1=.pointer (some ⟨b,0,none⟩)/\B<=b/\Af w b (.slice q m d)/\Gr B x y true d2 true f2 v1 v2 (w.setCell ⟨b,0,none⟩ (.slice p n c)):=by
 obtain⟨b,h1,h2,q,m,d,h3,_⟩:=h.one rfl;refine⟨b,q,m,d,h1,h2,h3,fun _=>⟨b,h1,h2,p,n,c,h3.set _,fun _=>hx.store h3 _⟩,fun a=>?_,h.ne,by simpa using h.size⟩;obtain⟨b',g1,g2,q',m',d',g3,g4⟩:=h.two a;have hne:b'≠b:=fun e=>h.ne rfl a (by rw[h1,g1,e])
 exact⟨b',g1,g2,q',m',d',g3.other hne _,fun hf=>(g4 hf).store h3 _⟩
theorem Gr.store2 {B x y:Nat}{d1 f1 f2:Bool}{v1 v2:Value}{w:World}{p:Option Addr}{n c:Nat}(h:Gr B x y d1 true f1 f2 v1 v2 w)(hy:Ag w p n c y) :
  ∃b q m d,v2=.pointer (some ⟨b,0,none⟩)/\B<=b/\Af w b (.slice q m d)/\Gr B x y d1 true f1 true v1 v2 (w.setCell ⟨b,0,none⟩ (.slice p n c)):=by
 obtain⟨b,q,m,d,h1,h2,h3,h4⟩:=h.swap.store1 hy;exact⟨b,q,m,d,h1,h2,h3,h4.swap⟩
theorem kU (A B:Nat):Nat.gcd B (A%B)=Nat.gcd A B:=by
 rw[Nat.gcd_comm B,<-Nat.gcd_rec,Nat.gcd_comm]
structure oT (w wr:World) (e A k:Nat) (pa:Option Addr) (na ca:Nat) (pb:Option Addr) (nb cb:Nat):Prop where
 box0:Af wr w.heap.size (.slice pa na ca)
 box1:Af wr (w.heap.size+1) (.slice pb nb cb)
 box2:Af wr (w.heap.size+2) (.slice none 0 0)
 one:Ag wr pa na ca A
 two:Ag wr pb nb cb k
 lim1:A<An e
 lim2:k<An e
 bel:Below w.heap.size w wr
theorem gJ (w:World)(pa:Option Addr)(na ca N:Nat)(pb:Option Addr)(nb cb M e:Nat)(hA:Ag w pa na ca N)(hB:Ag w pb nb cb M)(hlA:N<An e)(hlB:M<An e)(he:e<=800000) :
  Calls Tryz.prog 251 #[.agg #[.slice pa na ca],.agg #[.slice pb nb cb]] w (Gb (Nat.gcd N M) w):=by
 obtain⟨G,hG⟩:∃G,Nat.gcd N M=G:=⟨_,rfl⟩
 rw[hG];have HG:=Ah hG;clear hG;go_enter Tryz.func251,Tryz.ntmps251;go_wp2
 go_loopg [7] M (fun k _ wr=>∃(A:Nat) (pa:Option Addr) (na ca:Nat) (pb:Option Addr) (nb cb:Nat),oT w wr e A k pa na ca pb nb cb/\Hid (Nat.gcd A k=G))
 case atStart=>
  have hbx:=Cl.mk3 w (.slice pa na ca) (.slice pb nb cb) (.slice none 0 0) 37 37 37;refine⟨N,pa,na,ca,pb,nb,cb,⟨?_,?_,?_,hA.below hbx.bel,hB.below hbx.bel,hlA,hlB,hbx.bel⟩,HG⟩
  .exact((Af.made w _).below ((Ba _ _).alloc (Av _) _) (by simp)).below ((Ba _ _).alloc (Av _) _) (by simp;omega)
  .have:=(Af.made (w.alloc (.cells #[.slice pa na ca] 37)) (.slice pb nb cb)).below ((Ba _ _).alloc (Av _) (.cells #[.slice none 0 0] 37)) (by simp);simpa using this
  .have:=Af.made ((w.alloc (.cells #[.slice pa na ca] 37)).alloc (.cells #[.slice pb nb cb] 37)) (.slice none 0 0);simpa using this
 case round=>
  obtain⟨A,pa,na,ca,pb,nb,cb,hst,hgc⟩:=hrel;have HST:=Ah hst;have c1:=hst.box1.cell;have l1:=hst.one.len_le hst.lim1;have l2:=hst.two.len_le hst.lim2;clear hst
  go_wp2_with fail
  refine(Dj wr pb nb cb).mono ?_;rintro en w1 ⟨rfl,hb1⟩;have hz:decide (nb=0)=decide (gk=0):=decide_eq_decide.2 HST.out.two.zero;rw[hz];clear hz;rcases Nat.eq_zero_or_pos gk with h0|h0
  .have hd0:decide (gk=0)=true:=decide_eq_true h0;rw[hd0];have HAG:Hid (A=G):=Ah (by have:=hgc.out;rw[h0,Nat.gcd_zero_right]at this;exact this);have HB1:=Ah hb1;have k0:=(HST.out.box0.below hb1 HST.out.box0.lt).cell;clear hd0 h0 c1
   go_wp2_with fail
   refine(Qe w1 pa na ca A (HST.out.one.below HB1.out) (by omega)).mono ?_;rintro en w2 ⟨q,m,d,rfl,hn,hb2,hq⟩;have k2:=((HST.out.box2.below HB1.out HST.out.box2.lt).below hb2 (Da HST.out.box2.lt HB1.out.size))
   have k2c:=k2.cell;have k2f:=k2.free;have hqn:w.heap.size+2<w1.heap.size:=Da HST.out.box2.lt HB1.out.size;have hbw:=Ae (Ae HST.out.bel HB1.out) hb2;clear k0;go_wp2;refine bodyPost_ret (v:=.agg #[.slice q m d]) (by simp[results,Tryz.results251,go_sem,k2c]) rfl ⟨q,m,d,rfl,?_,hbw.setCell (by simp;omega) _,hq.mono (by omega)⟩;have:=hn.setCell (a:=⟨w.heap.size+2,0,none⟩) (hq.ne (by simpa using hqn)) (.slice q m d);rw[HAG.out]at this
   exact this
  .have hd0:decide (gk=0)=false:=decide_eq_false (by omega);rw[hd0];have H0:=Ah h0;have HB1:=Ah hb1;have k0:=(HST.out.box0.below hb1 HST.out.box0.lt).cell;have k1:=(HST.out.box1.below hb1 HST.out.box1.lt).cell;clear hd0 h0 c1 hb1
   go_wp2_with fail
   refine(Vg w1 pa na ca A pb nb cb gk (HST.out.one.below HB1.out) (HST.out.two.below HB1.out) (by omega) (by omega)).mono ?_;rintro en w2 ⟨q,m,d,r,l,f,rfl,hq,hr,hb2,_,_⟩;rw[if_neg (by have:=H0.out;omega)]at hr
   rw[if_neg (by have:=H0.out;omega)];have hb12:=Ae HB1.out hb2;have g0:=HST.out.box0.below hb12 HST.out.box0.lt;have g1:=HST.out.box1.below hb12 HST.out.box1.lt;have g2:=HST.out.box2.below hb12 HST.out.box2.lt;have n2:=HST.out.two.below hb12;have hbw:=Ae HST.out.bel hb12;have s2:=g2.lt;have HG0:=Ah g0;have HG1:=Ah g1;have HG2:=Ah g2;have HR:=Ah hr;have HN2:=Ah n2;have HBW:=Ah hbw;clear k0 k1 hq g0 g1 g2 hr n2 hbw hb12 hb2;go_wp2;obtain⟨w3,hw3⟩:∃w3,(w2.alloc (.cells #[.slice q m d] 37)).alloc (.cells #[.slice r l f] 37)=w3:=⟨_,rfl⟩
   have hb3:Below w2.heap.size w2 w3:=by rw[<-hw3];exact((Ba _ _).alloc (Av _) _).alloc (by simp) _
   have hr3:Af w3 (w2.heap.size+1) (.slice r l f):=by
    rw[<-hw3];have:=Af.made (w2.alloc (.cells #[.slice q m d] 37)) (.slice r l f);simpa using this
   rw[hw3];have hb4:=hb3.trans (Ba w2.heap.size w3).drew;have hs2:w.heap.size+2<w2.heap.size:=s2;refine Ak (by kernel_rfl) (by kernel_rfl)
    [some (.agg #[.slice pb nb cb]),some (.agg #[.slice r l f]),none,none]
    [false,false,true,true] rfl
    (fun _ _=>True)
    (fun D w'=>Af w' w.heap.size (if D 2 then .slice pb nb cb else .slice pa na ca)/\Af w' (w.heap.size+1) (if D 3 then .slice r l f else .slice pb nb cb)/\Af w' (w.heap.size+2) (.slice none 0 0)/\Af w' (w2.heap.size+1) (.slice r l f)/\Ag w' pb nb cb gk/\Ag w' r l f (A%gk)/\Below w.heap.size w w')
    (fun _ _ _=>True)
    (fun _ _ _ _ h _=>h) ⟨HG0.out.below hb4 HG0.out.lt,HG1.out.below hb4 HG1.out.lt,HG2.out.below hb4 HG2.out.lt,hr3,HN2.out.below hb4,HR.out.below hb4,Ae HBW.out hb4⟩ ?_ ?_
   .simp only[Be,Nat.reduceAdd];refine⟨?_,?_,?_,?_,trivial⟩
    case refine_1=>
     intro D sp w' hD hW hdp ⟨k0,k1,k2,k3,k4,k5,k6⟩;have h3:D 3=false:=hW 3 (mq (by kernel_rfl));rw[h3]at k1
     simp only[Bool.false_eq_true,if_false]at k1;have c1:=k1.cell;simp[asked,Region.wanted,Oper.gives,execOp,Act.eval,go_sem,c1]
    case refine_2=>
     intro D sp w' hD hW hdp ⟨k0,k1,k2,k3,k4,k5,k6⟩;have c3:=k3.cell;simp[asked,Region.wanted,Oper.gives,execOp,Act.eval,Act.put,go_sem,c3]
    case refine_3=>
     intro D sp w' hD hW hdp ⟨k0,k1,k2,k3,k4,k5,k6⟩;rw[hD]at k0
     simp only[Bool.false_eq_true,if_false]at k0;have c0:=k0.cell;have f0:=k0.free;have e1:=k1.other (b':=w.heap.size) (by omega) (.slice pb nb cb);have e2:=k2.other (b':=w.heap.size) (by omega) (.slice pb nb cb);have e3:=k3.other (b':=w.heap.size) (by omega) (.slice pb nb cb)
     (with_reducible refine Ap (w1:=w'.setCell ⟨w.heap.size,0,none⟩ (.slice pb nb cb)) ?_ ?_ ?_)
     .simp only[Region.wanted]
     .simp[execOp,Act.eval,Act.put,go_sem,c0,f0]
     .refine⟨trivial,trivial,?_,?_,e2,e3,k4.store k0 _,k5.store k0 _,k6.setCell (Av _) _⟩
      .simp only[decide_true,Bool.or_true,if_true];exact k0.set _
      .simpa using e1
    case refine_4=>
     intro D sp w' hD hW hdp ⟨k0,k1,k2,k3,k4,k5,k6⟩;rw[hD]at k1
     simp only[Bool.false_eq_true,if_false]at k1;have c0:=k1.cell;have f0:=k1.free;have e1:=k0.other (b':=w.heap.size+1) (by omega) (.slice r l f);have e2:=k2.other (b':=w.heap.size+1) (by omega) (.slice r l f);have e3:=k3.other (b':=w.heap.size+1) (by omega) (.slice r l f)
     (with_reducible refine Ap (w1:=w'.setCell ⟨w.heap.size+1,0,none⟩ (.slice r l f)) ?_ ?_ ?_)
     .simp only[Region.wanted]
     .simp[execOp,Act.eval,Act.put,go_sem,c0,f0]
     .refine⟨trivial,trivial,?_,?_,e2,e3,k4.store k1 _,k5.store k1 _,k6.setCell (by simp) _⟩
      .simpa using e1
      .simp only[decide_true,Bool.or_true,if_true];exact k1.set _
   .intro sp w' hsp ⟨k0,k1,k2,k3,k4,k5,k6⟩;have j0:Af w' w.heap.size (.slice pb nb cb):=k0;have j1:Af w' (w.heap.size+1) (.slice r l f):=k1;have hlt:A%gk<gk:=Nat.mod_lt _ H0.out;have HLT:=Ah hlt;have J:Hid (oT w w' e gk (A%gk) pb nb cb r l f):=Ah ⟨j0,j1,k2,k4,k5,HST.out.lim2,Nat.lt_trans hlt HST.out.lim2,k6⟩;clear hsp k0 k1 k2 k3 k4 k5 k6 j0 j1 hlt;simp only[Al,Nat.reduceAdd];generalize sp 2=u2,sp 3=u3 at *
    go_simp
    go_wp2
    go_roundg (A%gk)
    case measure=>exact HLT.out
    case rel=>exact⟨gk,pb,nb,cb,r,l,f,J.out,Ah (by rw[kU];exact hgc.out)⟩
theorem Bc {w:World}{v u:Value}{e f N M:Nat}{K:Int}(h:Fit e N v w)(k:Fit f M u w)(he:e<=900000)(hf:f<=900000)(hK:Bk N M=K) :
  Calls Tryz.prog 24 #[v,u] w fun en w'=>∃x,en=.returned x/\x=.int .i64 K/\Below w.heap.size w w':=by
 subst hK;exact Ho h k he hf
theorem Oe {w:World}{v:Value}{e N:Nat}{t:Bool}(h:Fit e N v w)(hz:decide (N=0)=t) :
  Calls Tryz.prog 21 #[v] w fun en w'=>∃x,en=.returned x/\x=.bool t/\Below w.heap.size w w':=by
 subst hz;exact Xv h
def Kz (x y:Nat)(v:Value)(w:World):Prop:=∃p n c q m d,v=.tuple #[.agg #[.slice p n c],.agg #[.slice q m d],.int .i64 0]/\Ag w p n c x/\Ag w q m d y
def Cv (x:Nat)(v:Value)(w:World):Prop:=∃p n c,v=.agg #[.slice p n c]/\Ag w p n c x
theorem Kz.keep {x y B:Nat}{v:Value}{w w':World}(h:Kz x y v w)(k:Am B w w'):Kz x y v w' :=
 let ⟨p,n,c,q,m,d,h1,h2,h3⟩:=h
 ⟨p,n,c,q,m,d,h1,k.nat _ _ _ _ h2,k.nat _ _ _ _ h3⟩
theorem Cv.keep {x B:Nat}{v:Value}{w w':World}(h:Cv x v w)(k:Am B w w'):Cv x v w' :=
 let ⟨p,n,c,h1,h2⟩:=h
 ⟨p,n,c,h1,k.nat _ _ _ _ h2⟩
theorem Am.same (B:Nat)(w:World):Am B w w:=⟨Ba _ _,fun _ _ _ _ k=>k⟩
structure RingAt (w:World) (r M:Nat):Prop where
 ex:∃p n c,w.heap[r]? = some (.cells #[.slice p n c] 156 (0,0))/\Ag w p n c M/\n<800000
theorem RingAt.lt {w:World}{r M:Nat}(h:RingAt w r M):r<w.heap.size:=by
 obtain⟨p,n,c,h1,_⟩:=h.ex;exact(Gg h1).1
theorem RingAt.below {w w':World}{r M:Nat}(h:RingAt w r M)(hb:Below w.heap.size w w'):RingAt w' r M:=by
 have hl:=h.lt;obtain⟨p,n,c,h1,h2,h3⟩:=h.ex;exact⟨p,n,c,by rw[hb.block r hl];exact h1,h2.below hb,h3⟩
theorem Lb {w:World}{r:Nat}{u:Value}(h:w.heap[r]? = some (.cells #[u] 156 (0,0))):w.cell? ⟨r,0,none⟩=some u:=by
 simp[World.cell?,h]
def pU (N:Nat)(w:World)(e:Ending)(w':World):Prop:=∃p n c,e=.returned (.agg #[.slice p n c])/\Ag w' p n c N/\Below w.heap.size w w'
theorem Sj {w:World}{v u:Value}{e f x y:Nat}(h:Fit e x v w)(k:Fit f y u w)(hy:y≠0)(he:e<=800000)(hf:f<=800000) :
  Calls Tryz.prog 93 #[v,u] w fun en w'=>∃z,en=.returned z/\Kz (x/y) (x%y) z w'/\Below w.heap.size w w':=by
 refine(Xg h k he hf).mono ?_;rintro en w' ⟨z,rfl,⟨q,r,rfl,⟨p1,n1,c1,rfl,g1,_⟩,⟨p2,n2,c2,rfl,g2,_⟩⟩,hb⟩;rw[if_neg hy]at g2
 rw[if_neg hy];exact⟨_,rfl,⟨_,_,_,_,_,_,rfl,g1,g2⟩,hb⟩
theorem fH (w:World)(r M:Nat)(pa:Option Addr)(na ca N e f:Nat)(hR:RingAt w r M)(hM:M≠0)(hMf:M<An f)(hA:Ag w pa na ca N)(hN:N<An e)(he:e<=800000)(hf:f<=800000) :
  Calls Tryz.prog 31 #[.pointer (some ⟨r,0,none⟩),.agg #[.slice pa na ca]] w (pU (N%M) w):=by
 have hrl:=hR.lt;obtain⟨pm,nm,cm,hm1,hm2,_⟩:=hR.ex;have hFA:Fit e N (.agg #[.slice pa na ca]) w:=Fit.of hA hN;have hFM:Fit f M (.agg #[.slice pm nm cm]) w:=Fit.of hm2 hMf;have HM:=Ah hM;have HR:=Ah hm1;obtain⟨B0,hB0⟩:∃B0,w.heap.size+2=B0:=⟨_,rfl⟩
 have hbx:=Gj.mk2 w (.slice pa na ca) (.slice none 0 0) 37 37;have hnb:Af ((w.alloc (.cells #[.slice pa na ca] 37)).alloc (.cells #[.slice none 0 0] 37)) (w.heap.size+1) (.slice none 0 0):=by
  have:=Af.made (w.alloc (.cells #[.slice pa na ca] 37)) (.slice none 0 0);simpa using this
 have HB0:=Ah hB0;have hB0':w.heap.size+2<=B0:=Nat.le_of_eq hB0;clear hB0 hM hm1 hR;go_enter Tryz.func31,Tryz.ntmps31;go_wp2;refine Aj (by kernel_rfl) (by kernel_rfl)
  [some (.agg #[.slice pa na ca]),some (.pointer (some ⟨r,0,none⟩)),some (.pointer (some ⟨r,0,none⟩)),some (.pointer (some ⟨r,0,none⟩)),some (.agg #[.slice pm nm cm]),none,none,none,none,some (.int .i64 0),none,none,none,none,some (.int .i64 0)]
  [false,false,false,false,false,true,true,true,true,false,true,true,true,true,false] rfl
  (fun w1 w2=>Am B0 w1 w2)
  (fun D sp w'=>(Gj w w' (.slice pa na ca) (.slice none 0 0)/\Af w' (w.heap.size+1) (.slice none 0 0))/\Gr B0 (N/M) (N%M) (D 10) (D 11) (D 12) (D 13) (sp 10) (sp 11) w')
  (fun i v w'=>match i with
   | 5|6=>Kz (N/M) (N%M) v w'
   | 7=>Cv (N/M) v w'
   | 8=>Cv (N%M) v w'
   | _=>True)
  ?_ ⟨⟨hbx.below (Ba _ _).drew (Av _),hnb⟩,Gr.start (by simpa using Nat.le_of_eq HB0.out.symm)⟩ ?_ ?_
 .intro i v w1 w2 hf hb;split at hf
  .exact Kz.keep hf hb
  .exact Kz.keep hf hb
  .exact Cv.keep hf hb
  .exact Cv.keep hf hb
  .trivial
 .simp only[Az,Nat.reduceAdd];refine⟨?_,?_,?_,?_,?_,?_,?_,?_,?_,?_,?_,?_,?_,?_,?_,trivial⟩
  case refine_6=>
   intro D sp w' hD hW hdp ⟨hbx',hg⟩
   (with_reducible refine Ac (w1:=w') (f := 93) (args:=#[.agg #[.slice pa na ca],.agg #[.slice pm nm cm]]) ?_ ?_ ?_)
   .simp only[Region.wanted]
   .simp[Act.eval,Act.put,go_sem]
   .refine(Sj (hFA.below hbx'.1.bel) (hFM.below hbx'.1.bel) HM.out he hf).mono ?_;rintro e w5 ⟨u,rfl,hu,hb⟩;exact⟨u,rfl,Am.of hb hg.size,hu,⟨hbx'.1.later hb,hbx'.2.below hb hbx'.2.lt⟩,by simpa [upd]using hg.later hb⟩
  case refine_7=>
   intro D sp w' hD hW hdp ⟨hbx',hg⟩;have k4:Kz (N/M) (N%M) (sp 5) w':=(hdp 5 (mq (by kernel_rfl))).2
   (with_reducible refine Ai (w1:=w') (v:=sp 5) ?_ ?_ ?_)
   .simp only[Region.wanted]
   .simp[execOp,Act.eval,Act.put,go_sem]
   .exact⟨Am.same _ _,k4,hbx',by simpa [upd]using hg⟩
  case refine_8=>
   intro D sp w' hD hW hdp ⟨hbx',hg⟩;have hx:∃p n c q m d,sp 6=.tuple #[.agg #[.slice p n c],.agg #[.slice q m d],.int .i64 0]/\Ag w' p n c (N/M)/\Ag w' q m d (N%M):=(hdp 6 (mq (by kernel_rfl))).2
   (with_reducible refine Aw hx fun p hx1=>Aw hx1 fun n hx2=>Aw hx2 fun c hx3=>Aw hx3 fun q hx4=>Aw hx4 fun m hx5=>Aw hx5 fun d hx6=>?_)
   have h1:=hx6.1
   (with_reducible refine Ai (w1:=w') (v:=.agg #[.slice p n c]) ?_ ?_ ?_)
   .simp only[Region.wanted]
   .simp[execOp,Act.eval,Act.put,go_sem,h1]
   .exact⟨Am.same _ _,⟨p,n,c,rfl,hx6.2.1⟩,hbx',by simpa [upd]using hg⟩
  case refine_9=>
   intro D sp w' hD hW hdp ⟨hbx',hg⟩;have hx:∃p n c q m d,sp 6=.tuple #[.agg #[.slice p n c],.agg #[.slice q m d],.int .i64 0]/\Ag w' p n c (N/M)/\Ag w' q m d (N%M):=(hdp 6 (mq (by kernel_rfl))).2
   (with_reducible refine Aw hx fun p hx1=>Aw hx1 fun n hx2=>Aw hx2 fun c hx3=>Aw hx3 fun q hx4=>Aw hx4 fun m hx5=>Aw hx5 fun d hx6=>?_)
   have h1:=hx6.1
   (with_reducible refine Ai (w1:=w') (v:=.agg #[.slice q m d]) ?_ ?_ ?_)
   .simp only[Region.wanted]
   .simp[execOp,Act.eval,Act.put,go_sem,h1]
   .exact⟨Am.same _ _,⟨q,m,d,rfl,hx6.2.2⟩,hbx',by simpa [upd]using hg⟩
  case refine_10=>
   intro D sp w' hD hW hdp ⟨hbx',hg⟩;have hx:∃p n c q m d,sp 6=.tuple #[.agg #[.slice p n c],.agg #[.slice q m d],.int .i64 0]/\Ag w' p n c (N/M)/\Ag w' q m d (N%M):=(hdp 6 (mq (by kernel_rfl))).2
   (with_reducible refine Aw hx fun p hx1=>Aw hx1 fun n hx2=>Aw hx2 fun c hx3=>Aw hx3 fun q hx4=>Aw hx4 fun m hx5=>Aw hx5 fun d hx6=>?_)
   have h1:=hx6.1;simp[asked,Region.wanted,Oper.gives,execOp,Act.eval,Act.put,go_sem,h1]
  case refine_11=>
   intro D sp w' hD hW hdp ⟨hbx',hg⟩;have h9:D 12=false:=hW 12 (mq (by kernel_rfl));rw[hD,h9]at hg
   (with_reducible refine Ai (w1:=w'.alloc (.cells #[.slice none 0 0] 37)) (v:=.pointer (some ⟨w'.heap.size,0,none⟩)) ?_ ?_ ?_)
   .simp only[Region.wanted]
   .simp[execOp,go_sem]
   .have hb:Below w'.heap.size w' (w'.alloc (.cells #[.slice none 0 0] 37)):=Bq;refine⟨Am.of hb hg.size,trivial,⟨hbx'.1.later hb,hbx'.2.below hb hbx'.2.lt⟩,?_⟩;have h8:=hg.alloc1;simpa [upd,h9]using h8
  case refine_12=>
   intro D sp w' hD hW hdp ⟨hbx',hg⟩;have h9:D 13=false:=hW 13 (mq (by kernel_rfl));rw[hD,h9]at hg
   (with_reducible refine Ai (w1:=w'.alloc (.cells #[.slice none 0 0] 37)) (v:=.pointer (some ⟨w'.heap.size,0,none⟩)) ?_ ?_ ?_)
   .simp only[Region.wanted]
   .simp[execOp,go_sem]
   .have hb:Below w'.heap.size w' (w'.alloc (.cells #[.slice none 0 0] 37)):=Bq;refine⟨Am.of hb hg.size,trivial,⟨hbx'.1.later hb,hbx'.2.below hb hbx'.2.lt⟩,?_⟩;have h8:=hg.alloc2;simpa [upd,h9]using h8
  case refine_13=>
   intro D sp w' hD hW hdp ⟨hbx',hg⟩;have hx:∃p n c,sp 7=.agg #[.slice p n c]/\Ag w' p n c (N/M):=(hdp 7 (mq (by kernel_rfl))).2;have h9:=(hdp 10 (mq (by kernel_rfl))).1;rw[h9]at hg
   (with_reducible refine Aw hx fun p hx1=>Aw hx1 fun n hx2=>Aw hx2 fun c hx3=>Aw (hg.store1 hx3.2) fun b hy1=>Aw hy1 fun q hy2=>Aw hy2 fun m hy3=>Aw hy3 fun d hy4=>?_)
   have h1:=hx3.1;have h3:=hy4.1;have h4:=hy4.2.1;have h5:=hy4.2.2.1;have h6:=h5.cell;have h7:=h5.free
   (with_reducible refine Ap (w1:=w'.setCell ⟨b,0,none⟩ (.slice p n c)) ?_ ?_ ?_)
   .simp only[Region.wanted]
   .simp[execOp,Act.eval,Act.put,go_sem,h1,h3,h6,h7]
   .refine⟨Am.store h5 h4 _,trivial,⟨hbx'.1.below (B:=B0) ((Ba _ _).setCell h4 _) hB0',hbx'.2.other (by omega) _⟩,?_⟩;have h8:=hy4.2.2.2;simpa [upd,h9]using h8
  case refine_14=>
   intro D sp w' hD hW hdp ⟨hbx',hg⟩;have hx:∃p n c,sp 8=.agg #[.slice p n c]/\Ag w' p n c (N%M):=(hdp 8 (mq (by kernel_rfl))).2;have h9:=(hdp 11 (mq (by kernel_rfl))).1;rw[h9]at hg
   (with_reducible refine Aw hx fun p hx1=>Aw hx1 fun n hx2=>Aw hx2 fun c hx3=>Aw (hg.store2 hx3.2) fun b hy1=>Aw hy1 fun q hy2=>Aw hy2 fun m hy3=>Aw hy3 fun d hy4=>?_)
   have h1:=hx3.1;have h3:=hy4.1;have h4:=hy4.2.1;have h5:=hy4.2.2.1;have h6:=h5.cell;have h7:=h5.free
   (with_reducible refine Ap (w1:=w'.setCell ⟨b,0,none⟩ (.slice p n c)) ?_ ?_ ?_)
   .simp only[Region.wanted]
   .simp[execOp,Act.eval,Act.put,go_sem,h1,h3,h6,h7]
   .refine⟨Am.store h5 h4 _,trivial,⟨hbx'.1.below (B:=B0) ((Ba _ _).setCell h4 _) hB0',hbx'.2.other (by omega) _⟩,?_⟩;have h8:=hy4.2.2.2;simpa [upd,h9]using h8
  all_goals
   intro D sp w' hD hW hdp ⟨hbx',hg⟩;have c0:=hbx'.1.c0;have c1:w'.cell? ⟨r,0,none⟩=some (.slice pm nm cm):=by rw[(Cp hbx'.1.bel).1 _ _ hrl];exact Lb HR.out
   simp[asked,Region.wanted,Oper.gives,execOp,Act.eval,Act.put,go_sem,c0,c1]
 .intro sp w7 hsp ⟨⟨hbx2,hbn⟩,hg⟩;obtain⟨b2,e2,hb2,pr,nr,cr,n2,hR1⟩:=hg.two rfl;replace hR1:=hR1 rfl;have n2c:=n2.cell;have hne:b2≠w.heap.size+1:=by omega
  clear hsp hg;simp only[Al,Nat.reduceAdd];rw[e2];clear e2;generalize sp 5=u5,sp 6=u6,sp 7=u7,sp 8=u8,sp 10=u10,sp 12=u12,sp 13=u13 at *
  go_simp
  have d1:=hbx2.c1;have f1:=hbx2.f1;go_wp2;refine bodyPost_ret (v:=.agg #[.slice pr nr cr]) (by simp[results,Tryz.results31,go_sem,d1]) rfl ⟨pr,nr,cr,rfl,hR1.store hbn _,hbx2.bel.setCell (by simp) _⟩
structure Xs (w wr:World) (u0 u1 u2:Value):Prop where
 b0:Af wr w.heap.size u0
 b1:Af wr (w.heap.size+1) u1
 b2:Af wr (w.heap.size+1+1) u2
 bel:Below w.heap.size w wr
theorem Xs.later {w wr w1:World}{u0 u1 u2:Value}(h:Xs w wr u0 u1 u2)(hb:Below wr.heap.size wr w1):Xs w w1 u0 u1 u2 :=
 ⟨h.b0.below hb h.b0.lt,h.b1.below hb h.b1.lt,h.b2.below hb h.b2.lt,Ae h.bel hb⟩
theorem Xs.mk3 (w:World)(u0 u1 u2:Value) :
  Xs w (((w.alloc (.cells #[u0] 37)).alloc (.cells #[u1] 37)).alloc (.cells #[u2] 37)) u0 u1 u2:=by
 refine⟨?_,?_,?_,(((Ba _ _).alloc (Av _) _).alloc (by simp) _).alloc (by simp;omega) _⟩
 .exact((Af.made w u0).below ((Ba _ _).alloc (Av _) _) (by simp)).below ((Ba _ _).alloc (Av _) _) (by simp;omega)
 .have:=(Af.made (w.alloc (.cells #[u0] 37)) u1).below ((Ba _ _).alloc (Av _) (.cells #[u2] 37)) (by simp);simpa using this
 .have:=Af.made ((w.alloc (.cells #[u0] 37)).alloc (.cells #[u1] 37)) u2;simpa using this
structure aZ (w wr:World) (u0 u1:Value):Prop where
 b0:Af wr w.heap.size u0
 b1:Af wr (w.heap.size+1) u1
 bel:Below w.heap.size w wr
theorem aZ.later {w wr w1:World}{u0 u1:Value}(h:aZ w wr u0 u1)(hb:Below wr.heap.size wr w1):aZ w w1 u0 u1 :=
 ⟨h.b0.below hb h.b0.lt,h.b1.below hb h.b1.lt,Ae h.bel hb⟩
theorem aZ.mk2 (w:World)(u0 u1:Value) :
  aZ w ((w.alloc (.cells #[u0] 37)).alloc (.cells #[u1] 37)) u0 u1:=by
 refine⟨?_,?_,((Ba _ _).alloc (Av _) _).alloc (by simp) _⟩
 .exact(Af.made w u0).below ((Ba _ _).alloc (Av _) _) (by simp)
 .have:=Af.made (w.alloc (.cells #[u0] 37)) u1;simpa using this
structure Ring (w:World) (r M f:Nat):Prop where
 at_:RingAt w r M
 two:2<=M
 lim:M<An f
 few:f<=10000
theorem Ring.below {w w':World}{r M f:Nat}(h:Ring w r M f)(hb:Below w.heap.size w w'):Ring w' r M f:=⟨h.at_.below hb,h.two,h.lim,h.few⟩
theorem Ao {e N:Nat}{v:Value}{w:World}(h:Fit e N v w):∃p n c,v=.agg #[.slice p n c]/\Ag w p n c N/\N<An e:=h
theorem Ce {w:World}{r M f e N:Nat}{v:Value}(hR:Ring w r M f)(h:Fit e N v w)(he:e<=800000) :
  Calls Tryz.prog 31 #[.pointer (some ⟨r,0,none⟩),v] w fun en w'=>∃x,en=.returned x/\Fit f (N%M) x w'/\Below w.heap.size w w':=by
 obtain⟨p,n,c,rfl,h1,h2⟩:=h;refine(fH w r M p n c N e f hR.at_ (by have:=hR.two;omega) hR.lim h1 h2 he (by have:=hR.few;omega)).mono ?_;rintro en w' ⟨q,m,d,rfl,h3,hb⟩;exact⟨_,rfl,Fit.of h3 (Nat.lt_trans (Nat.mod_lt _ (by have:=hR.two;omega)) hR.lim),hb⟩
theorem Ly {w:World}{r M f e1 e2 N K:Nat}{v u:Value}(hR:Ring w r M f)(h:Fit e1 N v w)(k:Fit e2 K u w)(he1:e1<=300000)(he2:e2<=300000) :
  Calls Tryz.prog 32 #[.pointer (some ⟨r,0,none⟩),v,u] w fun en w'=>∃x,en=.returned x/\Fit f ((N+K)%M) x w'/\Below w.heap.size w w':=by
 obtain⟨pa,na,ca,rfl,h1,h2⟩:=Ao h;obtain⟨pb,nb,cb,rfl,k1,k2⟩:=Ao k;have hbx:=Xs.mk3 w (.slice pa na ca) (.slice pb nb cb) (.slice none 0 0);go_enter Tryz.func32,Tryz.ntmps32
 go_wp2_with fail
 refine(Ll (h.below hbx.bel) (k.below hbx.bel) (by omega) (by omega)).mono ?_;rintro en w1 ⟨x,rfl,hx,hb⟩;replace hbx:=hbx.later hb
 go_wp2_with fail
 refine(Ce (hR.below hbx.bel) hx (by omega)).mono ?_;rintro en w2 ⟨y,rfl,hy,hb2⟩;replace hbx:=hbx.later hb2;obtain⟨pc,nc,cc,rfl,y1,y2⟩:=hy;have c2:=hbx.b2.cell;have f2:=hbx.b2.free;have z2:=hbx.b2.lt;go_wp2;exact bodyPost_ret (v:=.agg #[.slice pc nc cc]) (by simp[results,Tryz.results32,go_sem,c2]) rfl ⟨_,rfl,Fit.of (y1.store hbx.b2 _) y2,hbx.bel.setCell (by simp;omega) _⟩
theorem Dk {w:World}{r M f e1 e2 N K:Nat}{v u:Value}(hR:Ring w r M f)(h:Fit e1 N v w)(k:Fit e2 K u w)(he1:e1<=300000)(he2:e2<=300000) :
  Calls Tryz.prog 33 #[.pointer (some ⟨r,0,none⟩),v,u] w fun en w'=>∃x,en=.returned x/\Fit f ((N*K)%M) x w'/\Below w.heap.size w w':=by
 obtain⟨pa,na,ca,rfl,h1,h2⟩:=Ao h;obtain⟨pb,nb,cb,rfl,k1,k2⟩:=Ao k;have hbx:=Xs.mk3 w (.slice pa na ca) (.slice pb nb cb) (.slice none 0 0);go_enter Tryz.func33,Tryz.ntmps33
 go_wp2_with fail
 refine(Lf (h.below hbx.bel) (k.below hbx.bel) (by omega) (by omega)).mono ?_;rintro en w1 ⟨x,rfl,hx,hb⟩;replace hbx:=hbx.later hb
 go_wp2_with fail
 refine(Ce (hR.below hbx.bel) hx (by omega)).mono ?_;rintro en w2 ⟨y,rfl,hy,hb2⟩;replace hbx:=hbx.later hb2;obtain⟨pc,nc,cc,rfl,y1,y2⟩:=hy;have c2:=hbx.b2.cell;have f2:=hbx.b2.free;have z2:=hbx.b2.lt;go_wp2;exact bodyPost_ret (v:=.agg #[.slice pc nc cc]) (by simp[results,Tryz.results33,go_sem,c2]) rfl ⟨_,rfl,Fit.of (y1.store hbx.b2 _) y2,hbx.bel.setCell (by simp;omega) _⟩
theorem Sl {w:World}{e N:Nat}{v:Value}(h:Fit e N v w)(he:e<=300000) :
  Calls Tryz.prog 119 #[v] w fun en w'=>∃x,en=.returned x/\Fit e N x w'/\Below w.heap.size w w':=by
 obtain⟨pa,na,ca,rfl,h1,h2⟩:=Ao h;have hbx:=aZ.mk2 w (.slice pa na ca) (.slice none 0 0);have hz:∀w',Fit 0 0 (.agg #[.slice none 0 0]) w':=fun w'=>Fit.of (Ag.nil w') (by decide)
 have HZ:=Ah hz;clear hz;go_enter Tryz.func119,Tryz.ntmps119
 go_wp2_with fail
 refine(Ll (h.below hbx.bel) (HZ.out _) (by omega) (by omega)).mono ?_;rintro en w1 ⟨x,rfl,hx,hb⟩;replace hbx:=hbx.later hb;obtain⟨pc,nc,cc,rfl,y1,_⟩:=hx;have c1:=hbx.b1.cell;have f1:=hbx.b1.free;have z1:=hbx.b1.lt;go_wp2;exact bodyPost_ret (v:=.agg #[.slice pc nc cc]) (by simp[results,Tryz.results119,go_sem,c1]) rfl ⟨_,rfl,Fit.of (y1.store hbx.b1 _) h2,hbx.bel.setCell (by simp) _⟩
theorem Ew {w:World}{r M f:Nat}(hR:Ring w r M f) :
  Calls Tryz.prog 57 #[.pointer (some ⟨r,0,none⟩)] w fun en w'=>∃x,en=.returned x/\Fit f M x w'/\Below w.heap.size w w':=by
 have hrl:=hR.at_.lt
 have hfew:=hR.few;obtain⟨pm,nm,cm,hm1,hm2,_⟩:=hR.at_.ex
 have hFM:Fit f M (.agg #[.slice pm nm cm]) w:=Fit.of hm2 hR.lim;have hrc:=Lb hm1;have hb1:=Af.made w (.slice none 0 0);have hbel:Below w.heap.size w (w.alloc (.cells #[.slice none 0 0] 37)):=Bq;have hne:r≠w.heap.size:=by omega
 clear hm1;go_enter Tryz.func57,Tryz.ntmps57
 go_wp2_with fail
 refine(Sl (hFM.below hbel) (by omega)).mono ?_;rintro en w1 ⟨x,rfl,hx,hb⟩;obtain⟨pc,nc,cc,rfl,y1,y2⟩:=hx;have hbn:=hb1.below hb hb1.lt;have c1:=hbn.cell;have f1:=hbn.free;have z1:=hbn.lt;go_wp2;exact bodyPost_ret (v:=.agg #[.slice pc nc cc]) (by simp[results,Tryz.results57,go_sem,c1]) rfl ⟨_,rfl,Fit.of (y1.store hbn _) y2,(Ae hbel hb).setCell (by simp) _⟩
def Fs (x:Nat)(v:Value)(w:World):Prop:=∃p n c,v=.tuple #[.agg #[.slice p n c],.bool true]/\Ag w p n c x
theorem Fs.keep {x B:Nat}{v:Value}{w w':World}(h:Fs x v w)(k:Am B w w'):Fs x v w' :=
 let ⟨p,n,c,h1,h2⟩:=h
 ⟨p,n,c,h1,k.nat _ _ _ _ h2⟩
theorem Ue {w:World}{v u:Value}{e f N K:Nat}(h:Fit e N v w)(k:Fit f K u w)(hle:K<=N)(he:e<=800000)(hf:f<=800000) :
  Calls Tryz.prog 113 #[v,u] w fun en w'=>∃z,en=.returned z/\Fs (N-K) z w'/\Below w.heap.size w w':=by
 refine(Vz h k (by omega) (by omega)).mono ?_;rintro en w' ⟨x,rfl,⟨p,n,c,rfl,h1,_⟩,hb⟩;rw[decide_eq_true hle];exact⟨_,rfl,⟨p,n,c,rfl,h1⟩,hb⟩
theorem Pv {w:World}{r M f e K:Nat}{v:Value}(hR:Ring w r M f)(h:Fit e K v w)(hle:K<=M)(he:e<=300000) :
  Calls Tryz.prog 112 #[.pointer (some ⟨r,0,none⟩),v] w fun en w'=>∃x,en=.returned x/\Fit f (M-K) x w'/\Below w.heap.size w w':=by
 have hrl:=hR.at_.lt
 have hfew:=hR.few;obtain⟨pm,nm,cm,hm1,hm2,_⟩:=hR.at_.ex
 obtain⟨pa,na,ca,rfl,h1,h2⟩:=Ao h;have hFM:Fit f M (.agg #[.slice pm nm cm]) w:=Fit.of hm2 hR.lim;have hlim:Hid (M-K<An f):=Ah (by have:=hR.lim;omega);have HR:=Ah hm1;have HLE:=Ah hle;have hbx:=aZ.mk2 w (.slice pa na ca) (.slice none 0 0);obtain⟨B0,hB0⟩:∃B0,w.heap.size+2=B0:=⟨_,rfl⟩
 have HB0:=Ah hB0;have hB0':w.heap.size+2<=B0:=Nat.le_of_eq hB0;clear hB0 hm1 hle;go_enter Tryz.func112,Tryz.ntmps112;go_wp2;refine Aj (by kernel_rfl) (by kernel_rfl)
  [some (.pointer (some ⟨r,0,none⟩)),some (.pointer (some ⟨r,0,none⟩)),some (.pointer (some ⟨r,0,none⟩)),some (.agg #[.slice pm nm cm]),some (.agg #[.slice pa na ca]),none,none,none,some (.bool true),none,none,some (.bool true)]
  [false,false,false,false,false,true,true,true,false,true,true,false] rfl
  (fun w1 w2=>Am B0 w1 w2)
  (fun D sp w'=>aZ w w' (.slice pa na ca) (.slice none 0 0)/\Gr B0 (M-K) 0 (D 9) false (D 10) false (sp 9) undef w')
  (fun i v w'=>match i with
   | 5|6=>Fs (M-K) v w'
   | 7=>Cv (M-K) v w'
   | _=>True)
  ?_ ⟨hbx.later ((Ba _ _).drew),Gr.start (by simpa using Nat.le_of_eq HB0.out.symm)⟩ ?_ ?_
 .intro i v w1 w2 hf hb;split at hf
  .exact Fs.keep hf hb
  .exact Fs.keep hf hb
  .exact Cv.keep hf hb
  .trivial
 .simp only[Az,Nat.reduceAdd];refine⟨?_,?_,?_,?_,?_,?_,?_,?_,?_,?_,?_,?_,trivial⟩
  case refine_6=>
   intro D sp w' hD hW hdp ⟨hbx',hg⟩
   (with_reducible refine Ac (w1:=w') (f := 113) (args:=#[.agg #[.slice pm nm cm],.agg #[.slice pa na ca]]) ?_ ?_ ?_)
   .simp only[Region.wanted]
   .simp[Act.eval,Act.put,go_sem]
   .refine(Ue (hFM.below hbx'.bel) (h.below hbx'.bel) HLE.out (by omega) (by omega)).mono ?_;rintro e w5 ⟨u,rfl,hu,hb⟩;exact⟨u,rfl,Am.of hb hg.size,hu,hbx'.later hb,by simpa [upd]using hg.later hb⟩
  case refine_7=>
   intro D sp w' hD hW hdp ⟨hbx',hg⟩;have k4:Fs (M-K) (sp 5) w':=(hdp 5 (mq (by kernel_rfl))).2
   (with_reducible refine Ai (w1:=w') (v:=sp 5) ?_ ?_ ?_)
   .simp only[Region.wanted]
   .simp[execOp,Act.eval,Act.put,go_sem]
   .exact⟨Am.same _ _,k4,hbx',by simpa [upd]using hg⟩
  case refine_8=>
   intro D sp w' hD hW hdp ⟨hbx',hg⟩;have hx:∃p n c,sp 6=.tuple #[.agg #[.slice p n c],.bool true]/\Ag w' p n c (M-K):=(hdp 6 (mq (by kernel_rfl))).2
   (with_reducible refine Aw hx fun p hx1=>Aw hx1 fun n hx2=>Aw hx2 fun c hx3=>?_)
   have h1:=hx3.1
   (with_reducible refine Ai (w1:=w') (v:=.agg #[.slice p n c]) ?_ ?_ ?_)
   .simp only[Region.wanted]
   .simp[execOp,Act.eval,Act.put,go_sem,h1]
   .exact⟨Am.same _ _,⟨p,n,c,rfl,hx3.2⟩,hbx',by simpa [upd]using hg⟩
  case refine_9=>
   intro D sp w' hD hW hdp ⟨hbx',hg⟩;have hx:∃p n c,sp 6=.tuple #[.agg #[.slice p n c],.bool true]/\Ag w' p n c (M-K):=(hdp 6 (mq (by kernel_rfl))).2
   (with_reducible refine Aw hx fun p hx1=>Aw hx1 fun n hx2=>Aw hx2 fun c hx3=>?_)
   have h1:=hx3.1;simp[asked,Region.wanted,Oper.gives,execOp,Act.eval,Act.put,go_sem,h1]
  case refine_10=>
   intro D sp w' hD hW hdp ⟨hbx',hg⟩;have h9:D 10=false:=hW 10 (mq (by kernel_rfl));rw[hD,h9]at hg
   (with_reducible refine Ai (w1:=w'.alloc (.cells #[.slice none 0 0] 37)) (v:=.pointer (some ⟨w'.heap.size,0,none⟩)) ?_ ?_ ?_)
   .simp only[Region.wanted]
   .simp[execOp,go_sem]
   .have hb:Below w'.heap.size w' (w'.alloc (.cells #[.slice none 0 0] 37)):=Bq;refine⟨Am.of hb hg.size,trivial,hbx'.later hb,?_⟩;have h8:=hg.alloc1;simpa [upd,h9]using h8
  case refine_11=>
   intro D sp w' hD hW hdp ⟨hbx',hg⟩;have hx:∃p n c,sp 7=.agg #[.slice p n c]/\Ag w' p n c (M-K):=(hdp 7 (mq (by kernel_rfl))).2;have h9:=(hdp 9 (mq (by kernel_rfl))).1;rw[h9]at hg
   (with_reducible refine Aw hx fun p hx1=>Aw hx1 fun n hx2=>Aw hx2 fun c hx3=>Aw (hg.store1 hx3.2) fun b hy1=>Aw hy1 fun q hy2=>Aw hy2 fun m hy3=>Aw hy3 fun d hy4=>?_)
   have h1:=hx3.1;have h3:=hy4.1;have h4:=hy4.2.1;have h5:=hy4.2.2.1;have h6:=h5.cell;have h7:=h5.free
   (with_reducible refine Ap (w1:=w'.setCell ⟨b,0,none⟩ (.slice p n c)) ?_ ?_ ?_)
   .simp only[Region.wanted]
   .simp[execOp,Act.eval,Act.put,go_sem,h1,h3,h6,h7]
   .refine⟨Am.store h5 h4 _,trivial,⟨hbx'.b0.other (by omega) _,hbx'.b1.other (by omega) _,hbx'.bel.setCell (by have:=h4;simp;omega) _⟩,?_⟩;have h8:=hy4.2.2.2;simpa [upd,h9]using h8
  all_goals
   intro D sp w' hD hW hdp ⟨hbx',hg⟩;have c0:=hbx'.b0.cell;have c1:w'.cell? ⟨r,0,none⟩=some (.slice pm nm cm):=by rw[(Cp hbx'.bel).1 _ _ hrl];exact Lb HR.out
   simp[asked,Region.wanted,Oper.gives,execOp,Act.eval,Act.put,go_sem,c0,c1]
 .intro sp w7 hsp ⟨hbx2,hg⟩;obtain⟨b2,e2,hb2,pr,nr,cr,n2,hR1⟩:=hg.one rfl;replace hR1:=hR1 rfl;have n2c:=n2.cell;have hne:b2≠w.heap.size+1:=by omega
  clear hsp hg;simp only[Al,Nat.reduceAdd];rw[e2];clear e2;generalize sp 5=u5,sp 6=u6,sp 7=u7,sp 10=u10 at *
  go_simp
  have d1:=hbx2.b1.cell;have f1:=hbx2.b1.free;go_wp2;exact bodyPost_ret (v:=.agg #[.slice pr nr cr]) (by simp[results,Tryz.results112,go_sem,d1]) rfl ⟨_,rfl,Fit.of (hR1.store hbx2.b1 _) hlim.out,hbx2.bel.setCell (by simp) _⟩
def Bt (w:World)(b N:Nat):Prop:=∃p n c,Af w b (.slice p n c)/\Ag w p n c N
theorem Bt.below {w w':World}{b N:Nat}(h:Bt w b N)(hb:Below w.heap.size w w'):Bt w' b N :=
 let ⟨p,n,c,h1,h2⟩:=h
 ⟨p,n,c,h1.below hb h1.lt,h2.below hb⟩
theorem Bt.other {w:World}{b b' N:Nat}{q:Option Addr}{m d:Nat}(h:Bt w b N)(hb:Af w b' (.slice q m d))(hne:b≠b')(v:Value):Bt (w.setCell ⟨b',0,none⟩ v) b N :=
 let ⟨p,n,c,h1,h2⟩:=h
 ⟨p,n,c,h1.other hne v,h2.store hb v⟩
theorem Hm {e N:Nat}{p:Option Addr}{n c:Nat}{w:World}(h:Fit e N (.agg #[.slice p n c]) w):Ag w p n c N:=by
 obtain⟨q,m,d,he,h1,_⟩:=h;cases he;exact h1
def Cq (N K M:Nat):Nat:=if K%M<=N%M then N%M-K%M else M-K%M+N%M
theorem Wc {N K M:Nat}(hM:2<=M):Cq N K M<M:=by
 have h1:=Nat.mod_lt N (show 0<M by omega);have h2:=Nat.mod_lt K (show 0<M by omega);unfold Cq;split<;>omega
theorem nB {N K M:Nat}(hM:2<=M):Cq N K M=(N%M+M-K%M)%M:=by
 have h1:=Nat.mod_lt N (show 0<M by omega);have h2:=Nat.mod_lt K (show 0<M by omega);unfold Cq;generalize N%M=a at *;generalize K%M=b at *;split
 .rw[show a+M-b=(a-b)+M by omega,Nat.add_mod_right,Nat.mod_eq_of_lt (by omega)]
 .rw[Nat.mod_eq_of_lt (by omega)];omega
structure Hy (w wr:World) (d6 d7:Bool) (ua ub:Value) (x y:Nat):Prop where
 a0:d6=false->Af wr w.heap.size ua
 a1:d6=true->Bt wr w.heap.size x
 c0:d7=false->Af wr (w.heap.size+1) ub
 c1:d7=true->Bt wr (w.heap.size+1) y
 b2:Af wr (w.heap.size+1+1) (.slice none 0 0)
 bel:Below w.heap.size w wr
theorem Hy.later {w wr w1:World}{d6 d7:Bool}{ua ub:Value}{x y:Nat}(h:Hy w wr d6 d7 ua ub x y)(hb:Below wr.heap.size wr w1):Hy w w1 d6 d7 ua ub x y :=
 ⟨fun a=>(h.a0 a).below hb (h.a0 a).lt,fun a=>(h.a1 a).below hb,fun a=>(h.c0 a).below hb (h.c0 a).lt,fun a=>(h.c1 a).below hb,h.b2.below hb h.b2.lt,Ae h.bel hb⟩
theorem Hy.store6 {w wr:World}{d7:Bool}{qa:Option Addr}{ma da:Nat}{ub:Value}{x y:Nat}{p:Option Addr}{n c:Nat}(h:Hy w wr false d7 (.slice qa ma da) ub x y)(hx:Ag wr p n c x) :
  Hy w (wr.setCell ⟨w.heap.size,0,none⟩ (.slice p n c)) true d7 (.slice qa ma da) ub x y :=
 let hb:=h.a0 rfl
 ⟨(fun a=>by cases a),fun _=>⟨p,n,c,hb.set _,hx.store hb _⟩,fun a=>(h.c0 a).other (by omega) _,fun a=>(h.c1 a).other hb (by omega) _,h.b2.other (by omega) _,h.bel.setCell (Av _) _⟩
theorem Hy.store7 {w wr:World}{d6:Bool}{qb:Option Addr}{mb db:Nat}{ua:Value}{x y:Nat}{p:Option Addr}{n c:Nat}(h:Hy w wr d6 false ua (.slice qb mb db) x y)(hy:Ag wr p n c y) :
  Hy w (wr.setCell ⟨w.heap.size+1,0,none⟩ (.slice p n c)) d6 true ua (.slice qb mb db) x y :=
 let hb:=h.c0 rfl
 ⟨fun a=>(h.a0 a).other (by omega) _,fun a=>(h.a1 a).other hb (by omega) _,(fun a=>by cases a),fun _=>⟨p,n,c,hb.set _,hy.store hb _⟩,h.b2.other (by omega) _,h.bel.setCell (by simp) _⟩
theorem Lx {w:World}{r M f e1 e2 N K:Nat}{v u:Value}(hR:Ring w r M f)(h:Fit e1 N v w)(k:Fit e2 K u w)(he1:e1<=300000)(he2:e2<=300000) :
  Calls Tryz.prog 55 #[.pointer (some ⟨r,0,none⟩),v,u] w fun en w'=>∃x,en=.returned x/\Fit f (Cq N K M) x w'/\Below w.heap.size w w':=by
 obtain⟨pa,na,ca,rfl,h1,h2⟩:=Ao h;obtain⟨pb,nb,cb,rfl,k1,k2⟩:=Ao k;have hfew:=hR.few;have hlim:Hid (Cq N K M<An f):=Ah (Nat.lt_trans (Wc hR.two) hR.lim);have hKM:Hid (K%M<M):=Ah (Nat.mod_lt _ (by have:=hR.two;omega));have hbx:=Xs.mk3 w (.slice pa na ca) (.slice pb nb cb) (.slice none 0 0);go_enter Tryz.func55,Tryz.ntmps55;go_wp2;refine Aj (by kernel_rfl) (by kernel_rfl)
  [some (.pointer (some ⟨r,0,none⟩)),some (.agg #[.slice pa na ca]),none,some (.pointer (some ⟨r,0,none⟩)),some (.agg #[.slice pb nb cb]),none,none,none]
  [false,false,true,false,false,true,true,true] rfl
  (fun w1 w2=>Am w.heap.size w1 w2)
  (fun D _ w'=>Hy w w' (D 6) (D 7) (.slice pa na ca) (.slice pb nb cb) (N%M) (K%M))
  (fun i v w'=>match i with
   | 2=>Cv (N%M) v w'
   | 5=>Cv (K%M) v w'
   | _=>True)
  ?_ ⟨fun _=>hbx.b0,(fun a=>by cases a),fun _=>hbx.b1,(fun a=>by cases a),hbx.b2,hbx.bel.trans (Ba _ _).drew⟩ ?_ ?_
 .intro i v w1 w2 hf hb;split at hf
  .exact Cv.keep hf hb
  .exact Cv.keep hf hb
  .trivial
 .simp only[Az,Nat.reduceAdd];refine⟨?_,?_,?_,?_,?_,?_,?_,?_,trivial⟩
  case refine_2=>
   intro D sp w' hD hW hdp hg;have h6:D 6=false:=hW 6 (mq (by kernel_rfl));have c0:=(hg.a0 h6).cell;simp[asked,Region.wanted,Oper.gives,execOp,Act.eval,Act.put,go_sem,c0]
  case refine_5=>
   intro D sp w' hD hW hdp hg;have h6:D 7=false:=hW 7 (mq (by kernel_rfl));have c0:=(hg.c0 h6).cell;simp[asked,Region.wanted,Oper.gives,execOp,Act.eval,Act.put,go_sem,c0]
  case refine_3=>
   intro D sp w' hD hW hdp hg
   (with_reducible refine Ac (w1:=w') (f := 31) (args:=#[.pointer (some ⟨r,0,none⟩),.agg #[.slice pa na ca]]) ?_ ?_ ?_)
   .simp only[Region.wanted]
   .simp[Act.eval,Act.put,go_sem]
   .refine(Ce (hR.below hg.bel) (h.below hg.bel) (by omega)).mono ?_;rintro e w5 ⟨u,rfl,⟨p,n,c,hu,hu1,_⟩,hb⟩;exact⟨u,rfl,Am.of hb hg.bel.size,⟨p,n,c,hu,hu1⟩,by simpa using hg.later hb⟩
  case refine_6=>
   intro D sp w' hD hW hdp hg
   (with_reducible refine Ac (w1:=w') (f := 31) (args:=#[.pointer (some ⟨r,0,none⟩),.agg #[.slice pb nb cb]]) ?_ ?_ ?_)
   .simp only[Region.wanted]
   .simp[Act.eval,Act.put,go_sem]
   .refine(Ce (hR.below hg.bel) (k.below hg.bel) (by omega)).mono ?_;rintro e w5 ⟨u,rfl,⟨p,n,c,hu,hu1,_⟩,hb⟩;exact⟨u,rfl,Am.of hb hg.bel.size,⟨p,n,c,hu,hu1⟩,by simpa using hg.later hb⟩
  case refine_7=>
   intro D sp w' hD hW hdp hg;have hx:∃p n c,sp 2=.agg #[.slice p n c]/\Ag w' p n c (N%M):=(hdp 2 (mq (by kernel_rfl))).2;rw[hD]at hg
   (with_reducible refine Aw hx fun p hx1=>Aw hx1 fun n hx2=>Aw hx2 fun c hx3=>?_)
   have g1:=hx3.1;have hbx0:=hg.a0 rfl;have g2:=hbx0.cell;have g3:=hbx0.free
   (with_reducible refine Ap (w1:=w'.setCell ⟨w.heap.size,0,none⟩ (.slice p n c)) ?_ ?_ ?_)
   .simp only[Region.wanted]
   .simp[execOp,Act.eval,Act.put,go_sem,g1,g2,g3]
   .exact⟨Am.store hbx0 (Av _) _,trivial,by simpa using hg.store6 hx3.2⟩
  case refine_8=>
   intro D sp w' hD hW hdp hg;have hx:∃p n c,sp 5=.agg #[.slice p n c]/\Ag w' p n c (K%M):=(hdp 5 (mq (by kernel_rfl))).2;rw[hD]at hg
   (with_reducible refine Aw hx fun p hx1=>Aw hx1 fun n hx2=>Aw hx2 fun c hx3=>?_)
   have g1:=hx3.1;have hbx0:=hg.c0 rfl;have g2:=hbx0.cell;have g3:=hbx0.free
   (with_reducible refine Ap (w1:=w'.setCell ⟨w.heap.size+1,0,none⟩ (.slice p n c)) ?_ ?_ ?_)
   .simp only[Region.wanted]
   .simp[execOp,Act.eval,Act.put,go_sem,g1,g2,g3]
   .exact⟨Am.store hbx0 (by simp) _,trivial,by simpa using hg.store7 hx3.2⟩
  all_goals
   intro D sp w' hD hW hdp hg;simp[asked,Region.wanted,Oper.gives,execOp,Act.eval,Act.put,go_sem]
 .intro sp w7 hsp hg;obtain⟨p1,n1,c1,x1,x2⟩:=hg.a1 rfl;obtain⟨p2,n2,c2,y1,y2⟩:=hg.c1 rfl;have hb2:=hg.b2;have hbel:=hg.bel;clear hsp hg;simp only[Al,Nat.reduceAdd];generalize sp 2=u2,sp 5=u5,sp 6=u6,sp 7=u7 at *
  go_simp
  have hMf:=hR.lim;have hF1:Fit f (N%M) (.agg #[.slice p1 n1 c1]) w7:=Fit.of x2 (Nat.lt_trans (Nat.mod_lt _ (by have:=hR.two;omega)) hMf);have hF2:Fit f (K%M) (.agg #[.slice p2 n2 c2]) w7:=Fit.of y2 (Nat.lt_trans (Nat.mod_lt _ (by have:=hR.two;omega)) hMf);have a0:=x1.cell;have a1:=y1.cell;clear x2 y2 hMf
  go_wp2_with fail
  refine(Vz hF1 hF2 (by omega) (by omega)).mono ?_;rintro en w8 ⟨z,rfl,hZ,hb⟩;obtain⟨p3,n3,c3,rfl,z1,z2⟩:=hZ;have hZF:Fit f (N%M-K%M) (.agg #[.slice p3 n3 c3]) w8:=⟨_,_,_,rfl,z1,z2⟩
  replace hbel:=Ae hbel hb;have hRb:=hR.below hbel;have nb3:=Af.made w8 (.slice p3 n3 c3);have hb3:Below w8.heap.size w8 (w8.alloc (.cells #[.slice p3 n3 c3] 37)):=Bq;replace x1:=(x1.below hb x1.lt).below hb3 (Da x1.lt hb.size);replace y1:=(y1.below hb y1.lt).below hb3 (Da y1.lt hb.size);have hb8:=hb2.below hb hb2.lt;replace hb2:=hb8.below hb3 hb8.lt;have hs8:=hb8.lt;clear a0 a1
  by_cases hle:K%M<=N%M
  .rw[decide_eq_true hle];have hv:Hid (Cq N K M=N%M-K%M):=Ah (by unfold Cq;rw[if_pos hle]);have d0:=nb3.cell;have d1:=hb2.cell;have d2:=hb2.free;clear hle;go_wp2;have hb9:=(hb8.set (.slice p3 n3 c3)).below ((Ba _ _).alloc (Av _) (.cells #[.slice p3 n3 c3] 37)) (by simpa using hb8.lt);have d3:=hb9.cell;refine bodyPost_ret (v:=.agg #[.slice p3 n3 c3]) (by simp[results,Tryz.results55,go_sem,d3]) rfl ⟨_,rfl,Fit.of ?_ hlim.out,(hbel.setCell (by simp;omega) _).alloc (by simpa using hbel.size) _⟩;rw[hv.out];exact(z1.store hb8 _).below ((Ba _ _).alloc (Av _) _)
  .rw[decide_eq_false hle];have hv:Hid (Cq N K M=M-K%M+N%M):=Ah (by unfold Cq;rw[if_neg hle]);clear hle;obtain⟨w9,hw9⟩:∃w9,w8.alloc (.cells #[.slice p3 n3 c3] 37)=w9:=⟨_,rfl⟩
   rw[hw9]at hb3 x1 y1 hb2
   have hn1:=((Hm hF1).below hb).below hb3;have hn2:=((Hm hF2).below hb).below hb3;have hbel9:=Ae hbel hb3;have hM2:=hR.two;have hMl:=Ah hR.lim;go_wp2
   try rw[hw9]
   clear hw9 nb3 hRb hbel hb hb8;refine Ak (by kernel_rfl) (by kernel_rfl)
    [some (.pointer (some ⟨r,0,none⟩)),some (.agg #[.slice p2 n2 c2]),none,some (.agg #[.slice p1 n1 c1]),none,none]
    [false,false,true,false,true,true] rfl
    (fun w1 w2=>Am w.heap.size w1 w2)
    (fun D w'=>(Af w' w.heap.size (.slice p1 n1 c1)/\Af w' (w.heap.size+1) (.slice p2 n2 c2)/\Ag w' p1 n1 c1 (N%M)/\Ag w' p2 n2 c2 (K%M)/\Below w.heap.size w w')/\(D 5=false->Af w' (w.heap.size+1+1) (.slice none 0 0))/\(D 5=true->Bt w' (w.heap.size+1+1) (M-K%M+N%M)))
    (fun i v w'=>match i with
     | 2=>Fit f (M-K%M) v w'
     | 4=>Cv (M-K%M+N%M) v w'
     | _=>True)
    ?_ ⟨⟨x1,y1,hn1.below (Ba _ _).drew,hn2.below (Ba _ _).drew,hbel9.trans (Ba _ _).drew⟩,fun _=>hb2,(fun a=>by cases a)⟩ ?_ ?_
   .intro i v w1 w2 hf hb;split at hf
    .exact Fit.keep hf hb
    .exact Cv.keep hf hb
    .trivial
   .simp only[Be,Nat.reduceAdd];refine⟨?_,?_,?_,?_,?_,?_,trivial⟩
    case refine_3=>
     intro D sp w' hD hW hdp hg
     (with_reducible refine Ac (w1:=w') (f := 112) (args:=#[.pointer (some ⟨r,0,none⟩),.agg #[.slice p2 n2 c2]]) ?_ ?_ ?_)
     .simp only[Region.wanted]
     .simp[Act.eval,Act.put,go_sem]
     .refine(Pv (hR.below hg.1.2.2.2.2) (Fit.of (e:=f) hg.1.2.2.2.1 (Nat.lt_trans hKM.out hMl.out)) (Nat.le_of_lt hKM.out) (by omega)).mono ?_;rintro e w5 ⟨u,rfl,hu,hb⟩;exact⟨u,rfl,Am.of hb hg.1.2.2.2.2.size,hu,⟨hg.1.1.below hb hg.1.1.lt,hg.1.2.1.below hb hg.1.2.1.lt,hg.1.2.2.1.below hb,hg.1.2.2.2.1.below hb,Ae hg.1.2.2.2.2 hb⟩,by simpa using fun a=>(hg.2.1 a).below hb (hg.2.1 a).lt,by simpa using fun a=>(hg.2.2 a).below hb⟩
    case refine_5=>
     intro D sp w' hD hW hdp hg;have k2:Fit f (M-K%M) (sp 2) w':=(hdp 2 (mq (by kernel_rfl))).2
     (with_reducible refine Ac (w1:=w') (f := 94) (args:=#[sp 2,.agg #[.slice p1 n1 c1]]) ?_ ?_ ?_)
     .simp only[Region.wanted]
     .simp[Act.eval,Act.put,go_sem]
     .refine(Ll k2 (Fit.of (e:=f) hg.1.2.2.1 (Nat.lt_trans (Nat.mod_lt _ (by omega)) hMl.out)) (by omega) (by omega)).mono ?_;rintro e w5 ⟨u,rfl,⟨p,n,c,hu,hu1,_⟩,hb⟩;exact⟨u,rfl,Am.of hb hg.1.2.2.2.2.size,⟨p,n,c,hu,hu1⟩,⟨hg.1.1.below hb hg.1.1.lt,hg.1.2.1.below hb hg.1.2.1.lt,hg.1.2.2.1.below hb,hg.1.2.2.2.1.below hb,Ae hg.1.2.2.2.2 hb⟩,by simpa using fun a=>(hg.2.1 a).below hb (hg.2.1 a).lt,by simpa using fun a=>(hg.2.2 a).below hb⟩
    case refine_6=>
     intro D sp w' hD hW hdp hg;have hx:∃p n c,sp 4=.agg #[.slice p n c]/\Ag w' p n c (M-K%M+N%M):=(hdp 4 (mq (by kernel_rfl))).2
     (with_reducible refine Aw hx fun p hx1=>Aw hx1 fun n hx2=>Aw hx2 fun c hx3=>?_)
     have g1:=hx3.1;have hbx0:=hg.2.1 hD;have g2:=hbx0.cell;have g3:=hbx0.free;have o1:=hg.1.1.other (b':=w.heap.size+1+1) (by omega) (.slice p n c);have o2:=hg.1.2.1.other (b':=w.heap.size+1+1) (by omega) (.slice p n c)
     (with_reducible refine Ap (w1:=w'.setCell ⟨w.heap.size+1+1,0,none⟩ (.slice p n c)) ?_ ?_ ?_)
     .simp only[Region.wanted]
     .simp[execOp,Act.eval,Act.put,go_sem,g1,g2,g3]
     .exact⟨Am.store hbx0 (by omega) _,trivial,⟨o1,o2,hg.1.2.2.1.store hbx0 _,hg.1.2.2.2.1.store hbx0 _,hg.1.2.2.2.2.setCell (by simp;omega) _⟩,(fun a=>by simp at a),fun _=>⟨p,n,c,hbx0.set _,hx3.2.store hbx0 _⟩⟩
    all_goals
     intro D sp w' hD hW hdp hg;have c0:=hg.1.1.cell;have c1:=hg.1.2.1.cell;simp[asked,Region.wanted,Oper.gives,execOp,Act.eval,Act.put,go_sem,c0,c1]
   .intro sp w10 hsp hg;obtain⟨p4,n4,c4,q1,q2⟩:=hg.2.2 rfl;have hbel10:=hg.1.2.2.2.2;have d3:=q1.cell;clear hsp hg;simp only[Al,Nat.reduceAdd];generalize sp 2=u2' at *;generalize sp 4=u4' at *;generalize sp 5=u5' at *
    go_simp
    go_wp2;refine bodyPost_ret (v:=.agg #[.slice p4 n4 c4]) (by simp[results,Tryz.results55,go_sem,d3]) rfl ⟨_,rfl,Fit.of ?_ hlim.out,hbel10⟩;rw[hv.out];exact q2
theorem Vw (w:World) :
  Calls Tryz.prog 17 #[.int .u64 2] w fun en w'=>∃x,en=.returned x/\Fit 1 2 x w'/\Below w.heap.size w w':=by
 refine(Cc 2 w (by decide)).mono ?_;rintro en w' ⟨p,n,c,rfl,hn,hb,_⟩;exact⟨_,rfl,Fit.of hn (by decide),hb⟩
def iQ (N e:Nat)(w:World)(en:Ending)(w':World):Prop :=
 Below w.heap.size w w'/\((N<2/\en=.returned (.tuple #[.pointer none,.int .i64 1])) ∨ (2<=N/\∃r,en=.returned (.tuple #[.pointer (some ⟨r,0,none⟩),.int .i64 0])/\Ring w' r N e/\w.heap.size<=r))
theorem Gz {w:World}{e N:Nat}{v:Value}(h:Fit e N v w)(he:e<=10000) :
  Calls Tryz.prog 92 #[v] w (iQ N e w):=by
 obtain⟨pa,na,ca,rfl,h1,h2⟩:=Ao h;have hbx:=Dp.mk1 w (.slice pa na ca) 37;obtain⟨K,hK⟩:∃K,Bk N 2=K:=⟨_,rfl⟩
 obtain⟨E,hE⟩:∃E,decide (K<0)=E:=⟨_,rfl⟩
 have HK:=Ah hK;have HE:=Ah hE;have H2:=Ah h2;clear hK hE h2;go_enter Tryz.func92,Tryz.ntmps92;go_wp2;have hE:=HE.out;refine Ak (by kernel_rfl) (by kernel_rfl)
  [some (.agg #[.slice pa na ca]),none,none,some (.bool E)]
  [false,true,true,false] rfl
  (fun w1 w2=>Below w1.heap.size w1 w2)
  (fun _ w'=>Dp w w' (.slice pa na ca))
  (fun i v w'=>match i with
   | 1=>Fit 1 2 v w'
   | 2=>v=.int .i64 K
   | _=>True)
  ?_ (hbx.below (Ba _ _).drew (Av _)) ?_ ?_
 .intro i v w1 w2 hf hb;split at hf
  .exact hf.below hb
  .exact hf
  .trivial
 .simp only[Be,Nat.reduceAdd];refine⟨?_,?_,?_,?_,trivial⟩
  case refine_2=>
   intro D sp w' hD hW hdp hbx'
   (with_reducible refine Ac (w1:=w') (f := 17) (args:=#[.int .u64 2]) ?_ ?_ ?_)
   .simp only[Region.wanted]
   .simp[Act.eval,Act.put,go_sem]
   .refine(Vw w').mono ?_;rintro e w5 ⟨u,rfl,hu,hb⟩;exact⟨u,rfl,hb,hu,hbx'.later hb⟩
  case refine_3=>
   intro D sp w' hD hW hdp hbx';have k1:Fit 1 2 (sp 1) w':=(hdp 1 (mq (by kernel_rfl))).2
   (with_reducible refine Ac (w1:=w') (f := 24) (args:=#[.agg #[.slice pa na ca],sp 1]) ?_ ?_ ?_)
   .simp only[Region.wanted]
   .simp[Act.eval,Act.put,go_sem]
   .refine(Bc (h.below hbx'.bel) k1 (by omega) (by omega) HK.out).mono ?_;rintro e w5 ⟨u,rfl,hu,hb⟩;exact⟨u,rfl,hb,hu,hbx'.later hb⟩
  case refine_4=>
   intro D sp w' hD hW hdp hbx';have k2:sp 2=.int .i64 K:=(hdp 2 (mq (by kernel_rfl))).2;simp[asked,Region.wanted,Oper.gives,execOp,Act.eval,Act.put,go_sem,k2,hE]
  all_goals
   intro D sp w' hD hW hdp hbx';have c0:=hbx'.c0;simp[asked,Region.wanted,Oper.gives,execOp,Act.eval,go_sem,c0]
 .intro sp w2 hsp hbx';clear hsp hE;simp only[Al,Nat.reduceAdd];generalize sp 1=u1,sp 2=u2 at *
  go_simp
  by_cases h2:N<2
  .have hEt:E=true:=by rw[<-HE.out,<-HK.out,Dt h2];rfl
   have HN:=Ah h2;clear h2;subst hEt;go_wp2
   go_ret2
   exact⟨hbx'.bel,.inl ⟨HN.out,rfl⟩⟩
  .have hEf:E=false:=by
    rw[<-HE.out,<-HK.out,decide_eq_false_iff_not];unfold Bk;rw[if_neg h2];split<;>omega
   have HN:Hid (2<=N):=Ah (by omega);have c0:=hbx'.c0;clear h2;subst hEf
   go_wp2_with fail
   refine(Sl (h.below hbx'.bel) (by omega)).mono ?_;rintro en w3 ⟨x,rfl,hx,hb⟩;obtain⟨pc,nc,cc,rfl,x1,x2⟩:=hx;have hbel:=Ae hbx'.bel hb;have hl:=x1.len_le x2;go_wp2
   go_ret2
   refine⟨hbel.alloc hbel.size _,.inr ⟨HN.out,w3.heap.size,rfl,⟨⟨pc,nc,cc,heap_alloc_new w3 _,x1.below ((Ba _ _).alloc (Av _) _),by omega⟩,HN.out,x2,he⟩,hbel.size⟩⟩
end Go.Proofs.YtokhckjemidbpaaGreatDoor
