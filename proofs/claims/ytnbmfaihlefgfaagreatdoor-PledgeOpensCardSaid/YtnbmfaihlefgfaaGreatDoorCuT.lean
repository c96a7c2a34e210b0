/- How a region stands that makes two numbers and two boxes for them. -/
import Derived.Test.YtnbmfaihlefgfaaGreatDoorCuJ
import Derived.Test.YtnbmfaihlefgfaaGreatDoorGqG
import Derived.Lib.SmallJoins
import Derived.Deep.LoopGhost
set_option maxRecDepth 1000000
set_option maxHeartbeats 16000000
set_option linter.all false
namespace Go.Proofs.YtnbmfaihlefgfaaGreatDoor
open Go Go.RowKit Go.Proofs.YtnbmfaihlefgfaaGreatDoor.Flow
attribute [local go_sem] Oper.semAt_some
theorem Zi {w:World}{b:Nat}{v:Value}{t:TypeId}(h:w.heap[b]? = some (.cells #[v] t (0,0))):w.cell? ⟨b,0,none⟩=some v:=by simp[World.cell?,h]
theorem drop_step {As:List Nat}{n k A:Nat}(_:As.length=n)(hk:k<n)(hA:As[n-1-k]? = some A):As.drop (n-(k+1))=A::As.drop (n-k):=by
 obtain⟨h1,h2⟩:=List.getElem?_eq_some_iff.1 hA;rw[show n-(k+1)=n-1-k by omega,List.drop_eq_getElem_cons h1,h2,show n-1-k+1=n-k by omega]
theorem Xa (w:World){e ex n c O X gp gt:Nat}{pp pt v u:Value}{hp ht:Nat->Nat->Nat}{p:Option Addr}{As:List Nat}(egp:∀args w,(callFunc gp args).run Tryz.prog w=.ok (.enter gp args) w)(egt:∀args w,(callFunc gt args).run Tryz.prog w=.ok (.enter gt args) w)(hP:nW gp pp w hp)(hT:nW gt pt w ht)(hA:Bd w e p n c As)(hX:Fit ex X v w)(hO:Fit 33 O u w)(he:e<=200)(hex:ex<=200)(hn:n<=1000000) :
  CallsIn Fence.wide 10 Tryz.prog 102 #[.slice p n c,v,u,.func (.func gp) #[pp] #[],.func (.func gt) #[pt] #[]] w fun en w'=>∃x,en=.returned x/\Fit 33 (Ip hp ht X O As) x w'/\Below w.heap.size w w':=by
 obtain⟨px,nx,cx,rfl,x1,x2⟩:=Au hX;obtain⟨po,no,co,rfl,o1,o2⟩:=Au hO;obtain⟨us,b,off,hu,hr⟩:=Xt hA;have HLA:=Aa hA.len;have HTR:=Aa hu;have HRO:=Aa hr;have HPp:=Aa hP;have HT:=Aa hT;have HFX:=Aa (Fit.of x1 x2);have HFO:=Aa (Fit.of o1 o2);obtain⟨W1,hW1⟩:∃W,w.alloc (.cells #[.slice px nx cx] 36)=W:=⟨_,rfl⟩
 obtain⟨W2,hW2⟩:∃W,W1.alloc (.cells #[.slice po no co] 36)=W:=⟨_,rfl⟩
 obtain⟨W3,hW3⟩:∃W,W2.alloc (.cells #[.func (.func gp) #[pp] #[]] 185)=W:=⟨_,rfl⟩
 obtain⟨W4,hW4⟩:∃W,W3.alloc (.cells #[.func (.func gt) #[pt] #[]] 185)=W:=⟨_,rfl⟩
 obtain⟨W5,hW5⟩:∃W,W4.alloc (.cells #[.slice none 0 0] 36)=W:=⟨_,rfl⟩
 obtain⟨W6,hW6⟩:∃W,W5.alloc (.cells #[.slice po no co] 36)=W:=⟨_,rfl⟩
 clear hA hu hr hP hT hX hO x1 o1;refine callsIn_of_wp_marks Tryz.func102 rfl trivial ?_ rfl;simp only[Tryz.ntmps102,List.size_toArray,List.length_cons,List.length_nil,Nat.reduceAdd,Nat.reduceSub,Array.replicate_succ,Array.replicate_zero,List.push_toArray,List.append_toArray,List.nil_append,List.cons_append];have a1:Below w.heap.size w W1:=by rw[<-hW1];exact(Bg _ _).alloc (Av _) _
 have a2:Below W1.heap.size W1 W2:=by rw[<-hW2];exact(Bg _ _).alloc (Av _) _
 have a3:Below W2.heap.size W2 W3:=by rw[<-hW3];exact(Bg _ _).alloc (Av _) _
 have a4:Below W3.heap.size W3 W4:=by rw[<-hW4];exact(Bg _ _).alloc (Av _) _
 have a5:Below W4.heap.size W4 W5:=by rw[<-hW5];exact(Bg _ _).alloc (Av _) _
 have a6:Below W5.heap.size W5 W6:=by rw[<-hW6];exact(Bg _ _).alloc (Av _) _
 have s1:W1.heap.size=w.heap.size+1:=by rw[<-hW1];simp
 have s2:W2.heap.size=W1.heap.size+1:=by rw[<-hW2];simp
 have s3:W3.heap.size=W2.heap.size+1:=by rw[<-hW3];simp
 have s4:W4.heap.size=W3.heap.size+1:=by rw[<-hW4];simp
 have s5:W5.heap.size=W4.heap.size+1:=by rw[<-hW5];simp
 have s6:W6.heap.size=W5.heap.size+1:=by rw[<-hW6];simp
 have m1:W2.heap[W1.heap.size]? = some (.cells #[.slice po no co] 36 (0,0)):=by rw[<-hW2];exact heap_alloc_new _ _
 have k1:W5.cell? ⟨W1.heap.size,0,none⟩=some (.slice po no co):=by
  rw[(Ae a3 (Ae a4 a5)).cell (p:=⟨W1.heap.size,0,none⟩) (by simp only;omega)];exact Af.cell m1
 obtain⟨W7,hW7⟩:∃W,W6.alloc (.cells #[.slice p n c] 32)=W:=⟨_,rfl⟩
 have a7:Below W6.heap.size W6 W7:=by rw[<-hW7];exact(Bg _ _).alloc (Av _) _
 have s7:W7.heap.size=W6.heap.size+1:=by rw[<-hW7];simp
 have t6:=a7;have t5:=Ae a6 t6;have t4:=Ae a5 t5;have t3:=Ae a4 t4;have t2:=Ae a3 t3;have t1:=Ae a2 t2;have t0:=Ae a1 t1;have m0:Af W7 w.heap.size (.slice px nx cx):=Af.below (w:=W1) (by rw[<-hW1];exact Af.made _ _) t1 (by omega);have m2:W7.heap[W2.heap.size]? = some (.cells #[.func (.func gp) #[pp] #[]] 185 (0,0)):=by rw[t3.block _ (by omega),<-hW3];exact heap_alloc_new _ _
 have m3:W7.heap[W3.heap.size]? = some (.cells #[.func (.func gt) #[pt] #[]] 185 (0,0)):=by rw[t4.block _ (by omega),<-hW4];exact heap_alloc_new _ _
 have m4:Af W7 W4.heap.size (.slice none 0 0):=Af.below (w:=W5) (by rw[<-hW5];exact Af.made _ _) t5 (by omega);have m5:Af W7 W5.heap.size (.slice po no co):=Af.below (w:=W6) (by rw[<-hW6];exact Af.made _ _) t6 (by omega);have m6:W7.heap[W6.heap.size]? = some (.cells #[.slice p n c] 32 (0,0)):=by rw[<-hW7];exact heap_alloc_new _ _
 have HST:Ac (Sm w W2.heap.size W3.heap.size W4.heap.size W5.heap.size W6.heap.size gp gt pp pt (.slice px nx cx) (.slice p n c) (Ip hp ht X O (As.drop (n-0))) W7/\Ip hp ht X O (As.drop (n-0))<Ao 33):=⟨by
  have e0:As.drop (n-0)=[]:=List.drop_eq_nil_of_le (by rw[<-HLA.out];exact Av _);rw[e0];exact⟨⟨m0,m2,m3,m4,⟨po,no,co,m5,(Jp HFO.out).below t0⟩,m6,t0⟩,o2⟩⟩
 have HLO:Ac (w.heap.size<W2.heap.size/\W2.heap.size<W3.heap.size/\W3.heap.size<W4.heap.size/\W4.heap.size<W5.heap.size/\W5.heap.size<W6.heap.size/\W7.heap.size=W6.heap.size+1):=⟨⟨by omega,by omega,by omega,by omega,by omega,s7⟩⟩
 have HC6:Ac (W7.cell? ⟨W6.heap.size,0,none⟩=some (.slice p n c)):=⟨by simp[World.cell?,m6]⟩
 clear a1 a2 a3 a4 a5 a6 a7 s1 s2 s3 s4 s5 s6 s7 t1 t2 t3 t4 t5 t6 m0 m1 m2 m3 m4 m5 m6;have HB7:=Aa t0;clear t0
 gi_wp2_with fail
 refine⟨trivial,(callsIn_wide.2 (Si _ p n c)).mono ?_⟩;rintro en W7' ⟨rfl,rfl⟩
 gi_wp2_with fail
 clear hW1 hW2 hW3 hW4 hW5 hW6 hW7 k1;obtain⟨b1,hb1⟩:∃b,W1.heap.size=b:=⟨_,rfl⟩
 obtain⟨b2,hb2⟩:∃b,W2.heap.size=b:=⟨_,rfl⟩
 obtain⟨b3,hb3⟩:∃b,W3.heap.size=b:=⟨_,rfl⟩
 obtain⟨b4,hb4⟩:∃b,W4.heap.size=b:=⟨_,rfl⟩
 obtain⟨b5,hb5⟩:∃b,W5.heap.size=b:=⟨_,rfl⟩
 obtain⟨b6,hb6⟩:∃b,W6.heap.size=b:=⟨_,rfl⟩
 rw[hb2,hb3,hb4,hb5,hb6]at HST HLO
 rw[hb6]at HC6
 simp only[hb1,hb2,hb3,hb4,hb5,hb6];clear hb1 hb2 hb3 hb4 hb5 hb6;refine Kd rfl (by decide) (gf := 208) (lb:=#[.pointer (some ⟨b6,0,none⟩)]) rfl trivial (enters_of Tryz.func208 (by kernel_rfl) rfl)
  (N:=n) (Kp:=Mid (fun j=>j<w.heap.size ∨ j=b6)) (Gd:=fun k vs _=>∃x,us[n-1-k]? = some x/\vs=#[.int .i64 ((n-1-k:Nat):Int),.agg #[sv x]]) (by rintro k vs W ⟨x,_,rfl⟩;rfl)
  (fun W8 hs8 hb8=>Qi (10-1) (W7.heap.size+2) (W7.heap.size+1) b6 b off n c p us w W8 HRO.out hn _ (HB7.out.trans (hb8.mono HB7.out.size))
   ((hb8.cell (p:=⟨b6,0,none⟩) (by have:=HLO.out;simp only;omega)).trans HC6.out) (fun A C h hA=>⟨h.below hA (fun j hj=>.inl hj),fun u hu=>h.cell (a:=⟨b6,0,none⟩) (.inr rfl) hu⟩))
  (fun h k=>h.trans k) (fun W8 o=>Mid.putObj _ _ _ (by have:=HLO.out;omega))
  (fun k W=>Sm w b2 b3 b4 b5 b6 gp gt pp pt (.slice px nx cx) (.slice p n c) (Ip hp ht X O (As.drop (n-k))) W/\Ip hp ht X O (As.drop (n-k))<Ao 33) (OwnFrom.and (Sm.own (N:=fun k=>Ip hp ht X O (As.drop (n-k))) (by have:=HLO.out;omega)) (ownFrom_pure _ (fun k=>Ip hp ht X O (As.drop (n-k))<Ao 33))) HST.out
  (fun k a' W=>∃(bv:Nat) (x:Option Addr×Nat×Nat),us[n-1-k]? = some x/\a'={ defers:=[],tmps:=#[.slice p n c,.agg #[.slice px nx cx],.agg #[.slice po no co],.func (.func gp) #[pp] #[],.func (.func gt) #[pt] #[],undef,.pointer (some ⟨w.heap.size,0,none⟩),.pointer (some ⟨b1,0,none⟩),.pointer (some ⟨b2,0,none⟩),.pointer (some ⟨b3,0,none⟩),.pointer (some ⟨b4,0,none⟩),.pointer (some ⟨b5,0,none⟩),undef,.pointer (some ⟨bv,0,none⟩),.agg #[.slice po no co],.slice p n c,
    .func (.func 208) #[] #[.pointer (some ⟨b6,0,none⟩)],.int .i64 ((n-1-k:Nat):Int),.agg #[.slice x.1 x.2.1 x.2.2],undef,undef,undef,undef,undef,undef,undef,undef] }/\Af W bv (sv x)/\b6<bv/\Sm w b2 b3 b4 b5 b6 gp gt pp pt (.slice px nx cx) (.slice p n c) (Ip hp ht X O (As.drop (n-k))) W/\Ip hp ht X O (As.drop (n-k))<Ao 33)
  ?ax ?assign ?body ?done
 case ax=>
  rintro k a' _ X1 Y row ⟨bv,x,hx,e,h1,h1b,h2,h3⟩ hg hr;exact⟨bv,x,hx,e,Ew hg (fun j e=>(hr j e).2) h1,h1b,Sm.own (N:=fun k=>Ip hp ht X O (As.drop (n-k))) (D:=W7.heap.size) HB7.out.size k X1 Y row h2 hg hr,h3⟩
 case assign=>
  rintro l2 k v W8 K hk hi ⟨x,hx,rfl⟩ hK;obtain⟨q,m,d⟩:=x;have hbw:Below W8.heap.size W8 (W8.alloc (.cells #[.slice q m d] 36)):=Cy;have HK:=Aa hK;have HI:=Aa hi;have HX:=Aa hx;clear hK hi hx;unfold sv
  gi_wp2
  exact HK.out _ _ ((KeepsOthers.alloc _ _).from _) (Mid.of hbw) ⟨_,(q,m,d),HX.out,rfl,Af.made W8 _,(Jb HI.out.1.c6).1,HI.out.1.stable hbw,HI.out.2⟩
 case body=>
  rintro l2 k a' Wb hk ⟨bv,x,hx,rfl,hxn,hbv,hst,hlim⟩;obtain⟨A,hA,ha2,ha3⟩:=HTR.out.get hx;obtain⟨pq,nq,cq,hqb,hqn⟩:=hst.c5;obtain⟨NN,hNN⟩:∃N,Ip hp ht X O (As.drop (n-k))=N:=⟨_,rfl⟩
  rw[hNN]at hqn hlim
  obtain⟨Z,hZ⟩:∃Z,hp (ht NN X) A=Z:=⟨_,rfl⟩
  have HZ:=Aa hZ;have HSN:Ac (Ip hp ht X O (As.drop (n-(k+1)))=Z):=⟨by
   rw[drop_step HLA.out.symm hk hA,<-hZ,<-hNN];rfl⟩
  have HST1:=Aa hst;have HFO1:=Aa (Fit.of hqn hlim);have HFX1:=Aa (HFX.out.below hst.bel);have HFA1:=Aa ((Fit.of ha2 ha3).below hst.bel);have HOB:=Aa hqb;have HXN:Ac (Af Wb bv (.slice x.1 x.2.1 x.2.2)):=⟨hxn⟩
  have HL5:Ac (w.heap.size<=b5):=⟨by have:=HLO.out;omega⟩
  have HNE:Ac (∀y∈([(bv,.cells #[.slice x.1 x.2.1 x.2.2] 36 (0,0)),(w.heap.size,.cells #[.slice px nx cx] 36 (0,0)),(b2,.cells #[.func (.func gp) #[pp] #[]] 185 (0,0)),(b3,.cells #[.func (.func gt) #[pt] #[]] 185 (0,0)),(b4,.cells #[.slice none 0 0] 36 (0,0)),(b6,.cells #[.slice p n c] 32 (0,0))]:List (Nat×Obj)),y.1≠b5):=⟨by
   have h1:=HLO.out;intro y hy;simp only[List.mem_cons,List.not_mem_nil,or_false]at hy;rcases hy with rfl|rfl|rfl|rfl|rfl|rfl<;>simp only<;>omega⟩
  have HLL:Ac (∀y∈([(bv,.cells #[.slice x.1 x.2.1 x.2.2] 36 (0,0)),(w.heap.size,.cells #[.slice px nx cx] 36 (0,0)),(b2,.cells #[.func (.func gp) #[pp] #[]] 185 (0,0)),(b3,.cells #[.func (.func gt) #[pt] #[]] 185 (0,0)),(b4,.cells #[.slice none 0 0] 36 (0,0)),(b6,.cells #[.slice p n c] 32 (0,0))]:List (Nat×Obj)),Wb.heap[y.1]? = some y.2):=⟨by
   intro y hy;simp only[List.mem_cons,List.not_mem_nil,or_false]at hy;rcases hy with rfl|rfl|rfl|rfl|rfl|rfl
   .exact HXN.out
   .exact HST1.out.c0
   .exact HST1.out.c2
   .exact HST1.out.c3
   .exact HST1.out.c4
   .exact HST1.out.c6⟩
  clear hx hxn hst hlim hA ha2 hqb hqn hNN hZ
  gi_wp2_with fail
  refine Mb (Fe:=Fence.wide.inRound l2) (by kernel_rfl) (by kernel_rfl) (by kernel_rfl) (fun _=>trivial) rfl
   [some (.func (.func gp) #[pp] #[]),some (.func (.func gt) #[pt] #[]),some (.agg #[.slice pq nq cq]),some (.agg #[.slice px nx cx]),none,some (.agg #[.slice x.1 x.2.1 x.2.2]),none,none]
   [false,false,false,false,true,false,true,true] rfl
   (fun wA wB=>An (w.heap.size) wA wB)
   (fun D sp w'=>RB (b5) (w.heap.size) Wb [(bv,.cells #[.slice x.1 x.2.1 x.2.2] 36 (0,0)),(w.heap.size,.cells #[.slice px nx cx] 36 (0,0)),(b2,.cells #[.func (.func gp) #[pp] #[]] 185 (0,0)),(b3,.cells #[.func (.func gt) #[pt] #[]] 185 (0,0)),(b4,.cells #[.slice none 0 0] 36 (0,0)),(b6,.cells #[.slice p n c] 32 (0,0))] w'/\mS (D 7) (b5) pq nq cq (Z) w')
   (fun i v w'=>match i with
    | 4=>Fit 33 (ht NN X) v w'
    | 6=>Fit 33 Z v w'
    | _=>True)
   ?_ ⟨RB.start HST1.out.bel.size HLL.out,⟨fun _=>HOB.out,fun e=>by cases e⟩⟩ ?_ ?_
  .intro i v wA wB hf hb;split at hf
   .exact hf.keep hb
   .exact hf.keep hb
   .trivial
  .simp only[Gf,Nat.reduceAdd];refine⟨?_,?_,?_,?_,?_,?_,?_,?_,trivial⟩
   all_goals intro D sp w' hD hW hdp hg
   case refine_1=>
    (with_reducible refine Ca ?_)
    have c0:w'.cell? ⟨b2,0,none⟩=some (.func (.func gp) #[pp] #[]):=Zi (hg.1.of (List.mem_cons_of_mem _ (List.mem_cons_of_mem _ List.mem_cons_self)))
    with_reducible refine Ad ?_ ?_
    all_goals simp[Region.wanted,yielded,execOp,Act.eval,Act.put,go_sem,c0]
   case refine_2=>
    (with_reducible refine Ca ?_)
    have c0:w'.cell? ⟨b3,0,none⟩=some (.func (.func gt) #[pt] #[]):=Zi (hg.1.of (List.mem_cons_of_mem _ (List.mem_cons_of_mem _ (List.mem_cons_of_mem _ List.mem_cons_self))))
    with_reducible refine Ad ?_ ?_
    all_goals simp[Region.wanted,yielded,execOp,Act.eval,Act.put,go_sem,c0]
   case refine_3=>
    (with_reducible refine Ca ?_)
    have c0:=(hg.2.z (hW 7 (mq (by kernel_rfl)))).cell
    with_reducible refine Ad ?_ ?_
    all_goals simp[Region.wanted,yielded,execOp,Act.eval,Act.put,go_sem,c0]
   case refine_4=>
    (with_reducible refine Ca ?_)
    have c0:w'.cell? ⟨w.heap.size,0,none⟩=some (.slice px nx cx):=Af.cell (hg.1.of (List.mem_cons_of_mem _ List.mem_cons_self))
    with_reducible refine Ad ?_ ?_
    all_goals simp[Region.wanted,yielded,execOp,Act.eval,Act.put,go_sem,c0]
   case refine_5=>
    (with_reducible refine Ca ?_)
    (with_reducible refine Ab (w1:=w') (f:=gt) (args:=#[pt,.agg #[.slice pq nq cq],.agg #[.slice px nx cx]]) ?_ ?_ ?_)
    .simp[Region.wanted,yielded,Act.put,go_sem]
    .simp[Act.eval,Act.put,go_sem,egt]
    .refine(HT.out.out w' 33 ex _ _ _ _ (HST1.out.bel.trans hg.1.keep.bel) (by decide) hex (HFO1.out.keep hg.1.keep) (HFX1.out.keep hg.1.keep)).mono ?_;rintro en w9 ⟨u,rfl,hu,hb⟩;exact⟨u,rfl,An.of hb hg.1.base,hu,hg.1.later hb,by simpa [upd]using hg.2.later hb⟩
   case refine_6=>
    (with_reducible refine Ca ?_)
    have c0:w'.cell? ⟨bv,0,none⟩=some (.slice x.1 x.2.1 x.2.2):=Af.cell (hg.1.of List.mem_cons_self)
    with_reducible refine Ad ?_ ?_
    all_goals simp[Region.wanted,yielded,execOp,Act.eval,Act.put,go_sem,c0]
   case refine_7=>
    (with_reducible refine Ca ?_)
    have k4:Fit 33 (ht NN X) (sp 4) w':=(hdp 4 (mq (by kernel_rfl))).2
    (with_reducible refine Ab (w1:=w') (f:=gp) (args:=#[pp,sp 4,.agg #[.slice x.1 x.2.1 x.2.2]]) ?_ ?_ ?_)
    .simp[Region.wanted,yielded,Act.put,go_sem]
    .simp[Act.eval,Act.put,go_sem,egp]
    .refine(HPp.out.out w' 33 e _ _ _ _ (HST1.out.bel.trans hg.1.keep.bel) (by decide) he k4 (HFA1.out.keep hg.1.keep)).mono ?_;rintro en w9 ⟨u,rfl,hu,hb⟩;rw[HZ.out]at hu
     exact⟨u,rfl,An.of hb hg.1.base,hu,hg.1.later hb,by simpa [upd]using hg.2.later hb⟩
   case refine_8=>
    (with_reducible refine Ca ?_)
    have hx:∃p n c,sp 6=.agg #[.slice p n c]/\Ah w' p n c (Z)/\Z<Ao (33):=(hdp 6 (mq (by kernel_rfl))).2
    (with_reducible refine Az hx fun p hx1=>Az hx1 fun n hx2=>Az hx2 fun c hx3=>?_)
    have h1:=hx3.1;rw[hD]at hg
    have hp:=hg.2.put (hx3.2.1)
    (with_reducible refine Az hp fun q hy1=>Az hy1 fun m hy2=>Az hy2 fun k hy3=>?_)
    have h6:=hy3.1.cell;have h7:=hy3.1.free
    (with_reducible refine Ar (w1:=w'.setCell ⟨b5,0,none⟩ (.slice p n c)) ?_ ?_ ?_)
    .simp[Region.wanted,yielded,Act.put,go_sem]
    .simp[execOp,Act.eval,Act.put,go_sem,h1,h6,h7]
    .refine⟨An.store hy3.1 HL5.out _,trivial,hg.1.store hy3.1 HL5.out HNE.out _,?_⟩;have h8:=hy3.2;simpa [upd]using h8
  .intro sp w7 hsp hg;obtain⟨hg1,hg2⟩:=hg;obtain⟨pz,nz,cz,hz1,hz2⟩:=hg2.o rfl;have hl6:Fit 33 Z (sp 6) w7:=hsp 6 rfl;have f0:=hg1.of (List.mem_cons_of_mem _ List.mem_cons_self);have f2:=hg1.of (List.mem_cons_of_mem _ (List.mem_cons_of_mem _ List.mem_cons_self));have f3:=hg1.of (List.mem_cons_of_mem _ (List.mem_cons_of_mem _ (List.mem_cons_of_mem _ List.mem_cons_self)));have f4:=hg1.of (List.mem_cons_of_mem _ (List.mem_cons_of_mem _ (List.mem_cons_of_mem _ (List.mem_cons_of_mem _ List.mem_cons_self))));have f6:=hg1.of (List.mem_cons_of_mem _ (List.mem_cons_of_mem _ (List.mem_cons_of_mem _ (List.mem_cons_of_mem _ (List.mem_cons_of_mem _ List.mem_cons_self)))));have HPo:Ac (Sm w b2 b3 b4 b5 b6 gp gt pp pt (.slice px nx cx) (.slice p n c) (Ip hp ht X O (As.drop (n-(k+1)))) w7/\Ip hp ht X O (As.drop (n-(k+1)))<Ao 33):=⟨by
    rw[HSN.out];exact⟨⟨f0,f2,f3,f4,⟨pz,nz,cz,hz1,hz2⟩,f6,HST1.out.bel.trans hg1.keep.bel⟩,hl6.lim⟩⟩
   have HKF:Ac (KeepsFrom W7.heap.size Wb w7):=⟨hg1.but.keepsFrom HOB.out⟩
   have HMD:Ac (Mid (fun j=>j<w.heap.size ∨ j=b6) Wb w7):=⟨hg1.but.mid (by have:=HLO.out;show ¬(b5<w.heap.size ∨ b5=b6);omega)⟩
   clear hsp hg1 hg2 hz1 hz2 hl6 f0 f2 f3 f4 f6;simp only[Am];generalize sp 4=y4,sp 6=y6,sp 7=y7 at *
   go_simp
   gi_wp2
   exact⟨HKF.out,HMD.out,HPo.out⟩
 case done=>
  rintro D W8 hD hi hK;obtain⟨pz,nz,cz,hz1,hz2⟩:=hi.1.c5;have c5:=hz1.cell;have h4:=hi.1.c4;have c4:=h4.cell;have f4:=h4.free;have hval:As.drop (n-n)=As:=by rw[Nat.sub_self];rfl
  rw[hval]at hz2
  have hlm:=hi.2;rw[hval]at hlm
  have HF:Ac (Fit 33 (Ip hp ht X O As) (.agg #[.slice pz nz cz]) (W8.setCell ⟨b4,0,none⟩ (.slice pz nz cz))):=⟨Fit.of (hz2.store h4 _) hlm⟩
  have hDb:D≠b4:=by have:=HLO.out;have:=(Jb hK).1;omega
  have HK9:Ac ((W8.setCell ⟨b4,0,none⟩ (.slice pz nz cz)).heap[D]? = some (.deferred (some []))):=⟨by rw[heap_setCell_other W8 ⟨b4,0,none⟩ D _ hDb];exact hK⟩
  have HB9:Ac (Below w.heap.size w (W8.setCell ⟨b4,0,none⟩ (.slice pz nz cz))):=⟨hi.1.bel.setCell (by have:=HLO.out;show w.heap.size<=b4;omega) _⟩
  have hcz:(W8.setCell ⟨b4,0,none⟩ (.slice pz nz cz)).cell? ⟨b4,0,none⟩=some (.slice pz nz cz):=(h4.set _).cell;have HWD:Ac (w.heap.size<=D):=⟨by have:=HB7.out.size;omega⟩
  have HCZ:=Aa hcz;clear hz1 hz2 h4 hi hK hval hlm hDb hcz
  gi_wp2
  refine⟨by simp,.inl ⟨_,_,rfl,run_takeDeferred HK9.out,?_⟩⟩;have hgr:=grownBy_putObj' (W8.setCell ⟨b4,0,none⟩ (.slice pz nz cz)) D (.deferred none);have hcal:Calm (W8.setCell ⟨b4,0,none⟩ (.slice pz nz cz)) (some D):=fun j e=>by cases e;exact⟨_,HK9.out,rfl⟩
  have hc9:=cell_kept HCZ.out hgr hcal;refine⟨.agg #[.slice pz nz cz],?_,_,rfl,HF.out.kept hgr hcal,HB9.out.grown hgr HB9.out.size (fun j e=>by cases e;exact HWD.out)⟩;simp[results,Tryz.f102,go_sem,hc9]
theorem jF {w:World}{r q e ex n c X:Nat}{p:Option Addr}{As:List Nat}{v:Value}(hR:Ring w r q 33)(hA:Bd w e p n c As)(hX:Fit ex X v w)(he:e<=200)(hex:ex<=200)(hn:n<=1000000) :
  Calls Tryz.prog 33 #[.pointer (some ⟨r,0,none⟩),.slice p n c,v] w fun en w'=>∃x,en=.returned x/\Fit 33 (Gl q X As) x w'/\Below w.heap.size w w':=by
 obtain⟨px,nx,cx,rfl,x1,x2⟩:=Au hX;have hbx:=fW.mk2 w (.slice px nx cx) (.slice none 0 0);have HR:=Aa (hR.below hbx.bel);have HA:=Aa (hA.below hbx.bel);have HX:=Aa ((Fit.of x1 x2).below hbx.bel);have HBX:=Aa hbx;have c0:=hbx.b0.cell;clear hR hA hX x1 hbx;go_enter Tryz.func33,Tryz.ntmps33
 go_wp2_with fail
 refine(Ed HR.out HX.out (by omega)).mono ?_;rintro en w1 ⟨_,rfl,⟨p1,n1,c1,rfl,h1,l1⟩,hb1⟩;have HF1:=Aa (Fit.of h1 l1);have HB1:=Aa hb1;clear h1 hb1 c0
 go_wp2_with fail
 refine(Cd (n:=0) w1 (by omega)).mono ?_;rintro en w2 ⟨_,rfl,⟨p2,n2,c2,rfl,h2,l2⟩,hb2⟩;have hb12:=Ae HB1.out hb2;have HV:=Aa (callsIn_wide.1 (Xa w2 (enters_of Tryz.func47 (by kernel_rfl) rfl) (enters_of Tryz.func48 (by kernel_rfl) rfl) (nG (HR.out.below hb12)) (nF (HR.out.below hb12)) (HA.out.below hb12) (HF1.out.below hb2) ((Fit.of h2 l2).wide (by decide:2<=33)) he (by decide) hn));have HX2:=Aa (HBX.out.later hb12);clear h2 hb2 hb12 HB1 HBX HR HA HF1
 go_wp2_with fail
 refine HV.out.mono ?_;rintro en w3 ⟨_,rfl,⟨p3,n3,c3,rfl,h3,l3⟩,hb3⟩;rw[Xb,Rv]at h3 l3
 have hx3:=HX2.out.later hb3;have k1:=hx3.b1.cell;have f1:=hx3.b1.free;have HF:=Aa (Fit.of (h3.store hx3.b1 (.slice p3 n3 c3)) l3);have HBF:Ac (Below w.heap.size w (w3.setCell ⟨w.heap.size+1,0,none⟩ (.slice p3 n3 c3))):=⟨hx3.bel.setCell (by simp) _⟩
 clear h3 hx3 hb3 HV HX2;go_wp2;exact bodyPost_ret (v:=.agg #[.slice p3 n3 c3]) (by simp[results,Tryz.results33,go_sem,k1]) rfl ⟨_,rfl,HF.out,HBF.out⟩
theorem Yv {w:World}{b P Q G H e ex n c X:Nat}{p:Option Addr}{As:List Nat}{v:Value}(hG:Bb w b P Q G H)(hA:Bd w e p n c As)(hX:Fit ex X v w)(he:e<=200)(hex:ex<=200)(hn:n<=1000000) :
  Calls Tryz.prog 133 #[.pointer (some ⟨b,0,none⟩),.slice p n c,v] w fun en w'=>∃x,en=.returned x/\Fit 33 (Gm P (X%Q) As) x w'/\Below w.heap.size w w':=by
 obtain⟨px,nx,cx,rfl,x1,x2⟩:=Au hX;have hbx:=fW.mk2 w (.slice px nx cx) (.slice none 0 0);have HG:=Aa (hG.below hbx.bel);have HA:=Aa (hA.below hbx.bel);have HX:=Aa ((Fit.of x1 x2).below hbx.bel);have HBX:=Aa hbx;clear hG hA hX x1 hbx;go_enter Tryz.func133,Tryz.ntmps133
 go_wp2_with fail
 refine(Hk HG.out).mono ?_;rintro en w0 ⟨r,rfl,hr0,hb0⟩;have HR:=Aa hr0;have HB0:=Aa hb0;have c0:=(HBX.out.later hb0).b0.cell;clear hr0 hb0
 go_wp2_with fail
 refine(Ed HR.out (HX.out.below HB0.out) (by omega)).mono ?_;rintro en w1 ⟨_,rfl,⟨p1,n1,c1,rfl,h1,l1⟩,hb1⟩;have HF1:=Aa (Fit.of h1 l1);have HB1:=Aa (Ae HB0.out hb1);clear h1 hb1 c0
 go_wp2_with fail
 refine(Cd (n:=1) w1 (by omega)).mono ?_;rintro en w2 ⟨_,rfl,⟨p2,n2,c2,rfl,h2,l2⟩,hb2⟩;have hb12:=Ae HB1.out hb2;have HV:=Aa (callsIn_wide.1 (Xa w2 (enters_of Tryz.func89 (by kernel_rfl) rfl) (enters_of Tryz.func42 (by kernel_rfl) rfl) (lJ (HG.out.below hb12)) (lK (HG.out.below hb12)) (HA.out.below hb12) (HF1.out.below hb2) ((Fit.of h2 l2).wide (by decide:2<=33)) he (by decide) hn));have HX2:=Aa (HBX.out.later hb12);clear h2 hb2 hb12 HB1 HBX HR HA HF1 HB0
 go_wp2_with fail
 refine HV.out.mono ?_;rintro en w3 ⟨_,rfl,⟨p3,n3,c3,rfl,h3,l3⟩,hb3⟩;rw[Tl]at h3 l3
 have hx3:=HX2.out.later hb3;have k1:=hx3.b1.cell;have f1:=hx3.b1.free;have HF:=Aa (Fit.of (h3.store hx3.b1 (.slice p3 n3 c3)) l3);have HBF:Ac (Below w.heap.size w (w3.setCell ⟨w.heap.size+1,0,none⟩ (.slice p3 n3 c3))):=⟨hx3.bel.setCell (by simp) _⟩
 clear h3 hx3 hb3 HV HX2;go_wp2;exact bodyPost_ret (v:=.agg #[.slice p3 n3 c3]) (by simp[results,Tryz.results133,go_sem,k1]) rfl ⟨_,rfl,HF.out,HBF.out⟩
structure KN (B:Nat) (w w':World):Prop where
 k:An B w w'
 blk:∀(g:Nat) (o:Obj),w.heap[g]? = some o->(∀q m d,o≠.cells #[.slice q m d] 36 (0,0))->w'.heap[g]? = some o
theorem KN.of {B:Nat}{w w':World}(h:Below w.heap.size w w')(hB:B<=w.heap.size):KN B w w':=⟨An.of h hB,fun g o ho _=>by rw[h.block g (Jb ho).1];exact ho⟩
theorem KN.same (B:Nat)(w:World):KN B w w:=⟨An.same _ _,fun _ _ h _=>h⟩
theorem KN.store {B b m d:Nat}{q:Option Addr}{w:World}(hb:Af w b (.slice q m d))(hB:B<=b)(v:Value):KN B w (w.setCell ⟨b,0,none⟩ v):=⟨An.store hb hB v,fun g o ho hn=>by
 have hne:g≠b:=fun e=>by
  subst e;unfold Af at hb;rw[hb]at ho
  cases ho;exact hn _ _ _ rfl
 simp[World.setCell,Array.getElem?_modify,hne.symm];exact ho⟩
theorem Fit.kn {e N B:Nat}{v:Value}{w w':World}(h:Fit e N v w)(k:KN B w w'):Fit e N v w':=h.keep k.k
theorem Gp.kn {e N B:Nat}{t v:Value}{w w':World}(h:Gp e N t v w)(k:KN B w w'):Gp e N t v w':=h.keep k.k
def RQ (Q:Nat)(v:Value)(w:World):Prop:=(∃r,v=.pointer (some ⟨r,0,none⟩)/\Ring w r Q 33) ∨ (v=.pointer none/\Q=0)
theorem nK (i:Nat)(hi:i<3):gP i<Ao 3/\gQ i<Ao 3/\gG i<Ao 3:=by
 have h:=El i hi;have h1:gP i<Ao 3:=Dq h.2.2.2.2.2 (by decide);have h2:=Uk i hi;refine⟨h1,?_,by omega⟩;rcases Nat.eq_zero_or_pos (Mp i) with h0|h0
 .rw[h0,Nat.mul_zero]at h2;omega
 .have:=Nat.le_mul_of_pos_right (gQ i) h0;omega
theorem bS:∀i,i<3->(Ei i).length<=60
 | 0,_=>by decide
 | 1,_=>by decide
 | 2,_=>by decide
 | _+3,h=>by omega
def Zz (N M:Nat)(v:Value)(w:World):Prop:=∃(g:Nat) (x y:Option Addr×Nat×Nat),v=.slice (some ⟨g,0,none⟩) 2 2/\w.heap[g]? = some (.cells #[.slice x.1 x.2.1 x.2.2,.slice y.1 y.2.1 y.2.2] 36 (0,0))/\Ht w x N/\Ht w y M/\N<Ao 33/\M<Ao 33
theorem Zz.kn {N M B:Nat}{v:Value}{w w':World}(h:Zz N M v w)(k:KN B w w'):Zz N M v w' :=
 let ⟨g,x,y,h1,h2,h3,h4,h5,h6⟩:=h
 ⟨g,x,y,h1,k.blk _ _ h2 (fun _ _ _=>by simp),k.k.nat _ _ _ _ h3,k.k.nat _ _ _ _ h4,h5,h6⟩
theorem Zz.plist {N M g:Nat}{x y:Option Addr×Nat×Nat}{w:World}(h2:w.heap[g]? = some (.cells #[.slice x.1 x.2.1 x.2.2,.slice y.1 y.2.1 y.2.2] 36 (0,0)))(h3:Ht w x N)(h4:Ht w y M)(h5:N<Ao 33)(h6:M<Ao 33):Bd w 33 (some ⟨g,0,none⟩) 2 2 [N,M]:=by
 refine⟨rfl,Av _,by decide,(fun e=>by cases e),fun _=>⟨g,0,rfl,(Jb h2).1,fun i K hK=>?_⟩⟩
 match i,hK with
 | 0,hK=>cases hK;exact⟨x.1,x.2.1,x.2.2,by simp[World.cell?,h2],h3,h5⟩
 | 1,hK=>cases hK;exact⟨y.1,y.2.1,y.2.2,by simp[World.cell?,h2],h4,h6⟩
def cK (n:Nat)(Ns:List Nat)(v:Value)(w:World):Prop:=∃g,v=.slice (some ⟨g,0,none⟩) n n/\Bd w 33 (some ⟨g,0,none⟩) n n Ns
theorem cK.below {n:Nat}{Ns:List Nat}{v:Value}{w w':World}(h:cK n Ns v w)(hb:Below w.heap.size w w'):cK n Ns v w':=let ⟨g,h1,h2⟩:=h;⟨g,h1,h2.below hb⟩
theorem kO {x:Nat}(h:Zx x):x<Ao 2:=by
 unfold Zx at h;exact Dq h (by decide)
theorem Et (w:World)(p:Option Addr)(n c:Nat)(xs:List Nat)(h:Bq w .u64 p n c xs)(h64:∀x∈xs,Zx x)(hn:n<=1000) :
  Calls Tryz.prog 18 #[.slice p n c] w fun e w'=>∃q d,e=.returned (.slice q n d)/\Bd w' 2 q n d xs/\Below w.heap.size w w':=by
 have HX:=Aa h;have H6:=Aa h64;have HLn:=Aa h.len;clear h h64;go_enter Tryz.func18,Tryz.ntmps18;go_wp2
 go_loopw [3,5,8] (fun vv _ iv wr=>∃(k:Nat) (bad:Nat->Prop),k<=n/\iv=.int .i64 k/\Ac (Below w.heap.size w wr)/\Ac (∀g,bad g->g<wr.heap.size)/\Ac (Ek Ah 36 w.heap.size bad wr vv (xs.take k))/\Ac (∀g,vv.ownBlock=some g->bad g)) (fun _ _ iv _=>n-(intOf iv).toNat)
 case atStart=>exact⟨0,fun _=>False,by omega,rfl,⟨Bg _ _⟩,⟨fun _ h=>h.elim⟩,⟨Ek.nil⟩,⟨fun g h=>by cases h⟩⟩
 case round=>
  obtain⟨k,bad,hk,rfl,HB,HLT,HO,HV⟩:=hrel
  by_cases hkn:k<n
  .obtain⟨S,hSk⟩:∃s,xs[k]? = some s:=⟨xs[k]'(by rw[<-HLn.out];exact hkn),List.getElem?_eq_getElem _⟩
   obtain⟨bb,off,rfl,hb,hc⟩:=(HX.out.row (by omega)).pos (by omega);have hx:wr.cell? ⟨bb,off+k,none⟩=some (.int .u64 (S:Nat)):=(HB.out.cell (p:=⟨bb,off+k,none⟩) hb).trans (hc k S hSk);have HTk:Ac (xs.take (k+1)=xs.take k++[S]):=⟨Ez hSk⟩
   have HTl:Ac ((xs.take k).length<=1000000):=⟨by rw[List.length_take];omega⟩
   have HSU:Ac (S<18446744073709551616):=⟨H6.out S (List.mem_of_getElem? hSk)⟩
   have hkn':(k:Int)<n:=by omega
   clear hc hSk hb
   go_wp2_with fail
   refine(Cw S wr HSU.out).mono ?_;rintro en w3 ⟨q,m,d,rfl,hn3,b3,hnew⟩;have hb4:Below w3.heap.size w3 (w3.alloc (.cells #[.slice q m d] 36)):=Cy;have hx4:(w3.alloc (.cells #[.slice q m d] 36)).cell? ⟨w3.heap.size,0,none⟩=some (.slice q m d):=(Af.made w3 (.slice q m d)).cell;obtain⟨w4,hw4⟩:∃w4,w3.alloc (.cells #[.slice q m d] 36)=w4:=⟨_,rfl⟩
   rw[hw4]at hb4 hx4
   have hb34:=Ae b3 hb4;have hB4:=Ae HB.out hb34;have hfirm:Je (fun w=>Ah w q m d S) bad w4:=Fw.fresh (hn3.below hb4) hnew HLT.out;obtain⟨i1,hi1,hz1,hs1,hbb1⟩:=info_parts Tryz.info_Nat;refine(HO.out.below hb34).app2 (x:=(q,m,d)) Tryz.underlying32 hi1 hz1 hs1 hbb1 rfl (by decide) hB4.size hx4 hfirm HV.out (fun g hg=>Dq (HLT.out g hg) hb34.size) HTl.out 32 (c:=1) ?_;intro v9 w9 bad9 happ ho9 hg9 m1 m2 m3 m4;have HO9:=Aa ho9;have HB9:Ac (Below w.heap.size w w9):=⟨hB4.grown hg9 hB4.size fun g hg=>(HO.out.block g hg).1⟩
   have HLT9:=Aa m4;have HV9:=Aa m3;clear hb4 hx4 hb34 hB4 hfirm hi1 hz1 hs1 hbb1 ho9 hg9 m1 m2 m3 m4 b3 hn3 hnew
   go_wp2_with (at_builtin;refine Lib.wpList_append_run _ rfl _ _ _ _ rfl _ _ rfl rfl _ _ happ ?_;refine Sp.out ?_)
   refine⟨?_⟩;clear happ;go_wp2;go_roundw
   case rel=>exact⟨k+1,bad9,by omega,by go_num,HB9,HLT9,⟨by rw[HTk.out];exact HO9.out⟩,HV9⟩
   case measure=>simp[intOf];omega
  .obtain rfl:k=n:=by omega
   have hkn':¬(k:Int)<k:=by omega
   have htk:xs.take k=xs:=List.take_of_length_le (by rw[<-HLn.out];exact Av _);rw[htk]at HO
   obtain⟨q,d,rfl,hp⟩:=HO.out.plist (e:=2) (fun N hN=>kO (H6.out N hN));have HP:Ac (Bd wr 2 q k d xs):=⟨by have e:=HLn.out;rw[<-e]at hp;exact hp⟩
   have e9:xs.length=k:=HLn.out.symm;rw[e9];clear htk hp e9;go_wp2;go_ret;exact⟨q,d,rfl,HP.out,HB.out⟩
theorem Yq (i:Nat)(hi:i<3):Ce (gQ i):=by
 rcases dC i hi with h|⟨h1,s,hs,h2⟩
 .exact h.prime
 .rw[<-h2];exact Lb _ [] (fun x hx=>by cases hx) h1 s hs
theorem Vu (A:Int):((IntKind.u64.wrap A)%3).toNat<3:=by
 have h1:=Int.emod_nonneg (IntKind.u64.wrap A) (show (3:Int)≠0 by decide);have h2:=Int.emod_lt_of_pos (IntKind.u64.wrap A) (show (0:Int)<3 by decide);omega
theorem iZ {w:World}{i:Nat}{x y z:Option Addr×Nat×Nat}{pc:Option Addr}{nc cc:Nat}(hi:i<3)(hr:Tabs w)(hx:Ht w x (gP i))(hy:Ht w y (gQ i))(hz:Ht w z (gG i))(hc:Ej w 3 pc nc cc (Ei i)) :
  Calls Tryz.prog 80 #[.agg #[.slice x.1 x.2.1 x.2.2,.slice y.1 y.2.1 y.2.2,.slice z.1 z.2.1 z.2.2,.slice none 0 0],.slice pc nc cc] w fun e w'=>
   ∃b,e=.returned (.tuple #[.pointer (some ⟨b,0,none⟩),.int .i64 0])/\Bb w' b (gP i) (gQ i) (gG i) (gH i)/\Below w.heap.size w w':=by
 obtain⟨l1,l2,l3⟩:=nK i hi;refine(jA (e:=3) (seed:=[]) hr hx l1 hy l2 hz l3 (Xw w) hc (by rw[hc.len];exact bS i hi) (bT i hi) (by decide)).mono ?_;rintro en w' ⟨_,h0,_,hbl⟩;rw[dZ i hi]at h0
 obtain⟨b,rfl,hg⟩:=h0 (by decide) rfl;exact⟨b,rfl,hg,hbl⟩
theorem Gc (w:World)(A:Int)(hr:Tabs w) :
  Calls Tryz.prog 16 #[.int .i64 A,.slice none 0 0] w fun e w'=>∃b,e=.returned (.pointer (some ⟨b,0,none⟩))/\Bb w' b (gP ((IntKind.u64.wrap A)%3).toNat) (gQ ((IntKind.u64.wrap A)%3).toNat) (gG ((IntKind.u64.wrap A)%3).toNat) (gH ((IntKind.u64.wrap A)%3).toNat)/\Below w.heap.size w w':=by
 have HR:=Aa hr;have hi:=Vu A;obtain⟨i,ei⟩:∃i,((IntKind.u64.wrap A)%3).toNat=i:=⟨_,rfl⟩
 have HN:=Aa (Sz w A none 0 0);rw[ei]at hi HN ⊢
 have HI:=Aa hi;clear hr hi ei;go_enter Tryz.func16,Tryz.ntmps16
 go_wp2_with fail
 refine HN.out.mono ?_;rintro en w1 ⟨x,y,z,pc,nc,cc,rfl,h1,h2,h3,h4,b1⟩;have HH:=Aa (iZ HI.out (HR.out.below b1 HR.out.size) h1 h2 h3 h4);have B1:=Aa b1;clear h1 h2 h3 h4 b1 HN
 go_wp2_with fail
 refine HH.out.mono ?_;rintro en w2 ⟨b,rfl,hg,b2⟩;have HG:=Aa hg;have B2:=Aa (Ae B1.out b2);clear hg b2 HH B1;go_wp2;go_ret;exact⟨b,rfl,HG.out,B2.out⟩
structure Eo (w:World) (B:Nat) (v:Value) (us:List (Option Addr×Nat×Nat)):Prop where
 ex:(v=.slice none 0 0/\us=[]) ∨ ∃(g cap:Nat) (rest:List (Option Addr×Nat×Nat)),v=.slice (some ⟨g,0,none⟩) us.length cap/\B<=g/\Kf w g us (rest.map sv)/\us.length+rest.length=cap/\cap<=9223372036854775807
theorem Eo.nil (w:World)(B:Nat):Eo w B (.slice none 0 0) []:=⟨.inl ⟨rfl,rfl⟩⟩
theorem Eo.own {w:World}{B g:Nat}{v:Value}{us:List (Option Addr×Nat×Nat)}(h:Eo w B v us)(hg:v.ownBlock=some g):B<=g/\g<w.heap.size:=by
 rcases h.ex with ⟨rfl,_⟩|⟨g',cap,rest,rfl,h1,h2,_⟩
 .cases hg
 .obtain rfl:g'=g:=by simpa [Value.ownBlock]using hg
  exact⟨h1,h2.lt⟩
theorem Eo.keep {w w':World}{B:Nat}{v:Value}{us:List (Option Addr×Nat×Nat)}(h:Eo w B v us)(hk:∀g,v.ownBlock=some g->w'.heap[g]? = w.heap[g]?):Eo w' B v us:=by
 rcases h.ex with h1|⟨g,cap,rest,rfl,h1,h2,h3⟩
 .exact⟨.inl h1⟩
 .exact⟨.inr ⟨g,cap,rest,rfl,h1,by unfold Kf at *;rw[hk g rfl];exact h2,h3⟩⟩
theorem Eo.below {w w':World}{B:Nat}{v:Value}{us:List (Option Addr×Nat×Nat)}(h:Eo w B v us)(hb:Below w.heap.size w w'):Eo w' B v us:=h.keep fun g hg=>hb.block g (h.own hg).2
theorem Eo.slice {w:World}{B:Nat}{v:Value}{us:List (Option Addr×Nat×Nat)}(h:Eo w B v us):∃p c,v=.slice p us.length c:=by
 rcases h.ex with ⟨rfl,rfl⟩|⟨g,cap,rest,rfl,_⟩
 .exact⟨_,_,rfl⟩
 .exact⟨_,_,rfl⟩
theorem Kf.all {w:World}{g j:Nat}{us rest:List (Option Addr×Nat×Nat)}{u:Value}(h:Kf w g us (rest.map sv))(hc:w.cell? ⟨g,j,none⟩=some u):∃x:Option Addr×Nat×Nat,u=sv x:=by
 unfold Kf at h;rw[<-List.map_append]at h
 simp only[World.cell?,h,List.getElem?_toArray,List.getElem?_map]at hc
 cases hx:(us++rest)[j]? with
 | none=>rw[hx]at hc;simp at hc
 | some x=>rw[hx]at hc;simp at hc;exact⟨x,hc.symm⟩
theorem Kf.apart {w:World}{p:Option Addr}{n c N g:Nat}{us rest:List (Option Addr×Nat×Nat)}(hr:Kf w g us (rest.map sv))(h:Ah w p n c N)(h0:0<n):∀q,p=some q->q.block≠g:=by
 obtain⟨ws,r1,r2,r3,r4⟩:=h.ex;intro a ha hab;obtain⟨b',off,k1,k2,k3⟩:=r1.pos h0;rw[k1]at ha;cases ha
 have hbb:b'=g:=hab;subst hbb;have h1:=k3 0 (ws.getD 0 0) (by rw[Dd];simp[show 0<ws.length by rw[<-r1.len];exact h0]);rw[Nat.add_zero]at h1
 obtain⟨x,hx⟩:=hr.all h1;unfold sv at hx;cases hx
theorem Lq {w w':World}{p:Option Addr}{n c N:Nat}{v:Value}{us:List (Option Addr×Nat×Nat)}{B:Nat}(hr:Eo w B v us)(hg:w.grownBy w' v.ownBlock)(h:Ah w p n c N):Ah w' p n c N:=by
 rcases Nat.eq_zero_or_pos n with rfl|h0
 .obtain⟨ws,r1,r2,r3,r4⟩:=h.ex;refine⟨ws,⟨r1.len,r1.cap,r1.max,?_⟩,r2,r3,r4⟩;rcases r1.at_ with k|⟨b,off,k1,k2,k3⟩
  .exact .inl k
  .refine .inr ⟨b,off,k1,Dq k2 hg.size,fun i x hx=>?_⟩;have:ws=[]:=List.eq_nil_of_length_eq_zero r1.len.symm;rw[this]at hx;cases hx
 .refine Fw.stay h hg.size fun q hq o=>World.cell?_of_block (a:=⟨q.block,o,none⟩) (hg.block q.block (Fw.lt h q hq) fun e=>?_)
  rcases hr.ex with ⟨rfl,_⟩|⟨g,cap,rest,rfl,_,h2,_⟩
  .cases e
  .have e2:q.block=g:=by simpa [Value.ownBlock]using e
   exact h2.apart h h0 q hq e2
theorem Oe (n:Nat):Builtin.zeroCells (Value.agg #[.slice none 0 0]).cells n=((List.replicate n ((none,0,0):Option Addr×Nat×Nat)).map sv).toArray:=by
 have:(Value.agg #[.slice none 0 0]).cells=#[.slice none 0 0]:=by simp[Value.cells]
 rw[this];unfold Builtin.zeroCells;rw[List.map_replicate];apply Array.ext';have h1:(fun i:Nat=>([Value.slice none 0 0]:List Value)[i%1]?.getD default)=fun _=>Value.slice none 0 0:=by funext i;simp[Nat.mod_one]
 simp[sv];rw[h1];rw[List.map_const',List.length_range]
theorem Eo.app {w:World}{B:Nat}{v:Value}{us:List (Option Addr×Nat×Nat)}(h:Eo w B v us){a:Addr}{c:Nat}{x:Option Addr×Nat×Nat}(hc:w.cell? a=some (sv x))(hB:B<=w.heap.size)(hl:us.length<=100000)(ty:TypeId) :
  ∃v' w',(Builtin.append_ #[32, 32] ty #[v,.slice (some a) 1 c]).run Tryz.prog w=.ok v' w'/\Eo w' B v' (us++[x])/\w.grownBy w' v.ownBlock/\cL w v v':=by
 obtain⟨i,hi,hz,hs,hb⟩:=info_parts Tryz.info_Nat;have hu:=Tryz.underlying32;have ha0:a.add 0=a:=by obtain⟨b,o,s⟩:=a;simp[Addr.add]
 have hnew:∀j u,([sv x]:List Value)[j]? = some u->w.cell? (a.add j)=some u:=fun j u hj=>by
  cases j with
  | zero=>simp at hj;subst hj;rw[ha0];exact hc
  | succ j=>simp at hj
 have hby:i.bytes<=1000:=by rw[hb];decide
 have hzc:∀n,Builtin.zeroCells (Value.agg #[Value.slice none 0 0]).cells n=((List.replicate n ((none,0,0):Option Addr×Nat×Nat)).map sv).toArray:=Oe;rcases h.ex with ⟨rfl,rfl⟩|⟨g,cap,rest,rfl,hbg,hx,hcap,hmx⟩
 .have hr:=run_append_nil (P:=Tryz.prog) (w:=w) 32 ty 36 i _ hu hi hz a 1 c [sv x] (by rw[hs];rfl) hnew (by decide) (by decide) (by omega);rw[hzc]at hr
  refine⟨_,_,hr,⟨.inr ⟨w.heap.size,grownCap w 1 0 36,List.replicate (grownCap w 1 0 36 - 1) (none,0,0),rfl,hB,?_,?_,?_⟩⟩,⟨rfl,rfl,rfl,by simp,fun k hk _=>((Bg w.heap.size w).drew.alloc (Av _) _).block k hk⟩,.inr fun g hg=>?_⟩
  .unfold Kf;rw[show (w.drew.alloc (.cells ([sv x].toArray++((List.replicate (grownCap w 1 0 36 - 1) ((none,0,0):Option Addr×Nat×Nat)).map sv).toArray) 36)).heap[w.heap.size]? = some (.cells ([sv x].toArray++((List.replicate (grownCap w 1 0 36 - 1) ((none,0,0):Option Addr×Nat×Nat)).map sv).toArray) 36 (0,0)) from heap_alloc_new w.drew _];simp
  .have:=grownCap_ge w 1 0 36;simp;omega
  .have:=grownCap_le_maxLen w 1 0 36 (by decide);simpa [maxLen]using this
  .have:w.heap.size=g:=by simpa [Value.ownBlock]using hg
   omega
 .have hxb:=hx;unfold Kf at hxb
  cases rest with
  | nil=>
   have hcn:cap=us.length:=by simpa using hcap.symm
   subst hcn;have hgg:us.length<us.length+1:=by omega
   have hr:=run_append_grow (P:=Tryz.prog) (w:=w) 32 ty 36 i _ hu hi hz ⟨g,0,none⟩ us.length us.length (us.map sv) (by rw[hs];simp) (fun j u hj=>by
     rw[List.getElem?_map]at hj
     cases hy:us[j]? with
     | none=>rw[hy]at hj;cases hj
     | some y=>
      rw[hy]at hj;cases hj
      have:=hx.cell hy;rw[add_plain g 0 j,Nat.zero_add];exact this) a 1 c [sv x] (by rw[hs];rfl) hnew hgg (by omega) (growslice_fits hgg (Fb (Nat.mul_le_mul (by omega:us.length+1<=100001) hby) (by decide)))
   rw[hzc]at hr
   obtain⟨C,hC⟩:∃C,grownCap w (us.length+1) us.length 36 = C:=⟨_,rfl⟩
   have h1:=grownCap_ge w (us.length+1) us.length 36;have h2:=grownCap_le_maxLen w (us.length+1) us.length 36 (by simp[maxLen];omega);rw[hC]at hr h1 h2
   refine⟨_,_,hr,⟨.inr ⟨w.heap.size,C,List.replicate (C-(us.length+1)) (none,0,0),by rw[List.length_append];rfl,hB,?_,?_,by simpa [maxLen]using h2⟩⟩,⟨rfl,rfl,rfl,by simp,fun k hk _=>((Bg w.heap.size w).drew.alloc (Av _) _).block k hk⟩,.inr fun g' hg'=>?_⟩
   .unfold Kf;rw[show (w.drew.alloc (.cells ((us.map sv).toArray++[sv x].toArray++((List.replicate (C-(us.length+1)) ((none,0,0):Option Addr×Nat×Nat)).map sv).toArray) 36)).heap[w.heap.size]? = some (.cells ((us.map sv).toArray++[sv x].toArray++((List.replicate (C-(us.length+1)) ((none,0,0):Option Addr×Nat×Nat)).map sv).toArray) 36 (0,0)) from heap_alloc_new w.drew _];simp
   .simp;omega
   .have:w.heap.size=g':=by simpa [Value.ownBlock]using hg'
    omega
  | cons r0 rest=>
   have hr:=run_append_room (P:=Tryz.prog) (w:=w) 32 ty 36 i hu hi g us.length cap _ hxb a 1 c [sv x] (by rw[hs];rfl) hnew (fun u hu'=>by simp at hu';subst hu';rfl) (by simp at hcap;omega) (by simp[hs]);refine⟨_,_,hr,⟨.inr ⟨g,cap,rest,by rw[List.length_append];rfl,hbg,?_,by simp at hcap ⊢;omega,hmx⟩⟩,⟨rfl,rfl,rfl,by simp,fun k hk hn=>setRow_other w g k _ (fun e=>hn (by rw[e];rfl))⟩,.inl rfl⟩;unfold Kf;rw[setRow_heap w g _ _ _ _ hxb];have h9:(us.map sv++sv r0::rest.map sv).drop (us.length+1)=rest.map sv:=by
    rw[show us.map sv++sv r0::rest.map sv=(us.map sv++[sv r0])++rest.map sv by simp];exact List.drop_left' (by simp)
   simp[hs,h9]
theorem Eo.plist {w:World}{B e:Nat}{v:Value}{us:List (Option Addr×Nat×Nat)}{Ns:List Nat}(h:Eo w B v us)(ht:Fk w e us Ns):∃p c,v=.slice p Ns.length c/\Bd w e p Ns.length c Ns:=by
 rcases h.ex with ⟨rfl,rfl⟩|⟨g,cap,rest,rfl,h1,h2,h3,h4⟩
 .have:Ns=[]:=List.eq_nil_of_length_eq_zero ht.len.symm;subst this;exact⟨_,_,rfl,⟨rfl,Av _,by omega,fun _=>rfl,fun h0=>by simp at h0⟩⟩
 .have hl:=ht.len;refine⟨some ⟨g,0,none⟩,cap,by rw[hl],⟨rfl,by omega,h4,(fun e=>by cases e),fun _=>⟨g,0,rfl,h2.lt,fun i N hN=>?_⟩⟩⟩;obtain⟨x,k1,k2,k3⟩:=ht.at_ i N hN
  exact⟨x.1,x.2.1,x.2.2,by rw[Nat.zero_add];exact h2.cell k1,k2,k3⟩
theorem Fk.grown {w w':World}{e B:Nat}{v:Value}{us us2:List (Option Addr×Nat×Nat)}{Ns:List Nat}(h:Fk w e us Ns)(hr:Eo w B v us2)(hg:w.grownBy w' v.ownBlock):Fk w' e us Ns :=
 ⟨h.len,fun i N hN=>let ⟨x,h1,h2,h3⟩:=h.at_ i N hN;⟨x,h1,Lq hr hg h2,h3⟩⟩
theorem Fk.snoc {w:World}{e N:Nat}{us:List (Option Addr×Nat×Nat)}{Ns:List Nat}{x:Option Addr×Nat×Nat}(h:Fk w e us Ns)(hx:Ht w x N)(hl:N<Ao e):Fk w e (us++[x]) (Ns++[N]):=by
 refine⟨by simp[h.len],fun i M hM=>?_⟩;rcases Nat.lt_or_ge i Ns.length with hi|hi
 .rw[List.getElem?_append_left hi]at hM
  obtain⟨y,h1,h2⟩:=h.at_ i M hM
  exact⟨y,by rw[List.getElem?_append_left (by rw[h.len];exact hi)];exact h1,h2⟩
 .rw[List.getElem?_append_right hi]at hM
  obtain⟨t,ht⟩:∃t,i-Ns.length=t:=⟨_,rfl⟩
  rw[ht]at hM
  cases t with
  | zero=>
   simp at hM;subst hM;exact⟨x,by rw[List.getElem?_append_right (by rw[h.len];exact hi),h.len,ht];rfl,hx,hl⟩
  | succ t=>simp at hM
theorem Fk.nil (w:World)(e:Nat):Fk w e [] []:=⟨rfl,fun i N hN=>by simp at hN⟩
structure TB (W:World) (N1 N2:Nat) (d3 d7 d8 d9 d10 d11:Bool) (v3 v7 v8 v9:Value) (w:World):Prop where
 bel:Below W.heap.size W w
 p3:d3=true->Fit 33 N1 v3 w
 p7:d7=true->Fit 33 N2 v7 w
 b8:d8=true->∃b,v8=.pointer (some ⟨b,0,none⟩)/\W.heap.size<=b/\Qj d10 b N1 w/\(d9=true->v9≠v8)
 b9:d9=true->∃b,v9=.pointer (some ⟨b,0,none⟩)/\W.heap.size<=b/\Qj d11 b N2 w/\(d8=true->v8≠v9)
 o10:d10=true->d8=true
 o11:d11=true->d9=true
section
variable {W:World} {N1 N2:Nat} {d3 d7 d8 d9 d10 d11:Bool} {v3 v7 v8 v9:Value} {w:World}
theorem TB.start:TB W N1 N2 false false false false false false v3 v7 v8 v9 W.drew :=
 ⟨(Bg _ _).drew,(fun e=>by cases e),(fun e=>by cases e),(fun e=>by cases e),(fun e=>by cases e),(fun e=>by cases e),fun e=>by cases e⟩
theorem TB.later {w':World}(h:TB W N1 N2 d3 d7 d8 d9 d10 d11 v3 v7 v8 v9 w)(hb:Below w.heap.size w w'):TB W N1 N2 d3 d7 d8 d9 d10 d11 v3 v7 v8 v9 w' :=
 ⟨Ae h.bel hb,fun e=>(h.p3 e).below hb,fun e=>(h.p7 e).below hb,fun e=>let ⟨b,h1,h2,h3,h4⟩:=h.b8 e;⟨b,h1,h2,h3.later hb,h4⟩,fun e=>let ⟨b,h1,h2,h3,h4⟩:=h.b9 e;⟨b,h1,h2,h3.later hb,h4⟩,h.o10,h.o11⟩
theorem TB.put3 (h:TB W N1 N2 d3 d7 d8 d9 d10 d11 v3 v7 v8 v9 w){u:Value}(hu:Fit 33 N1 u w):TB W N1 N2 true d7 d8 d9 d10 d11 u v7 v8 v9 w:=⟨h.bel,fun _=>hu,h.p7,h.b8,h.b9,h.o10,h.o11⟩
theorem TB.put7 (h:TB W N1 N2 d3 d7 d8 d9 d10 d11 v3 v7 v8 v9 w){u:Value}(hu:Fit 33 N2 u w):TB W N1 N2 d3 true d8 d9 d10 d11 v3 u v8 v9 w:=⟨h.bel,h.p3,fun _=>hu,h.b8,h.b9,h.o10,h.o11⟩
theorem TB.lt8 (h:TB W N1 N2 d3 d7 true d9 d10 d11 v3 v7 v8 v9 w):v8≠.pointer (some ⟨w.heap.size,0,none⟩):=by
 obtain⟨b,h1,h2,⟨p,n,c,h3,_⟩,h4⟩:=h.b8 rfl;have:=h3.lt;rw[h1];intro e;simp only[Value.pointer.injEq,Option.some.injEq,Addr.mk.injEq,and_true]at e;omega
theorem TB.lt9 (h:TB W N1 N2 d3 d7 d8 true d10 d11 v3 v7 v8 v9 w):v9≠.pointer (some ⟨w.heap.size,0,none⟩):=by
 obtain⟨b,h1,h2,⟨p,n,c,h3,_⟩,h4⟩:=h.b9 rfl;have:=h3.lt;rw[h1];intro e;simp only[Value.pointer.injEq,Option.some.injEq,Addr.mk.injEq,and_true]at e;omega
theorem TB.no10 (h:TB W N1 N2 d3 d7 false d9 d10 d11 v3 v7 v8 v9 w):d10=false:=by
 cases d10 with
 | false=>rfl
 | true=>have:=h.o10 rfl;cases this
theorem TB.no11 (h:TB W N1 N2 d3 d7 d8 false d10 d11 v3 v7 v8 v9 w):d11=false:=by
 cases d11 with
 | false=>rfl
 | true=>have:=h.o11 rfl;cases this
theorem TB.put8 (h:TB W N1 N2 d3 d7 false d9 false d11 v3 v7 v8 v9 w):TB W N1 N2 d3 d7 true d9 false d11 v3 v7 (.pointer (some ⟨w.heap.size,0,none⟩)) v9 (w.alloc (.cells #[.slice none 0 0] 36)):=by
 have hb:Below w.heap.size w (w.alloc (.cells #[.slice none 0 0] 36)):=Cy;have hk:=h.later hb;refine⟨hk.bel,hk.p3,hk.p7,fun _=>⟨w.heap.size,rfl,h.bel.size,Qj.fresh (Af.made _ _),fun e=>by subst e;exact h.lt9⟩,fun e=>?_,(fun e=>by cases e),h.o11⟩;obtain⟨b,h1,h2,h3,h4⟩:=hk.b9 e;exact⟨b,h1,h2,h3,fun _=>by subst e;exact fun k=>h.lt9 k.symm⟩
theorem TB.put9 (h:TB W N1 N2 d3 d7 d8 false d10 false v3 v7 v8 v9 w):TB W N1 N2 d3 d7 d8 true d10 false v3 v7 v8 (.pointer (some ⟨w.heap.size,0,none⟩)) (w.alloc (.cells #[.slice none 0 0] 36)):=by
 have hb:Below w.heap.size w (w.alloc (.cells #[.slice none 0 0] 36)):=Cy;have hk:=h.later hb;refine⟨hk.bel,hk.p3,hk.p7,fun e=>?_,fun _=>⟨w.heap.size,rfl,h.bel.size,Qj.fresh (Af.made _ _),fun e=>by subst e;exact h.lt8⟩,h.o10,fun e=>by cases e⟩;obtain⟨b,h1,h2,h3,h4⟩:=hk.b8 e;exact⟨b,h1,h2,h3,fun _=>by subst e;exact fun k=>h.lt8 k.symm⟩
theorem TB.put10 (h:TB W N1 N2 true d7 true d9 false d11 v3 v7 v8 v9 w):∃(b m d:Nat) (q p:Option Addr) (n c:Nat),v8=.pointer (some ⟨b,0,none⟩)/\v3=.agg #[.slice p n c]/\Af w b (.slice q m d)/\TB W N1 N2 true d7 true d9 true d11 v3 v7 v8 v9 (w.setCell ⟨b,0,none⟩ (.slice p n c)):=by
 obtain⟨b,h1,h2,h3,h4⟩:=h.b8 rfl;obtain⟨p,n,c,e3,k1,k2⟩:=h.p3 rfl;obtain⟨q,m,d,k3,k4⟩:=h3.put k1;refine⟨b,m,d,q,p,n,c,h1,e3,k3,h.bel.setCell h2 _,fun _=>(show Fit 33 N1 v3 w from ⟨p,n,c,e3,k1,k2⟩).keep (An.store k3 h2 _),fun e=>(h.p7 e).keep (An.store k3 h2 _),fun _=>⟨b,h1,h2,k4,h4⟩,fun e=>?_,fun _=>rfl,h.o11⟩;obtain⟨b',g1,g2,g3,g4⟩:=h.b9 e;exact⟨b',g1,g2,g3.other k3 (fun x=>g4 rfl (by rw[h1,g1,x])) _,g4⟩
theorem TB.put11 (h:TB W N1 N2 d3 true d8 true d10 false v3 v7 v8 v9 w):∃(b m d:Nat) (q p:Option Addr) (n c:Nat),v9=.pointer (some ⟨b,0,none⟩)/\v7=.agg #[.slice p n c]/\Af w b (.slice q m d)/\TB W N1 N2 d3 true d8 true d10 true v3 v7 v8 v9 (w.setCell ⟨b,0,none⟩ (.slice p n c)):=by
 obtain⟨b,h1,h2,h3,h4⟩:=h.b9 rfl;obtain⟨p,n,c,e3,k1,k2⟩:=h.p7 rfl;obtain⟨q,m,d,k3,k4⟩:=h3.put k1;refine⟨b,m,d,q,p,n,c,h1,e3,k3,h.bel.setCell h2 _,fun e=>(h.p3 e).keep (An.store k3 h2 _),fun _=>(show Fit 33 N2 v7 w from ⟨p,n,c,e3,k1,k2⟩).keep (An.store k3 h2 _),fun e=>?_,fun _=>⟨b,h1,h2,k4,h4⟩,h.o10,fun _=>rfl⟩;obtain⟨b',g1,g2,g3,g4⟩:=h.b8 e;exact⟨b',g1,g2,g3.other k3 (fun x=>g4 rfl (by rw[h1,g1,x])) _,g4⟩
end
end Go.Proofs.YtnbmfaihlefgfaaGreatDoor
