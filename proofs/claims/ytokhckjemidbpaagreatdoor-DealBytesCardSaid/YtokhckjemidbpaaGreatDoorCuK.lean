/- A value, from the last coefficient down (curve.valueAt). -/
import Derived.Test.YtokhckjemidbpaaGreatDoorCuJ
set_option maxRecDepth 1000000
set_option maxHeartbeats 16000000
set_option linter.all false
namespace Go.Proofs.YtokhckjemidbpaaGreatDoor
open Go Go.RowKit Go.Proofs.YtokhckjemidbpaaGreatDoor.Flow
attribute [local go_sem] Oper.semAt_some
theorem Vk {w:World}{b:Nat}{v:Value}{t:TypeId}(h:w.heap[b]? = some (.cells #[v] t (0,0))):w.cell? ⟨b,0,none⟩=some v:=by simp[World.cell?,h]
theorem drop_step {As:List Nat}{n k A:Nat}(_:As.length=n)(hk:k<n)(hA:As[n-1-k]? = some A):As.drop (n-(k+1))=A::As.drop (n-k):=by
 obtain⟨h1,h2⟩:=List.getElem?_eq_some_iff.1 hA;rw[show n-(k+1)=n-1-k by omega,List.drop_eq_getElem_cons h1,h2,show n-1-k+1=n-k by omega]
theorem bG (w:World){e ex n c O X gp gt:Nat}{pp pt v u:Value}{hp ht:Nat->Nat->Nat}{p:Option Addr}{As:List Nat}(egp:∀args w,(callFunc gp args).run Tryz.prog w=.ok (.enter gp args) w)(egt:∀args w,(callFunc gt args).run Tryz.prog w=.ok (.enter gt args) w)(hP:iM gp pp w hp)(hT:iM gt pt w ht)(hA:Ba w e p n c As)(hX:Fit ex X v w)(hO:Fit 33 O u w)(he:e<=200)(hex:ex<=200)(hn:n<=1000000) :
  CallsIn Fence.wide 10 Tryz.prog 161 #[.slice p n c,v,u,.func (.func gp) #[pp] #[],.func (.func gt) #[pt] #[]] w fun en w'=>∃x,en=.returned x/\Fit 33 (Io hp ht X O As) x w'/\Below w.heap.size w w':=by
 obtain⟨px,nx,cx,rfl,x1,x2⟩:=Aw hX;obtain⟨po,no,co,rfl,o1,o2⟩:=Aw hO;obtain⟨us,b,off,hu,hr⟩:=Ud hA;have HLA:=Ac hA.len;have HTR:=Ac hu;have HRO:=Ac hr;have HPp:=Ac hP;have HT:=Ac hT;have HFX:=Ac (Fit.of x1 x2);have HFO:=Ac (Fit.of o1 o2);obtain⟨W1,hW1⟩:∃W,w.alloc (.cells #[.slice px nx cx] 37)=W:=⟨_,rfl⟩
 obtain⟨W2,hW2⟩:∃W,W1.alloc (.cells #[.slice po no co] 37)=W:=⟨_,rfl⟩
 obtain⟨W3,hW3⟩:∃W,W2.alloc (.cells #[.func (.func gp) #[pp] #[]] 254)=W:=⟨_,rfl⟩
 obtain⟨W4,hW4⟩:∃W,W3.alloc (.cells #[.func (.func gt) #[pt] #[]] 254)=W:=⟨_,rfl⟩
 obtain⟨W5,hW5⟩:∃W,W4.alloc (.cells #[.slice none 0 0] 37)=W:=⟨_,rfl⟩
 obtain⟨W6,hW6⟩:∃W,W5.alloc (.cells #[.slice po no co] 37)=W:=⟨_,rfl⟩
 clear hA hu hr hP hT hX hO x1 o1;refine callsIn_of_wp_marks Tryz.func161 rfl trivial ?_ rfl;simp only[Tryz.ntmps161,List.size_toArray,List.length_cons,List.length_nil,Nat.reduceAdd,Nat.reduceSub,Array.replicate_succ,Array.replicate_zero,List.push_toArray,List.append_toArray,List.nil_append,List.cons_append];have a1:Below w.heap.size w W1:=by rw[<-hW1];exact(Bd _ _).alloc (Av _) _
 have a2:Below W1.heap.size W1 W2:=by rw[<-hW2];exact(Bd _ _).alloc (Av _) _
 have a3:Below W2.heap.size W2 W3:=by rw[<-hW3];exact(Bd _ _).alloc (Av _) _
 have a4:Below W3.heap.size W3 W4:=by rw[<-hW4];exact(Bd _ _).alloc (Av _) _
 have a5:Below W4.heap.size W4 W5:=by rw[<-hW5];exact(Bd _ _).alloc (Av _) _
 have a6:Below W5.heap.size W5 W6:=by rw[<-hW6];exact(Bd _ _).alloc (Av _) _
 have s1:W1.heap.size=w.heap.size+1:=by rw[<-hW1];simp
 have s2:W2.heap.size=W1.heap.size+1:=by rw[<-hW2];simp
 have s3:W3.heap.size=W2.heap.size+1:=by rw[<-hW3];simp
 have s4:W4.heap.size=W3.heap.size+1:=by rw[<-hW4];simp
 have s5:W5.heap.size=W4.heap.size+1:=by rw[<-hW5];simp
 have s6:W6.heap.size=W5.heap.size+1:=by rw[<-hW6];simp
 have m1:W2.heap[W1.heap.size]? = some (.cells #[.slice po no co] 37 (0,0)):=by rw[<-hW2];exact heap_alloc_new _ _
 have k1:W5.cell? ⟨W1.heap.size,0,none⟩=some (.slice po no co):=by
  rw[(Ab a3 (Ab a4 a5)).cell (p:=⟨W1.heap.size,0,none⟩) (by simp only;omega)];exact Ae.cell m1
 obtain⟨W7,hW7⟩:∃W,W6.alloc (.cells #[.slice p n c] 62)=W:=⟨_,rfl⟩
 have a7:Below W6.heap.size W6 W7:=by rw[<-hW7];exact(Bd _ _).alloc (Av _) _
 have s7:W7.heap.size=W6.heap.size+1:=by rw[<-hW7];simp
 have t6:=a7;have t5:=Ab a6 t6;have t4:=Ab a5 t5;have t3:=Ab a4 t4;have t2:=Ab a3 t3;have t1:=Ab a2 t2;have t0:=Ab a1 t1;have m0:Ae W7 w.heap.size (.slice px nx cx):=Ae.below (w:=W1) (by rw[<-hW1];exact Ae.made _ _) t1 (by omega);have m2:W7.heap[W2.heap.size]? = some (.cells #[.func (.func gp) #[pp] #[]] 254 (0,0)):=by rw[t3.block _ (by omega),<-hW3];exact heap_alloc_new _ _
 have m3:W7.heap[W3.heap.size]? = some (.cells #[.func (.func gt) #[pt] #[]] 254 (0,0)):=by rw[t4.block _ (by omega),<-hW4];exact heap_alloc_new _ _
 have m4:Ae W7 W4.heap.size (.slice none 0 0):=Ae.below (w:=W5) (by rw[<-hW5];exact Ae.made _ _) t5 (by omega);have m5:Ae W7 W5.heap.size (.slice po no co):=Ae.below (w:=W6) (by rw[<-hW6];exact Ae.made _ _) t6 (by omega);have m6:W7.heap[W6.heap.size]? = some (.cells #[.slice p n c] 62 (0,0)):=by rw[<-hW7];exact heap_alloc_new _ _
 have HST:Aa (Pt w W2.heap.size W3.heap.size W4.heap.size W5.heap.size W6.heap.size gp gt pp pt (.slice px nx cx) (.slice p n c) (Io hp ht X O (As.drop (n-0))) W7/\Io hp ht X O (As.drop (n-0))<Al 33):=⟨by
  have e0:As.drop (n-0)=[]:=List.drop_eq_nil_of_le (by rw[<-HLA.out];exact Av _);rw[e0];exact⟨⟨m0,m2,m3,m4,⟨po,no,co,m5,(Fp HFO.out).below t0⟩,m6,t0⟩,o2⟩⟩
 have HLO:Aa (w.heap.size<W2.heap.size/\W2.heap.size<W3.heap.size/\W3.heap.size<W4.heap.size/\W4.heap.size<W5.heap.size/\W5.heap.size<W6.heap.size/\W7.heap.size=W6.heap.size+1):=⟨⟨by omega,by omega,by omega,by omega,by omega,s7⟩⟩
 have HC6:Aa (W7.cell? ⟨W6.heap.size,0,none⟩=some (.slice p n c)):=⟨by simp[World.cell?,m6]⟩
 clear a1 a2 a3 a4 a5 a6 a7 s1 s2 s3 s4 s5 s6 s7 t1 t2 t3 t4 t5 t6 m0 m1 m2 m3 m4 m5 m6;have HB7:=Ac t0;clear t0
 gi_wp2_with fail
 refine⟨trivial,(callsIn_wide.2 (Pr _ p n c)).mono ?_⟩;rintro en W7' ⟨rfl,rfl⟩
 gi_wp2_with fail
 clear hW1 hW2 hW3 hW4 hW5 hW6 hW7 k1;obtain⟨b1,hb1⟩:∃b,W1.heap.size=b:=⟨_,rfl⟩
 obtain⟨b2,hb2⟩:∃b,W2.heap.size=b:=⟨_,rfl⟩
 obtain⟨b3,hb3⟩:∃b,W3.heap.size=b:=⟨_,rfl⟩
 obtain⟨b4,hb4⟩:∃b,W4.heap.size=b:=⟨_,rfl⟩
 obtain⟨b5,hb5⟩:∃b,W5.heap.size=b:=⟨_,rfl⟩
 obtain⟨b6,hb6⟩:∃b,W6.heap.size=b:=⟨_,rfl⟩
 rw[hb2,hb3,hb4,hb5,hb6]at HST HLO
 rw[hb6]at HC6
 simp only[hb1,hb2,hb3,hb4,hb5,hb6];clear hb1 hb2 hb3 hb4 hb5 hb6;refine In rfl (by decide) (gf := 231) (lb:=#[.pointer (some ⟨b6,0,none⟩)]) rfl trivial (enters_of Tryz.func231 (by kernel_rfl) rfl)
  (N:=n) (Kp:=Mid (fun j=>j<w.heap.size ∨ j=b6)) (Gd:=fun k vs _=>∃x,us[n-1-k]? = some x/\vs=#[.int .i64 ((n-1-k:Nat):Int),.agg #[sv x]]) (by rintro k vs W ⟨x,_,rfl⟩;rfl)
  (fun W8 hs8 hb8=>Nw (10-1) (W7.heap.size+2) (W7.heap.size+1) b6 b off n c p us w W8 HRO.out hn _ (HB7.out.trans (hb8.mono HB7.out.size))
   ((hb8.cell (p:=⟨b6,0,none⟩) (by have:=HLO.out;simp only;omega)).trans HC6.out) (fun A C h hA=>⟨h.below hA (fun j hj=>.inl hj),fun u hu=>h.cell (a:=⟨b6,0,none⟩) (.inr rfl) hu⟩))
  (fun h k=>h.trans k) (fun W8 o=>Mid.putObj _ _ _ (by have:=HLO.out;omega))
  (fun k W=>Pt w b2 b3 b4 b5 b6 gp gt pp pt (.slice px nx cx) (.slice p n c) (Io hp ht X O (As.drop (n-k))) W/\Io hp ht X O (As.drop (n-k))<Al 33) (OwnFrom.and (Pt.own (N:=fun k=>Io hp ht X O (As.drop (n-k))) (by have:=HLO.out;omega)) (ownFrom_pure _ (fun k=>Io hp ht X O (As.drop (n-k))<Al 33))) HST.out
  (fun k a' W=>∃(bv:Nat) (x:Option Addr×Nat×Nat),us[n-1-k]? = some x/\a'={ defers:=[],tmps:=#[.slice p n c,.agg #[.slice px nx cx],.agg #[.slice po no co],.func (.func gp) #[pp] #[],.func (.func gt) #[pt] #[],undef,.pointer (some ⟨w.heap.size,0,none⟩),.pointer (some ⟨b1,0,none⟩),.pointer (some ⟨b2,0,none⟩),.pointer (some ⟨b3,0,none⟩),.pointer (some ⟨b4,0,none⟩),.pointer (some ⟨b5,0,none⟩),undef,.pointer (some ⟨bv,0,none⟩),.agg #[.slice po no co],.slice p n c,
    .func (.func 231) #[] #[.pointer (some ⟨b6,0,none⟩)],.int .i64 ((n-1-k:Nat):Int),.agg #[.slice x.1 x.2.1 x.2.2],undef,undef,undef,undef,undef,undef,undef,undef] }/\Ae W bv (sv x)/\b6<bv/\Pt w b2 b3 b4 b5 b6 gp gt pp pt (.slice px nx cx) (.slice p n c) (Io hp ht X O (As.drop (n-k))) W/\Io hp ht X O (As.drop (n-k))<Al 33)
  ?ax ?assign ?body ?done
 case ax=>
  rintro k a' _ X1 Y row ⟨bv,x,hx,e,h1,h1b,h2,h3⟩ hg hr;exact⟨bv,x,hx,e,Dx hg (fun j e=>(hr j e).2) h1,h1b,Pt.own (N:=fun k=>Io hp ht X O (As.drop (n-k))) (D:=W7.heap.size) HB7.out.size k X1 Y row h2 hg hr,h3⟩
 case assign=>
  rintro l2 k v W8 K hk hi ⟨x,hx,rfl⟩ hK;obtain⟨q,m,d⟩:=x;have hbw:Below W8.heap.size W8 (W8.alloc (.cells #[.slice q m d] 37)):=By;have HK:=Ac hK;have HI:=Ac hi;have HX:=Ac hx;clear hK hi hx;unfold sv
  gi_wp2
  exact HK.out _ _ ((KeepsOthers.alloc _ _).from _) (Mid.of hbw) ⟨_,(q,m,d),HX.out,rfl,Ae.made W8 _,(Ik HI.out.1.c6).1,HI.out.1.stable hbw,HI.out.2⟩
 case body=>
  rintro l2 k a' Wb hk ⟨bv,x,hx,rfl,hxn,hbv,hst,hlim⟩;obtain⟨A,hA,ha2,ha3⟩:=HTR.out.get hx;obtain⟨pq,nq,cq,hqb,hqn⟩:=hst.c5;obtain⟨NN,hNN⟩:∃N,Io hp ht X O (As.drop (n-k))=N:=⟨_,rfl⟩
  rw[hNN]at hqn hlim
  obtain⟨Z,hZ⟩:∃Z,hp (ht NN X) A=Z:=⟨_,rfl⟩
  have HZ:=Ac hZ;have HSN:Aa (Io hp ht X O (As.drop (n-(k+1)))=Z):=⟨by
   rw[drop_step HLA.out.symm hk hA,<-hZ,<-hNN];rfl⟩
  have HST1:=Ac hst;have HFO1:=Ac (Fit.of hqn hlim);have HFX1:=Ac (HFX.out.below hst.bel);have HFA1:=Ac ((Fit.of ha2 ha3).below hst.bel);have HOB:=Ac hqb;have HXN:Aa (Ae Wb bv (.slice x.1 x.2.1 x.2.2)):=⟨hxn⟩
  have HL5:Aa (w.heap.size<=b5):=⟨by have:=HLO.out;omega⟩
  have HNE:Aa (∀y∈([(bv,.cells #[.slice x.1 x.2.1 x.2.2] 37 (0,0)),(w.heap.size,.cells #[.slice px nx cx] 37 (0,0)),(b2,.cells #[.func (.func gp) #[pp] #[]] 254 (0,0)),(b3,.cells #[.func (.func gt) #[pt] #[]] 254 (0,0)),(b4,.cells #[.slice none 0 0] 37 (0,0)),(b6,.cells #[.slice p n c] 62 (0,0))]:List (Nat×Obj)),y.1≠b5):=⟨by
   have h1:=HLO.out;intro y hy;simp only[List.mem_cons,List.not_mem_nil,or_false]at hy;rcases hy with rfl|rfl|rfl|rfl|rfl|rfl<;>simp only<;>omega⟩
  have HLL:Aa (∀y∈([(bv,.cells #[.slice x.1 x.2.1 x.2.2] 37 (0,0)),(w.heap.size,.cells #[.slice px nx cx] 37 (0,0)),(b2,.cells #[.func (.func gp) #[pp] #[]] 254 (0,0)),(b3,.cells #[.func (.func gt) #[pt] #[]] 254 (0,0)),(b4,.cells #[.slice none 0 0] 37 (0,0)),(b6,.cells #[.slice p n c] 62 (0,0))]:List (Nat×Obj)),Wb.heap[y.1]? = some y.2):=⟨by
   intro y hy;simp only[List.mem_cons,List.not_mem_nil,or_false]at hy;rcases hy with rfl|rfl|rfl|rfl|rfl|rfl
   .exact HXN.out
   .exact HST1.out.c0
   .exact HST1.out.c2
   .exact HST1.out.c3
   .exact HST1.out.c4
   .exact HST1.out.c6⟩
  clear hx hxn hst hlim hA ha2 hqb hqn hNN hZ
  gi_wp2_with fail
  refine Kg (Fe:=Fence.wide.inRound l2) (by kernel_rfl) (by kernel_rfl) (by kernel_rfl) (fun _=>trivial) rfl
   [some (.func (.func gp) #[pp] #[]),some (.func (.func gt) #[pt] #[]),some (.agg #[.slice pq nq cq]),some (.agg #[.slice px nx cx]),none,some (.agg #[.slice x.1 x.2.1 x.2.2]),none,none]
   [false,false,false,false,true,false,true,true] rfl
   (fun wA wB=>Ap (w.heap.size) wA wB)
   (fun D sp w'=>RB (b5) (w.heap.size) Wb [(bv,.cells #[.slice x.1 x.2.1 x.2.2] 37 (0,0)),(w.heap.size,.cells #[.slice px nx cx] 37 (0,0)),(b2,.cells #[.func (.func gp) #[pp] #[]] 254 (0,0)),(b3,.cells #[.func (.func gt) #[pt] #[]] 254 (0,0)),(b4,.cells #[.slice none 0 0] 37 (0,0)),(b6,.cells #[.slice p n c] 62 (0,0))] w'/\gV (D 7) (b5) pq nq cq (Z) w')
   (fun i v w'=>match i with
    | 4=>Fit 33 (ht NN X) v w'
    | 6=>Fit 33 Z v w'
    | _=>True)
   ?_ ⟨RB.start HST1.out.bel.size HLL.out,⟨fun _=>HOB.out,fun e=>by cases e⟩⟩ ?_ ?_
  .intro i v wA wB hf hb;split at hf
   .exact hf.keep hb
   .exact hf.keep hb
   .trivial
  .simp only[Ez,Nat.reduceAdd];refine⟨?_,?_,?_,?_,?_,?_,?_,?_,trivial⟩
   all_goals intro D sp w' hD hW hdp hg
   case refine_1=>
    (with_reducible refine Bw ?_)
    have c0:w'.cell? ⟨b2,0,none⟩=some (.func (.func gp) #[pp] #[]):=Vk (hg.1.of (List.mem_cons_of_mem _ (List.mem_cons_of_mem _ List.mem_cons_self)))
    with_reducible refine Ag ?_ ?_
    all_goals simp[Region.wanted,yielded,execOp,Act.eval,Act.put,go_sem,c0]
   case refine_2=>
    (with_reducible refine Bw ?_)
    have c0:w'.cell? ⟨b3,0,none⟩=some (.func (.func gt) #[pt] #[]):=Vk (hg.1.of (List.mem_cons_of_mem _ (List.mem_cons_of_mem _ (List.mem_cons_of_mem _ List.mem_cons_self))))
    with_reducible refine Ag ?_ ?_
    all_goals simp[Region.wanted,yielded,execOp,Act.eval,Act.put,go_sem,c0]
   case refine_3=>
    (with_reducible refine Bw ?_)
    have c0:=(hg.2.z (hW 7 (mq (by kernel_rfl)))).cell
    with_reducible refine Ag ?_ ?_
    all_goals simp[Region.wanted,yielded,execOp,Act.eval,Act.put,go_sem,c0]
   case refine_4=>
    (with_reducible refine Bw ?_)
    have c0:w'.cell? ⟨w.heap.size,0,none⟩=some (.slice px nx cx):=Ae.cell (hg.1.of (List.mem_cons_of_mem _ List.mem_cons_self))
    with_reducible refine Ag ?_ ?_
    all_goals simp[Region.wanted,yielded,execOp,Act.eval,Act.put,go_sem,c0]
   case refine_5=>
    (with_reducible refine Bw ?_)
    (with_reducible refine Ad (w1:=w') (f:=gt) (args:=#[pt,.agg #[.slice pq nq cq],.agg #[.slice px nx cx]]) ?_ ?_ ?_)
    .simp[Region.wanted,yielded,Act.put,go_sem]
    .simp[Act.eval,Act.put,go_sem,egt]
    .refine(HT.out.out w' 33 ex _ _ _ _ (HST1.out.bel.trans hg.1.keep.bel) (by decide) hex (HFO1.out.keep hg.1.keep) (HFX1.out.keep hg.1.keep)).mono ?_;rintro en w9 ⟨u,rfl,hu,hb⟩;exact⟨u,rfl,Ap.of hb hg.1.base,hu,hg.1.later hb,by simpa [upd]using hg.2.later hb⟩
   case refine_6=>
    (with_reducible refine Bw ?_)
    have c0:w'.cell? ⟨bv,0,none⟩=some (.slice x.1 x.2.1 x.2.2):=Ae.cell (hg.1.of List.mem_cons_self)
    with_reducible refine Ag ?_ ?_
    all_goals simp[Region.wanted,yielded,execOp,Act.eval,Act.put,go_sem,c0]
   case refine_7=>
    (with_reducible refine Bw ?_)
    have k4:Fit 33 (ht NN X) (sp 4) w':=(hdp 4 (mq (by kernel_rfl))).2
    (with_reducible refine Ad (w1:=w') (f:=gp) (args:=#[pp,sp 4,.agg #[.slice x.1 x.2.1 x.2.2]]) ?_ ?_ ?_)
    .simp[Region.wanted,yielded,Act.put,go_sem]
    .simp[Act.eval,Act.put,go_sem,egp]
    .refine(HPp.out.out w' 33 e _ _ _ _ (HST1.out.bel.trans hg.1.keep.bel) (by decide) he k4 (HFA1.out.keep hg.1.keep)).mono ?_;rintro en w9 ⟨u,rfl,hu,hb⟩;rw[HZ.out]at hu
     exact⟨u,rfl,Ap.of hb hg.1.base,hu,hg.1.later hb,by simpa [upd]using hg.2.later hb⟩
   case refine_8=>
    (with_reducible refine Bw ?_)
    have hx:∃p n c,sp 6=.agg #[.slice p n c]/\Ah w' p n c (Z)/\Z<Al (33):=(hdp 6 (mq (by kernel_rfl))).2
    (with_reducible refine Bc hx fun p hx1=>Bc hx1 fun n hx2=>Bc hx2 fun c hx3=>?_)
    have h1:=hx3.1;rw[hD]at hg
    have hp:=hg.2.put (hx3.2.1)
    (with_reducible refine Bc hp fun q hy1=>Bc hy1 fun m hy2=>Bc hy2 fun k hy3=>?_)
    have h6:=hy3.1.cell;have h7:=hy3.1.free
    (with_reducible refine Aq (w1:=w'.setCell ⟨b5,0,none⟩ (.slice p n c)) ?_ ?_ ?_)
    .simp[Region.wanted,yielded,Act.put,go_sem]
    .simp[execOp,Act.eval,Act.put,go_sem,h1,h6,h7]
    .refine⟨Ap.store hy3.1 HL5.out _,trivial,hg.1.store hy3.1 HL5.out HNE.out _,?_⟩;have h8:=hy3.2;simpa [upd]using h8
  .intro sp w7 hsp hg;obtain⟨hg1,hg2⟩:=hg;obtain⟨pz,nz,cz,hz1,hz2⟩:=hg2.o rfl;have hl6:Fit 33 Z (sp 6) w7:=hsp 6 rfl;have f0:=hg1.of (List.mem_cons_of_mem _ List.mem_cons_self);have f2:=hg1.of (List.mem_cons_of_mem _ (List.mem_cons_of_mem _ List.mem_cons_self));have f3:=hg1.of (List.mem_cons_of_mem _ (List.mem_cons_of_mem _ (List.mem_cons_of_mem _ List.mem_cons_self)));have f4:=hg1.of (List.mem_cons_of_mem _ (List.mem_cons_of_mem _ (List.mem_cons_of_mem _ (List.mem_cons_of_mem _ List.mem_cons_self))));have f6:=hg1.of (List.mem_cons_of_mem _ (List.mem_cons_of_mem _ (List.mem_cons_of_mem _ (List.mem_cons_of_mem _ (List.mem_cons_of_mem _ List.mem_cons_self)))));have HPo:Aa (Pt w b2 b3 b4 b5 b6 gp gt pp pt (.slice px nx cx) (.slice p n c) (Io hp ht X O (As.drop (n-(k+1)))) w7/\Io hp ht X O (As.drop (n-(k+1)))<Al 33):=⟨by
    rw[HSN.out];exact⟨⟨f0,f2,f3,f4,⟨pz,nz,cz,hz1,hz2⟩,f6,HST1.out.bel.trans hg1.keep.bel⟩,hl6.lim⟩⟩
   have HKF:Aa (KeepsFrom W7.heap.size Wb w7):=⟨hg1.but.keepsFrom HOB.out⟩
   have HMD:Aa (Mid (fun j=>j<w.heap.size ∨ j=b6) Wb w7):=⟨hg1.but.mid (by have:=HLO.out;show ¬(b5<w.heap.size ∨ b5=b6);omega)⟩
   clear hsp hg1 hg2 hz1 hz2 hl6 f0 f2 f3 f4 f6;simp only[Ak];generalize sp 4=y4,sp 6=y6,sp 7=y7 at *
   go_simp
   gi_wp2
   exact⟨HKF.out,HMD.out,HPo.out⟩
 case done=>
  rintro D W8 hD hi hK;obtain⟨pz,nz,cz,hz1,hz2⟩:=hi.1.c5;have c5:=hz1.cell;have h4:=hi.1.c4;have c4:=h4.cell;have f4:=h4.free;have hval:As.drop (n-n)=As:=by rw[Nat.sub_self];rfl
  rw[hval]at hz2
  have hlm:=hi.2;rw[hval]at hlm
  have HF:Aa (Fit 33 (Io hp ht X O As) (.agg #[.slice pz nz cz]) (W8.setCell ⟨b4,0,none⟩ (.slice pz nz cz))):=⟨Fit.of (hz2.store h4 _) hlm⟩
  have hDb:D≠b4:=by have:=HLO.out;have:=(Ik hK).1;omega
  have HK9:Aa ((W8.setCell ⟨b4,0,none⟩ (.slice pz nz cz)).heap[D]? = some (.deferred (some []))):=⟨by rw[heap_setCell_other W8 ⟨b4,0,none⟩ D _ hDb];exact hK⟩
  have HB9:Aa (Below w.heap.size w (W8.setCell ⟨b4,0,none⟩ (.slice pz nz cz))):=⟨hi.1.bel.setCell (by have:=HLO.out;show w.heap.size<=b4;omega) _⟩
  have hcz:(W8.setCell ⟨b4,0,none⟩ (.slice pz nz cz)).cell? ⟨b4,0,none⟩=some (.slice pz nz cz):=(h4.set _).cell;have HWD:Aa (w.heap.size<=D):=⟨by have:=HB7.out.size;omega⟩
  have HCZ:=Ac hcz;clear hz1 hz2 h4 hi hK hval hlm hDb hcz
  gi_wp2
  refine⟨by simp,.inl ⟨_,_,rfl,run_takeDeferred HK9.out,?_⟩⟩;have hgr:=grownBy_putObj' (W8.setCell ⟨b4,0,none⟩ (.slice pz nz cz)) D (.deferred none);have hcal:Calm (W8.setCell ⟨b4,0,none⟩ (.slice pz nz cz)) (some D):=fun j e=>by cases e;exact⟨_,HK9.out,rfl⟩
  have hc9:=cell_kept HCZ.out hgr hcal;refine⟨.agg #[.slice pz nz cz],?_,_,rfl,HF.out.kept hgr hcal,HB9.out.grown hgr HB9.out.size (fun j e=>by cases e;exact HWD.out)⟩;simp[results,Tryz.f161,go_sem,hc9]
end Go.Proofs.YtokhckjemidbpaaGreatDoor
