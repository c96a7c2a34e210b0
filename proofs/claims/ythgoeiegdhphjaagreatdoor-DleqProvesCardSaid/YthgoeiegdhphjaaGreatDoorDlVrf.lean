/- DleqVerifies, walked: whether any bytes prove any claim is as the document says. -/
import Derived.Test.YthgoeiegdhphjaaGreatDoorDlD
import Derived.Lib.SlBytesConst
import Derived.Deep.LoopGhost
set_option maxRecDepth 1000000
set_option maxHeartbeats 16000000
set_option linter.all false
namespace Go.Proofs.YthgoeiegdhphjaaGreatDoor
open Go Go.RowKit Go.Proofs.YthgoeiegdhphjaaGreatDoor.Flow
def Nj (w:World)(x:Option Addr×Nat×Nat)(N:Nat):Prop:=Bj w x.1 x.2.1 x.2.2 N
theorem Nj.below {w w':World}{x:Option Addr×Nat×Nat}{N:Nat}(h:Nj w x N)(hb:Below w.heap.size w w'):Nj w' x N:=Bj.below h hb
theorem Nj.bits {w:World}{x:Option Addr×Nat×Nat}{N:Nat}(h:Nj w x N):Ao N (.slice x.1 x.2.1 x.2.2) w:=Ao.of h
def Uy (A B Y Z:Nat)(xa xb xy xz:Option Addr×Nat×Nat)(w:World):Prop:=Nj w xa A/\Nj w xb B/\Nj w xy Y/\Nj w xz Z
theorem Uy.below {A B Y Z:Nat}{xa xb xy xz:Option Addr×Nat×Nat}{w w':World}(h:Uy A B Y Z xa xb xy xz w)(hb:Below w.heap.size w w'):Uy A B Y Z xa xb xy xz w':=⟨h.1.below hb,h.2.1.below hb,h.2.2.1.below hb,h.2.2.2.below hb⟩
def bY (B:Nat)(v:Value)(w:World):Prop:=∃g,v=.slice (some ⟨g,0,none⟩) 4 4/\w.shape? g=some (5,4)/\Aq w ⟨some ⟨g,0,none⟩,4,4,Kz⟩/\B<=g
theorem bY.kc {B C:Nat}{v:Value}{w w':World}(h:bY B v w)(hk:KC C w w'):bY B v w' :=
 let ⟨g,h1,h2,h3,h4⟩:=h
 ⟨g,h1,hk.shape _ _ h2,h3.kc hk,h4⟩
theorem Wj {B:Nat}(w:World)(hB:B<=w.heap.size):bY B (.slice (some ⟨w.heap.size,0,none⟩) 4 4) (w.alloc (.cells #[.int .u8 100,.int .u8 108,.int .u8 101,.int .u8 113] 5)):=by
 have h1:(w.alloc (.cells #[.int .u8 100,.int .u8 108,.int .u8 101,.int .u8 113] 5)).heap[w.heap.size]? = some (.cells #[.int .u8 100,.int .u8 108,.int .u8 101,.int .u8 113] 5 (0,0)):=heap_alloc_new w _;exact⟨w.heap.size,rfl,by unfold World.shape?;rw[h1];rfl,⟨Jf (bs:=Kz) h1 rfl (by decide:4<=9223372036854775807),(by decide:∀x∈Kz,x<256)⟩,hB⟩
def Ur (n:Nat)(bss:List (List Nat))(v:Value)(w:World):Prop:=∃(q:Nat) (L:List Part),v=.slice (some ⟨q,0,none⟩) n n/\Br w (some ⟨q,0,none⟩) n n L/\Gs L/\L.map (·.bs)=bss
theorem Ur.kc {n B:Nat}{bss:List (List Nat)}{v:Value}{w w':World}(h:Ur n bss v w)(hk:KC B w w'):Ur n bss v w' :=
 let ⟨q,L,h1,h2,h3,h4⟩:=h
 ⟨q,L,h1,h2.kc hk,h3,h4⟩
theorem gX (w:World)(L:List Part)(h:∀P∈L,Aq w P)(hl:L.length<=1000000):Br (w.alloc (.cells (L.map fun P=>Value.slice P.p P.n P.c).toArray 60)) (some ⟨w.heap.size,0,none⟩) L.length L.length L:=by
 have hb:Below w.heap.size w (w.alloc (.cells (L.map fun P=>Value.slice P.p P.n P.c).toArray 60)):=Bw;have hn:=heap_alloc_new w (.cells (L.map fun P=>Value.slice P.p P.n P.c).toArray 60);refine⟨rfl,Av _,by omega,fun i X hX=>(h X (List.mem_of_getElem? hX)).below hb,fun _=>⟨w.heap.size,0,rfl,by simp,fun i X hX=>?_⟩⟩;rw[Nat.zero_add];unfold World.cell?
 dsimp only
 rw[hn];simp[hX]
theorem sZ {w:World}{A B C D E F G H:Part}(h1:Aq w A)(h2:Aq w B)(h3:Aq w C)(h4:Aq w D)(h5:Aq w E)(h6:Aq w F)(h7:Aq w G)(h8:Aq w H):∀P∈[A,B,C,D,E,F,G,H],Aq w P:=fun P hP=>by
 simp only[List.mem_cons,List.not_mem_nil,or_false]at hP;rcases hP with rfl|rfl|rfl|rfl|rfl|rfl|rfl|rfl<;>assumption
theorem sJ {A B C D E F G H:Part}(h1:A.p=none->A.c=0)(h2:B.p=none->B.c=0)(h3:C.p=none->C.c=0)(h4:D.p=none->D.c=0)(h5:E.p=none->E.c=0)(h6:F.p=none->F.c=0)(h7:G.p=none->G.c=0)(h8:H.p=none->H.c=0):Gs [A,B,C,D,E,F,G,H]:=fun P hP=>by
 simp only[List.mem_cons,List.not_mem_nil,or_false]at hP;rcases hP with rfl|rfl|rfl|rfl|rfl|rfl|rfl|rfl<;>assumption
theorem rX (sz:Nat)(A B Y Z U V:Nat)(msg:List Nat):(Cd [Kz,As A sz,As B sz,As Y sz,As Z sz,As U sz,As V sz,msg]).length=68+6*sz+msg.length:=by
 simp[Cd,Fd,Bq,Kz];omega
theorem Nn {w:World}{v u t:Value}{P Q G H A B Y Z U V nm cm:Nat}{xa xb xy xz:Option Addr×Nat×Nat}{pm:Option Addr}{msg:List Nat}(h:Df P Q G H v w)(hc:Uy A B Y Z xa xb xy xz w)(hu:Ao U u w)(ht:Ao V t w)(lA:A<P)(lB:B<P)(lY:Y<P)(lZ:Z<P)(lU:U<P)(lV:V<P)(lP:Ap P<=100000)(lQ:Ap Q<=100000)(hQ:0<Q)(hs:Ak P<=16)(hm:Aq w ⟨pm,nm,cm,msg⟩)(hz:pm=none->cm=0)(hn:nm<=1000) :
  Calls Tryz.prog 62 #[v,.agg #[.slice xa.1 xa.2.1 xa.2.2,.slice xb.1 xb.2.1 xb.2.2,.slice xy.1 xy.2.1 xy.2.2,.slice xz.1 xz.2.1 xz.2.2],u,t,.slice pm nm cm] w fun e w'=>∃x,e=.returned x/\Ao (Ny P Q A B Y Z U V msg) x w'/\Below w.heap.size w w':=by
 obtain⟨p0,n0,c0,p1,n1,c1,p2,n2,c2,p3,n3,c3,rfl,h0,h1,h2,h3⟩:=h.ex;obtain⟨pu,nu,cu,rfl,hu0⟩:=hu;obtain⟨pv,nv,cv,rfl,ht0⟩:=ht;have hb1:Below w.heap.size w (w.alloc (.cells #[.slice p0 n0 c0,.slice p1 n1 c1,.slice p2 n2 c2,.slice p3 n3 c3] 30)):=Bw;have hbo:=Cp.made 30 w (.slice p0 n0 c0) (.slice p1 n1 c1) (.slice p2 n2 c2) (.slice p3 n3 c3);have hz1:(w.alloc (.cells #[.slice p0 n0 c0,.slice p1 n1 c1,.slice p2 n2 c2,.slice p3 n3 c3] 30)).heap.size=w.heap.size+1:=by simp
 obtain⟨wb,hwb⟩:∃wa,w.alloc (.cells #[.slice p0 n0 c0,.slice p1 n1 c1,.slice p2 n2 c2,.slice p3 n3 c3] 30)=wa:=⟨_,rfl⟩
 rw[hwb]at hb1 hbo hz1
 have hb2:Below wb.heap.size wb (wb.alloc (.cells #[.slice xa.1 xa.2.1 xa.2.2,.slice xb.1 xb.2.1 xb.2.2,.slice xy.1 xy.2.1 xy.2.2,.slice xz.1 xz.2.1 xz.2.2] 87)):=Bw;have hco:=Cp.made 87 wb (.slice xa.1 xa.2.1 xa.2.2) (.slice xb.1 xb.2.1 xb.2.2) (.slice xy.1 xy.2.1 xy.2.2) (.slice xz.1 xz.2.1 xz.2.2);have hz2:(wb.alloc (.cells #[.slice xa.1 xa.2.1 xa.2.2,.slice xb.1 xb.2.1 xb.2.2,.slice xy.1 xy.2.1 xy.2.2,.slice xz.1 xz.2.1 xz.2.2] 87)).heap.size=w.heap.size+1+1:=by simp[hz1]
 obtain⟨wa,hwa⟩:∃W,wb.alloc (.cells #[.slice xa.1 xa.2.1 xa.2.2,.slice xb.1 xb.2.1 xb.2.2,.slice xy.1 xy.2.1 xy.2.2,.slice xz.1 xz.2.1 xz.2.2] 87)=W:=⟨_,rfl⟩
 rw[hwa]at hb2 hco hz2
 rw[hz1]at hco
 have hbx:=Ae hb1 hb2;have HB:=Ab hbx;have HBX:=Ab (hbo.below hb2 hbo.lt);have HCX:=Ab hco;have hWA:Aa (∀ {w':World},KC (w.heap.size+1+1) wa w'->Below wa.heap.size wa w'):=⟨fun k=>by have:=k.bel;rw[<-hz2]at this;exact this⟩
 have HSB:Aa (∀ {w':World},KC (w.heap.size+1+1) wa w'->(w.heap.size+1+1)<=w'.heap.size):=⟨fun hk=>by have:=hk.bel.size;omega⟩
 have HV:Aa (Df P Q G H (.agg #[.slice p0 n0 c0,.slice p1 n1 c1,.slice p2 n2 c2,.slice p3 n3 c3]) wa):=⟨⟨p0,n0,c0,p1,n1,c1,p2,n2,c2,p3,n3,c3,rfl,h0.below hbx,h1.below hbx,h2.below hbx,h3.below hbx⟩⟩
 have HCA:=Ab ((hc.1.below hbx).bits);have HCB:=Ab ((hc.2.1.below hbx).bits);have HCY:=Ab ((hc.2.2.1.below hbx).bits);have HCZ:=Ab ((hc.2.2.2.below hbx).bits);have HU:=Ab (Ao.of (hu0.below hbx));have HVV:=Ab (Ao.of (ht0.below hbx));have HM:=Ab (hm.below hbx);have HZM:=Ab hz;have HQB:=Ab (h1.below hbx);have HQ0:=Ab hQ;have HQl:Aa (Ap Q<=900000):=⟨by omega⟩
 have HPl:=Ab lP;have hlm:=Eu P;obtain⟨sz,hsz⟩:∃s,Ak P=s:=⟨_,rfl⟩
 have HCH0:Aa (be (Hy (Cd [Kz,As A sz,As B sz,As Y sz,As Z sz,As U sz,As V sz,msg]))%Q=Ny P Q A B Y Z U V msg):=⟨by rw[<-hsz];rfl⟩
 obtain⟨CH,hCH⟩:∃C,Ny P Q A B Y Z U V msg=C:=⟨_,rfl⟩
 rw[hCH]at HCH0 ⊢
 have HCH:Aa _:=HCH0;rw[hsz]at hs hlm
 have HSZ:=Ab hsz;have HSs:=Ab hs;have HLM:Aa (A<B8 sz/\B<B8 sz/\Y<B8 sz/\Z<B8 sz/\U<B8 sz/\V<B8 sz):=⟨by omega,by omega,by omega,by omega,by omega,by omega⟩
 have HMX:Aa ((Cd [Kz,As A sz,As B sz,As Y sz,As Z sz,As U sz,As V sz,msg]).length<=1000000):=⟨by
  have h9:=hm.row.len
  dsimp only at h9
  rw[rX];omega⟩
 clear h h0 h1 h2 h3 hbx hbo hu0 ht0 lA lB lY lZ lU lV lP lQ hQ hs hm hz hn hCH hlm hsz HCH0 hb1 hb2 hco hz2 hc;go_enter Tryz.func62,Tryz.ntmps62;go_wp2;refine Aj (by kernel_rfl) (by kernel_rfl)
  [some (.agg #[.slice p0 n0 c0,.slice p1 n1 c1,.slice p2 n2 c2,.slice p3 n3 c3]),none,none,some (.agg #[.slice p0 n0 c0,.slice p1 n1 c1,.slice p2 n2 c2,.slice p3 n3 c3]),some (.pointer (some ⟨w.heap.size+1,0,none⟩)),some (.slice xa.1 xa.2.1 xa.2.2),none,some (.agg #[.slice p0 n0 c0,.slice p1 n1 c1,.slice p2 n2 c2,.slice p3 n3 c3]),some (.pointer (some ⟨w.heap.size+1,1,none⟩)),some (.slice xb.1 xb.2.1 xb.2.2),none,some (.agg #[.slice p0 n0 c0,.slice p1 n1 c1,.slice p2 n2 c2,.slice p3 n3 c3]),some (.pointer (some ⟨w.heap.size+1,2,none⟩)),some (.slice xy.1 xy.2.1 xy.2.2),none,some (.agg #[.slice p0 n0 c0,.slice p1 n1 c1,.slice p2 n2 c2,.slice p3 n3 c3]),some (.pointer (some ⟨w.heap.size+1,3,none⟩)),some (.slice xz.1 xz.2.1 xz.2.2),none,some (.agg #[.slice p0 n0 c0,.slice p1 n1 c1,.slice p2 n2 c2,.slice p3 n3 c3]),some (.slice pu nu cu),none,some (.agg #[.slice p0 n0 c0,.slice p1 n1 c1,.slice p2 n2 c2,.slice p3 n3 c3]),some (.slice pv nv cv),none,some (.slice pm nm cm),none,none,none]
  [false,true,true,false,false,false,true,false,false,false,true,false,false,false,true,false,false,false,true,false,false,true,false,false,true,false,true,true,true] rfl
  (fun w1 w2=>KC (w.heap.size+1+1) w1 w2)
  (fun D w'=>KC (w.heap.size+1+1) wa w')
  (fun i v w'=>match i with
   | 1=>bY (w.heap.size+1+1) v w'
   | 2=>bY (w.heap.size+1+1) v w'
   | 6=>Fn sz (As A sz) v w'
   | 10=>Fn sz (As B sz) v w'
   | 14=>Fn sz (As Y sz) v w'
   | 18=>Fn sz (As Z sz) v w'
   | 21=>Fn sz (As U sz) v w'
   | 24=>Fn sz (As V sz) v w'
   | 26=>Ur 8 [Kz,As A sz,As B sz,As Y sz,As Z sz,As U sz,As V sz,msg] v w'
   | 27=>Ao CH v w'
   | 28=>Ao CH v w'
   | _=>True)
  ?_ (KC.drew _ _) ?_ ?_
 .intro i v w1 w2 hf hb;split at hf
  .exact hf.kc hb
  .exact hf.kc hb
  .exact hf.kc hb
  .exact hf.kc hb
  .exact hf.kc hb
  .exact hf.kc hb
  .exact hf.kc hb
  .exact hf.kc hb
  .exact hf.kc hb
  .exact hf.kc hb
  .exact hf.kc hb
  .trivial
 .simp only[Bc,Nat.reduceAdd];refine⟨?_,?_,?_,?_,?_,?_,?_,?_,?_,?_,?_,?_,?_,?_,?_,?_,?_,?_,?_,?_,?_,?_,?_,?_,?_,?_,?_,?_,?_,trivial⟩
  all_goals intro D sp w' hD hW hdp hbx'
  case refine_1|refine_4|refine_8|refine_12|refine_16|refine_20|refine_23=>
   have g4:=(cells4 (HBX.out.below (hbx'.bel.mono (by omega)) (Nat.lt_succ_self _)).at_).1
   with_reducible refine Ad ?_ ?_
   all_goals simp[Region.wanted,yielded,execOp,Act.eval,Act.put,go_sem,g4.1,g4.2.1,g4.2.2.1,g4.2.2.2]
  case refine_2=>
   (with_reducible refine Af (w1:=w'.alloc (.cells #[.int .u8 100,.int .u8 108,.int .u8 101,.int .u8 113] 5)) (v:=.slice (some ⟨w'.heap.size,0,none⟩) 4 4) ?_ ?_ ?_)
   .simp only[Region.wanted]
   .simp[execOp,Act.eval,go_sem]
   .have hbl:Below w'.heap.size w' (w'.alloc (.cells #[.int .u8 100,.int .u8 108,.int .u8 101,.int .u8 113] 5)):=Bw;exact⟨KC.of hbl (HSB.out hbx'),Wj w' (HSB.out hbx'),hbx'.trans (KC.of hbl (HSB.out hbx'))⟩
  case refine_3=>
   have hx1:∃g,sp 1=.slice (some ⟨g,0,none⟩) 4 4/\w'.shape? g=some (5,4)/\Aq w' ⟨some ⟨g,0,none⟩,4,4,Kz⟩/\(w.heap.size+1+1)<=g:=(hdp 1 (mq (by kernel_rfl))).2
   (with_reducible refine Aw hx1 fun g e10=>?_)
   have h1:=e10.1;have h7:=run_mark (w:=w') (n:=4) (c:=4) e10.2.1
   (with_reducible refine Af (w1:=w'.freeze ⟨g,4,none⟩ 1) (v:=.slice (some ⟨g,0,none⟩) 4 4) ?_ ?_ ?_)
   .simp only[Region.wanted]
   .simp[execOp,Act.eval,Act.put,go_sem,h1,h7]
   .have hkc:=KC.mark (w:=w') (g:=g) (B:=(w.heap.size+1+1)) 4 e10.2.2.2;exact⟨hkc,⟨g,rfl,hkc.shape _ _ e10.2.1,e10.2.2.1.kc hkc,e10.2.2.2⟩,hbx'.trans hkc⟩
  case refine_6=>
   have g4:=(cells4 (HCX.out.below hbx'.bel (Nat.lt_succ_self _)).at_).1
   with_reducible refine Ad ?_ ?_
   all_goals simp[Region.wanted,yielded,execOp,Act.eval,Act.put,go_sem,g4.1]
  case refine_7=>
   (with_reducible refine Ac (w1:=w') (f := 110) (args:=#[.agg #[.slice p0 n0 c0,.slice p1 n1 c1,.slice p2 n2 c2,.slice p3 n3 c3],.slice xa.1 xa.2.1 xa.2.2]) ?_ ?_ ?_)
   .simp[Region.wanted,yielded,Act.put,go_sem]
   .simp[Act.eval,Act.put,go_sem]
   .refine(qT (HV.out.below (hWA.out hbx')) (HCA.out.below (hWA.out hbx')) HPl.out HSZ.out HSs.out HLM.out.1).mono ?_;rintro en w9 ⟨u,rfl,hu,hb⟩;exact⟨u,rfl,KC.of hb (HSB.out hbx'),hu,hbx'.trans (KC.of hb (HSB.out hbx'))⟩
  case refine_10=>
   have g4:=(cells4 (HCX.out.below hbx'.bel (Nat.lt_succ_self _)).at_).1
   with_reducible refine Ad ?_ ?_
   all_goals simp[Region.wanted,yielded,execOp,Act.eval,Act.put,go_sem,g4.2.1]
  case refine_11=>
   (with_reducible refine Ac (w1:=w') (f := 110) (args:=#[.agg #[.slice p0 n0 c0,.slice p1 n1 c1,.slice p2 n2 c2,.slice p3 n3 c3],.slice xb.1 xb.2.1 xb.2.2]) ?_ ?_ ?_)
   .simp[Region.wanted,yielded,Act.put,go_sem]
   .simp[Act.eval,Act.put,go_sem]
   .refine(qT (HV.out.below (hWA.out hbx')) (HCB.out.below (hWA.out hbx')) HPl.out HSZ.out HSs.out HLM.out.2.1).mono ?_;rintro en w9 ⟨u,rfl,hu,hb⟩;exact⟨u,rfl,KC.of hb (HSB.out hbx'),hu,hbx'.trans (KC.of hb (HSB.out hbx'))⟩
  case refine_14=>
   have g4:=(cells4 (HCX.out.below hbx'.bel (Nat.lt_succ_self _)).at_).1
   with_reducible refine Ad ?_ ?_
   all_goals simp[Region.wanted,yielded,execOp,Act.eval,Act.put,go_sem,g4.2.2.1]
  case refine_15=>
   (with_reducible refine Ac (w1:=w') (f := 110) (args:=#[.agg #[.slice p0 n0 c0,.slice p1 n1 c1,.slice p2 n2 c2,.slice p3 n3 c3],.slice xy.1 xy.2.1 xy.2.2]) ?_ ?_ ?_)
   .simp[Region.wanted,yielded,Act.put,go_sem]
   .simp[Act.eval,Act.put,go_sem]
   .refine(qT (HV.out.below (hWA.out hbx')) (HCY.out.below (hWA.out hbx')) HPl.out HSZ.out HSs.out HLM.out.2.2.1).mono ?_;rintro en w9 ⟨u,rfl,hu,hb⟩;exact⟨u,rfl,KC.of hb (HSB.out hbx'),hu,hbx'.trans (KC.of hb (HSB.out hbx'))⟩
  case refine_18=>
   have g4:=(cells4 (HCX.out.below hbx'.bel (Nat.lt_succ_self _)).at_).1
   with_reducible refine Ad ?_ ?_
   all_goals simp[Region.wanted,yielded,execOp,Act.eval,Act.put,go_sem,g4.2.2.2]
  case refine_19=>
   (with_reducible refine Ac (w1:=w') (f := 110) (args:=#[.agg #[.slice p0 n0 c0,.slice p1 n1 c1,.slice p2 n2 c2,.slice p3 n3 c3],.slice xz.1 xz.2.1 xz.2.2]) ?_ ?_ ?_)
   .simp[Region.wanted,yielded,Act.put,go_sem]
   .simp[Act.eval,Act.put,go_sem]
   .refine(qT (HV.out.below (hWA.out hbx')) (HCZ.out.below (hWA.out hbx')) HPl.out HSZ.out HSs.out HLM.out.2.2.2.1).mono ?_;rintro en w9 ⟨u,rfl,hu,hb⟩;exact⟨u,rfl,KC.of hb (HSB.out hbx'),hu,hbx'.trans (KC.of hb (HSB.out hbx'))⟩
  case refine_22=>
   (with_reducible refine Ac (w1:=w') (f := 110) (args:=#[.agg #[.slice p0 n0 c0,.slice p1 n1 c1,.slice p2 n2 c2,.slice p3 n3 c3],.slice pu nu cu]) ?_ ?_ ?_)
   .simp[Region.wanted,yielded,Act.put,go_sem]
   .simp[Act.eval,Act.put,go_sem]
   .refine(qT (HV.out.below (hWA.out hbx')) (HU.out.below (hWA.out hbx')) HPl.out HSZ.out HSs.out HLM.out.2.2.2.2.1).mono ?_;rintro en w9 ⟨u,rfl,hu,hb⟩;exact⟨u,rfl,KC.of hb (HSB.out hbx'),hu,hbx'.trans (KC.of hb (HSB.out hbx'))⟩
  case refine_25=>
   (with_reducible refine Ac (w1:=w') (f := 110) (args:=#[.agg #[.slice p0 n0 c0,.slice p1 n1 c1,.slice p2 n2 c2,.slice p3 n3 c3],.slice pv nv cv]) ?_ ?_ ?_)
   .simp[Region.wanted,yielded,Act.put,go_sem]
   .simp[Act.eval,Act.put,go_sem]
   .refine(qT (HV.out.below (hWA.out hbx')) (HVV.out.below (hWA.out hbx')) HPl.out HSZ.out HSs.out HLM.out.2.2.2.2.2).mono ?_;rintro en w9 ⟨u,rfl,hu,hb⟩;exact⟨u,rfl,KC.of hb (HSB.out hbx'),hu,hbx'.trans (KC.of hb (HSB.out hbx'))⟩
  case refine_27=>
   have hx2:∃g,sp 2=.slice (some ⟨g,0,none⟩) 4 4/\w'.shape? g=some (5,4)/\Aq w' ⟨some ⟨g,0,none⟩,4,4,Kz⟩/\(w.heap.size+1+1)<=g:=(hdp 2 (mq (by kernel_rfl))).2
   (with_reducible refine Aw hx2 fun g e20=>?_)
   have hx6:∃p c,sp 6=.slice p sz c/\Aq w' ⟨p,sz,c,As A sz⟩/\(p=none->c=0):=(hdp 6 (mq (by kernel_rfl))).2
   (with_reducible refine Aw hx6 fun p6 e60=>Aw e60 fun c6 e61=>?_)
   have hx10:∃p c,sp 10=.slice p sz c/\Aq w' ⟨p,sz,c,As B sz⟩/\(p=none->c=0):=(hdp 10 (mq (by kernel_rfl))).2
   (with_reducible refine Aw hx10 fun p10 e100=>Aw e100 fun c10 e101=>?_)
   have hx14:∃p c,sp 14=.slice p sz c/\Aq w' ⟨p,sz,c,As Y sz⟩/\(p=none->c=0):=(hdp 14 (mq (by kernel_rfl))).2
   (with_reducible refine Aw hx14 fun p14 e140=>Aw e140 fun c14 e141=>?_)
   have hx18:∃p c,sp 18=.slice p sz c/\Aq w' ⟨p,sz,c,As Z sz⟩/\(p=none->c=0):=(hdp 18 (mq (by kernel_rfl))).2
   (with_reducible refine Aw hx18 fun p18 e180=>Aw e180 fun c18 e181=>?_)
   have hx21:∃p c,sp 21=.slice p sz c/\Aq w' ⟨p,sz,c,As U sz⟩/\(p=none->c=0):=(hdp 21 (mq (by kernel_rfl))).2
   (with_reducible refine Aw hx21 fun p21 e210=>Aw e210 fun c21 e211=>?_)
   have hx24:∃p c,sp 24=.slice p sz c/\Aq w' ⟨p,sz,c,As V sz⟩/\(p=none->c=0):=(hdp 24 (mq (by kernel_rfl))).2
   (with_reducible refine Aw hx24 fun p24 e240=>Aw e240 fun c24 e241=>?_)
   have ez:=e20.1;have eA:=e61.1;have eB:=e101.1;have eY:=e141.1;have eZ:=e181.1;have eU:=e211.1;have eV:=e241.1
   (with_reducible refine Af (w1:=w'.alloc (.cells #[.slice (some ⟨g,0,none⟩) 4 4,.slice p6 sz c6,.slice p10 sz c10,.slice p14 sz c14,.slice p18 sz c18,.slice p21 sz c21,.slice p24 sz c24,.slice pm nm cm] 60)) (v:=.slice (some ⟨w'.heap.size,0,none⟩) 8 8) ?_ ?_ ?_)
   .simp only[Region.wanted]
   .simp[execOp,Act.eval,Act.put,go_sem,ez,eA,eB,eY,eZ,eU,eV]
   .have hbl:Below w'.heap.size w' (w'.alloc (.cells #[.slice (some ⟨g,0,none⟩) 4 4,.slice p6 sz c6,.slice p10 sz c10,.slice p14 sz c14,.slice p18 sz c18,.slice p21 sz c21,.slice p24 sz c24,.slice pm nm cm] 60)):=Bw;have hp:=gX w' ([⟨some ⟨g,0,none⟩,4,4,Kz⟩,⟨p6,sz,c6,As A sz⟩,⟨p10,sz,c10,As B sz⟩,⟨p14,sz,c14,As Y sz⟩,⟨p18,sz,c18,As Z sz⟩,⟨p21,sz,c21,As U sz⟩,⟨p24,sz,c24,As V sz⟩,⟨pm,nm,cm,msg⟩]:List Part) (sZ e20.2.2.1 e61.2.1 e101.2.1 e141.2.1 e181.2.1 e211.2.1 e241.2.1 (HM.out.below (hWA.out hbx'))) (show 8<=1000000 by decide);exact⟨KC.of hbl (HSB.out hbx'),⟨w'.heap.size,_,rfl,hp,sJ (fun h=>by cases h) e61.2.2 e101.2.2 e141.2.2 e181.2.2 e211.2.2 e241.2.2 HZM.out,rfl⟩,hbx'.trans (KC.of hbl (HSB.out hbx'))⟩
  case refine_28=>
   have hx26:∃(q:Nat) (L:List Part),sp 26=.slice (some ⟨q,0,none⟩) 8 8/\Br w' (some ⟨q,0,none⟩) 8 8 L/\Gs L/\L.map (·.bs)=[Kz,As A sz,As B sz,As Y sz,As Z sz,As U sz,As V sz,msg]:=(hdp 26 (mq (by kernel_rfl))).2
   (with_reducible refine Aw hx26 fun q e260=>Aw e260 fun L e261=>?_)
   have h1:=e261.1
   (with_reducible refine Ac (w1:=w') (f := 109) (args:=#[.agg #[.slice p0 n0 c0,.slice p1 n1 c1,.slice p2 n2 c2,.slice p3 n3 c3],.slice (some ⟨q,0,none⟩) 8 8]) ?_ ?_ ?_)
   .simp only[Region.wanted]
   .simp[Act.eval,Act.put,go_sem,h1]
   .refine(bF w' p0 n0 c0 p1 n1 c1 Q p2 n2 c2 p3 n3 c3 (HQB.out.below (hWA.out hbx')) HQ0.out HQl.out _ 8 8 L e261.2.1 e261.2.2.1 (by rw[e261.2.2.2];exact HMX.out)).mono ?_;rintro en w9 ⟨u,rfl,hu,hb⟩;rw[e261.2.2.2,HCH.out]at hu
    exact⟨u,rfl,KC.of hb (HSB.out hbx'),hu,hbx'.trans (KC.of hb (HSB.out hbx'))⟩
  case refine_29=>
   have k27:Ao CH (sp 27) w':=(hdp 27 (mq (by kernel_rfl))).2
   (with_reducible refine Af (w1:=w') (v:=sp 27) ?_ ?_ ?_)
   .simp[Region.wanted,yielded,Act.put,go_sem]
   .simp[execOp,Act.eval,Act.put,go_sem]
   .exact⟨KC.same _ _,k27,hbx'⟩
  all_goals ((with_reducible refine Ad ?_ ?_);all_goals first|(simp only[Region.wanted];done)|simp[Region.wanted,yielded,execOp,Act.eval,Act.put,go_sem])
 .intro sp w8 hsp hk;have HX:Aa (Ao CH (sp 28) w8):=⟨hsp 28 rfl⟩
  have HBf:Aa (Below w.heap.size w w8):=⟨HB.out.trans (hk.bel.mono (by omega))⟩
  clear hsp hk;simp only[Am,Nat.reduceAdd];generalize sp 1=y1,sp 2=y2,sp 6=y6,sp 10=y10,sp 14=y14,sp 18=y18,sp 21=y21,sp 24=y24,sp 26=y26,sp 27=y27,sp 28=y28 at *
  go_simp
  go_wp2;go_ret;exact⟨_,rfl,HX.out,HBf.out⟩
theorem Yf (i:Nat)(hi:i<3):Ak (gP i)<=16:=by
 rw[Pa i hi]
 match i,hi with
 | 0,_=>decide
 | 1,_=>decide
 | 2,_=>decide
theorem qS:∀i,i<3->gQ i<gP i
 | 0,_=>by decide
 | 1,_=>by decide
 | 2,_=>by decide
 | _+3,h=>by omega
theorem dU (i:Nat)(hi:i<3):Ak (gQ i)<=16:=Hv.2 (Nat.lt_trans (qS i hi) (Hv.1 (Yf i hi)))
theorem mU (i:Nat)(hi:i<3):2<=gQ i:=by have:=(Oz i hi).1;omega
theorem rH (i:Nat)(hi:i<3):2<=gP i:=by have:=qS i hi;have:=mU i hi;omega
theorem Bh.part {lo:Nat}{bs:List Nat}{v:Value}{w:World}(h:Bh lo bs v w)(h8:Ay bs):∃p c,v=.slice p bs.length c/\Aq w ⟨p,bs.length,c,bs⟩/\(p=none->c=0) :=
 h.elim fun p c hv hr _ hz=>⟨p,c,hv,⟨hr,h8⟩,hz⟩
def iO (w:World):World:=w.alloc (.cells #[.int .u8 109] 5 (1,2))
theorem Tu (w:World):Below w.heap.size w (iO w):=Bw
theorem Wi (w:World):Aq (iO w) ⟨some ⟨w.heap.size,0,none⟩,1,1,[109]⟩:=by
 have h1:(iO w).heap[w.heap.size]? = some (.cells #[.int .u8 109] 5 (1,2)):=by
  unfold iO;rw[heap_alloc_new]
 exact⟨Jf (bs:=[109]) h1 rfl (by decide:1<=9223372036854775807),(by decide:∀x∈[109],x<256)⟩
theorem qW:2*Ak 101=2:=by decide
theorem dI {w:World}{b P Q G H x:Nat}(hg:Ba w b P Q G H)(hx:x<18446744073709551616) :
  Calls Tryz.prog 54 #[.pointer (some ⟨b,0,none⟩),.int .u64 (x:Nat),.bool false] w fun en w'=>∃u,en=.returned u/\Fit 33 (G^x%P) u w'/\Below w.heap.size w w':=by
 have hz:=Ag.made w (.slice none 0 0);have hb0:Below w.heap.size w (w.alloc (.cells #[.slice none 0 0] 36)):=Bw;obtain⟨wa,hwa⟩:∃wa,w.alloc (.cells #[.slice none 0 0] 36)=wa:=⟨_,rfl⟩
 rw[hwa]at hz hb0
 have HZ:=Ab hz;have HB:=Ab hb0;have HG:=Ab hg;have HX:=Ab hx;obtain⟨N,hN⟩:∃N,G^x%P=N:=⟨_,rfl⟩
 have HN:=Ab hN;rw[hN];clear hz hb0 hg hx hN;go_enter Tryz.func54,Tryz.ntmps54
 go_wp2_with fail
 refine(dV (HG.out.below HB.out)).mono ?_;rintro en w1 ⟨u1,rfl,h1,hb1⟩;have HU:=Ab h1;have HB1:=Ab (Ae HB.out hb1);have HZ1:=Ab (HZ.out.below hb1 HZ.out.lt);clear h1 hb1 hwa
 go_wp2_with fail
 refine(Dv (n:=x) w1 HX.out).mono ?_;rintro en w2 ⟨u2,rfl,h2,hb2⟩;have HV:=Ab h2;have HU2:=Ab (HU.out.below hb2);have HB2:=Ab (Ae HB1.out hb2);have HZ2:=Ab (HZ1.out.below hb2 HZ1.out.lt);clear h2 hb2
 go_wp2_with fail
 refine(Kb (HG.out.below HB2.out) HU2.out HV.out (by decide) (by decide)).mono ?_;rintro en w3 ⟨_,rfl,⟨p,n,c,rfl,h3,l3⟩,hb3⟩;rw[HN.out]at h3 l3
 have hz3:=HZ2.out.below hb3 HZ2.out.lt;have fz:=hz3.free;have kz:=hz3.cell;have ks:=(hz3.set (.slice p n c)).cell;have HF:Aa (Fit 33 N (.agg #[.slice p n c]) (w3.setCell ⟨w.heap.size,0,none⟩ (.slice p n c))):=⟨Fit.of (h3.store hz3 _) l3⟩
 have HBf:Aa (Below w.heap.size w (w3.setCell ⟨w.heap.size,0,none⟩ (.slice p n c))):=⟨(Ae HB2.out hb3).setCell (Av _) _⟩
 clear h3 l3 hb3 hz3;go_wp2;exact bodyPost_ret (v:=.agg #[.slice p n c]) (by simp[results,Tryz.results54,go_sem,ks]) rfl ⟨_,rfl,HF.out,HBf.out⟩
theorem aF {w:World}{x:Nat}{g0:Value}(hx:x<18446744073709551616) :
  Calls Tryz.prog 54 #[g0,.int .u64 (x:Nat),.bool true] w fun en w'=>∃u,en=.returned u/\Fit 33 x u w'/\Below w.heap.size w w':=by
 have hz:=Ag.made w (.slice none 0 0);have hb0:Below w.heap.size w (w.alloc (.cells #[.slice none 0 0] 36)):=Bw;obtain⟨wa,hwa⟩:∃wa,w.alloc (.cells #[.slice none 0 0] 36)=wa:=⟨_,rfl⟩
 rw[hwa]at hz hb0
 have HZ:=Ab hz;have HB:=Ab hb0;have HX:=Ab hx;clear hz hb0 hx;go_enter Tryz.func54,Tryz.ntmps54
 go_wp2_with fail
 refine(Dv (n:=x) wa HX.out).mono ?_;rintro en w3 ⟨_,rfl,⟨p,n,c,rfl,h3,l3⟩,hb3⟩;have hz3:=HZ.out.below hb3 HZ.out.lt;have fz:=hz3.free;have kz:=hz3.cell;have ks:=(hz3.set (.slice p n c)).cell;have HF:Aa (Fit 33 x (.agg #[.slice p n c]) (w3.setCell ⟨w.heap.size,0,none⟩ (.slice p n c))):=⟨(Fit.of (h3.store hz3 _) l3).wide (by decide)⟩
 have HBf:Aa (Below w.heap.size w (w3.setCell ⟨w.heap.size,0,none⟩ (.slice p n c))):=⟨(Ae HB.out hb3).setCell (Av _) _⟩
 clear h3 l3 hb3 hz3 hwa;go_wp2;exact bodyPost_ret (v:=.agg #[.slice p n c]) (by simp[results,Tryz.results54,go_sem,ks]) rfl ⟨_,rfl,HF.out,HBf.out⟩
theorem sG:Cj 607 101 64:=⟨by decide,by decide,Qc 0 (by omega)⟩
theorem sF:Cj 607 101 597:=⟨by decide,by decide,iY 0 (by omega)⟩
theorem pW:Uf 607 101 64 597 (64^7%607) (597^7%607) [109] (cA 607 101 64 597 7 [109]):=pZ (by decide) (by decide) sG sF
theorem Vg (w:World)(hr:Tabs w) :
  Calls Tryz.prog 53 #[] w fun e w'=>e=.returned (.bool true)/\Below w.heap.size w w':=by
 have HG0:=Ab (Nm w 0 hr);have HT:=Ab hr;clear hr;go_enter Tryz.func53,Tryz.ntmps53
 go_wp2_with fail
 refine HG0.out.mono ?_;rintro en w1 ⟨b,rfl,hg,hb1⟩;have hg':Ba w1 b 607 101 64 597:=hg;have HG:=Ab hg';have HB1:=Ab hb1;clear hg hg' hb1 HG0
 go_wp2_with fail
 refine(dV HG.out).mono ?_;rintro en w2 ⟨x2,rfl,h2,hb2⟩;have HX2:=Ab h2;have HG2:=Ab (HG.out.below hb2);have HB2:=Ab (Ae HB1.out hb2);clear h2 hb2 HG
 go_wp2_with fail
 refine(mV HG2.out).mono ?_;rintro en w3 ⟨x3,rfl,h3,hb3⟩;have HX3:=Ab h3;have HX23:=Ab (HX2.out.below hb3);have HG3:=Ab (HG2.out.below hb3);have HB3:=Ab (Ae HB2.out hb3);clear h3 hb3 HG2 HX2
 go_wp2_with fail
 refine(Dv (n:=7) w3 (by omega)).mono ?_;rintro en w4 ⟨x4,rfl,h4,hb4⟩;have hcv:=Joins.run_convert_bytes_const_at (P:=Tryz.prog) w4 60 5 #[.int .u8 109] 1 1 w4.heap.size rfl Tryz.underlying60 Tryz.underlying5;have hbl:=Tu w4;have HP4:=Ab (Wi w4);have hb34:=Ae hb4 hbl;have HX4:=Ab (h4.below hbl);have HX24:=Ab (HX23.out.below hb34);have HX34:=Ab (HX3.out.below hb34);have HG4:=Ab (HG3.out.below hb34);have HB4:=Ab (Ae HB3.out hb34);clear h4 hb4 hbl hb34 HG3 HX23 HX3
 go_wp2_with fail
 refine Mk (w1:=iO w4) (by kernel_rfl) ?_;refine(Zw HG4.out (HT.out.below HB4.out HT.out.size) HX24.out HX34.out HX4.out (by decide) (by decide) sG sF (Yf 0 (by omega)) (dU 0 (by omega)) HP4.out (fun h=>by cases h) (by decide)).mono ?_;rintro en w5 ⟨_,_,rfl,⟨xa,xb,xy,xz,rfl,hc⟩,ho,hb5⟩;obtain⟨ps,cs,rfl,hps,_⟩:=ho.part (Ws _ _ _ _ _ _);obtain⟨SB,hSB⟩:∃S,cA 607 101 64 597 7 [109]=S:=⟨_,rfl⟩
 obtain⟨YY,hYY⟩:∃S,64^7%607=S:=⟨_,rfl⟩
 obtain⟨ZZ,hZZ⟩:∃S,597^7%607=S:=⟨_,rfl⟩
 have hl2:SB.length=2:=by rw[<-hSB,eF];exact qW
 have HOK:Aa (Uf 607 101 64 597 YY ZZ [109] SB):=⟨by rw[<-hSB,<-hYY,<-hZZ];exact pW⟩
 have hYl:YY<Au 33:=by rw[<-hYY];decide
 have hZl:ZZ<Au 33:=by rw[<-hZZ];decide
 rw[hYY,hZZ]at hc
 rw[hSB,hl2]at hps
 simp only[hSB,hl2];have hb6:Below w5.heap.size w5 (w5.alloc (.cells #[.slice xa.1 xa.2.1 xa.2.2,.slice xb.1 xb.2.1 xb.2.2,.slice xy.1 xy.2.1 xy.2.2,.slice xz.1 xz.2.1 xz.2.2] 83)):=Bw;have hx6:=Cp.made 83 w5 (.slice xa.1 xa.2.1 xa.2.2) (.slice xb.1 xb.2.1 xb.2.2) (.slice xy.1 xy.2.1 xy.2.2) (.slice xz.1 xz.2.1 xz.2.2);obtain⟨w6,hw6⟩:∃W,w5.alloc (.cells #[.slice xa.1 xa.2.1 xa.2.2,.slice xb.1 xb.2.1 xb.2.2,.slice xy.1 xy.2.1 xy.2.2,.slice xz.1 xz.2.1 xz.2.2] 83)=W:=⟨_,rfl⟩
 rw[hw6]at hb6 hx6
 have hcv:=Joins.run_convert_bytes_const_at (P:=Tryz.prog) w6 60 5 #[.int .u8 109] 1 1 w6.heap.size rfl Tryz.underlying60 Tryz.underlying5;have hbl:=Tu w6;have hb67:=Ae hb6 hbl;have hb57:=Ae hb5 hb67;have HP7:=Ab (Wi w6);have HPS:=Ab (hps.below hb67);have HCA:=Ab (hc.below hb67);have HG7:=Ab (HG4.out.below hb57);have HB7:=Ab (Ae HB4.out hb57);have HYl:=Ab hYl;have HZl:=Ab hZl;obtain⟨g0,g1,g2,g3⟩:=(cells4 hx6.at_).1;clear ho hps hb5 hSB hYY hZZ hl2 hc hYl hZl hb6 hx6 hbl hb67 hb57
 go_wp2_with fail
 refine Mk (w1:=iO w6) (by kernel_rfl) ?_;refine(Yl HG7.out (HT.out.below HB7.out HT.out.size) HCA.out (by decide) (by decide) HYl.out HZl.out (Yf 0 (by omega)) (dU 0 (by omega)) HP7.out HPS.out).mono ?_;rintro en w8 ⟨X,rfl,hX,hb8⟩;have hXt:X=true:=hX.2 HOK.out;subst hXt;have HB8:=Ab (Ae HB7.out hb8);clear hX hb8 hcv g0 g1 g2 g3;go_wp2;go_ret;exact⟨rfl,HB8.out⟩
theorem En.kt {T:TypeId}{B n c:Nat}{p:Option Addr}{xs:List Bool}{w w':World}(h:En w p n c xs)(hk:KT T B w w'):En w' p n c xs:=by
 refine⟨h.len,h.cap,h.max,?_⟩;rcases h.at_ with e|⟨b,off,h1,h2,h3⟩
 .exact .inl e
 .refine .inr ⟨b,off,h1,Dj h2 hk.k.bel.size,fun i x hx=>?_⟩;have hc:=h3 i x hx;have hblk:w'.heap[b]? = w.heap[b]? := by
   have hc2:=hc;unfold World.cell? at hc2
   dsimp only at hc2
   cases ho:w.heap[b]? with
   | none=>rw[ho]at hc2;cases hc2
   | some o=>
    rw[ho]at hc2
    cases o with
    | cells vs U m=>exact hk.blk b vs U m ho (.inr ⟨_,_,hc2,fun _ _ _ e=>by cases e⟩)
    | _=>cases hc2
  rw[World.cell?_of_block (a:=⟨b,off+i,none⟩) hblk];exact hc
theorem Nj.kt {T:TypeId}{B N:Nat}{x:Option Addr×Nat×Nat}{w w':World}(h:Nj w x N)(hk:KT T B w w'):Nj w' x N:=En.kt h hk
theorem Ao.kt {T:TypeId}{B N:Nat}{v:Value}{w w':World}(h:Ao N v w)(hk:KT T B w w'):Ao N v w':=let ⟨q,m,d,h1,h2⟩:=h;⟨q,m,d,h1,En.kt h2 hk⟩
theorem Uy.kt {T:TypeId}{C A B Y Z:Nat}{xa xb xy xz:Option Addr×Nat×Nat}{w w':World}(h:Uy A B Y Z xa xb xy xz w)(hk:KT T C w w'):Uy A B Y Z xa xb xy xz w':=⟨h.1.kt hk,h.2.1.kt hk,h.2.2.1.kt hk,h.2.2.2.kt hk⟩
def Uv (A B Y Z:Nat)(v:Value)(w:World):Prop:=∃xa xb xy xz:Option Addr×Nat×Nat,v=.agg #[.slice xa.1 xa.2.1 xa.2.2,.slice xb.1 xb.2.1 xb.2.2,.slice xy.1 xy.2.1 xy.2.2,.slice xz.1 xz.2.1 xz.2.2]/\Uy A B Y Z xa xb xy xz w
theorem Uv.kt {T:TypeId}{C A B Y Z:Nat}{v:Value}{w w':World}(h:Uv A B Y Z v w)(hk:KT T C w w'):Uv A B Y Z v w':=let ⟨a,b,y,z,h1,h2⟩:=h;⟨a,b,y,z,h1,h2.kt hk⟩
def Uw (A B Y Z:Nat)(o:Obj)(w:World):Prop:=∃xa xb xy xz:Option Addr×Nat×Nat,o=.cells #[.slice xa.1 xa.2.1 xa.2.2,.slice xb.1 xb.2.1 xb.2.2,.slice xy.1 xy.2.1 xy.2.2,.slice xz.1 xz.2.1 xz.2.2] 87 (0,0)/\Uy A B Y Z xa xb xy xz w
theorem Uw.below {A B Y Z:Nat}{o:Obj}{w w':World}(hb:Below w.heap.size w w')(h:Uw A B Y Z o w):Uw A B Y Z o w':=let ⟨a,b,y,z,h1,h2⟩:=h;⟨a,b,y,z,h1,h2.below hb⟩
open Go Go.RowKit
def four:List Nat:=[3,7,11,15]
def pp:Nat:=2^130-5
theorem Op {w:World}{g n:Nat}{xs:List Nat}(hx:Bl w g 5 .u8 xs)(hl:n=xs.length){p:Option Addr}{m c:Nat}{bs:List Nat}(hr:Bd w .u8 p m c bs)(hm:0<m)(hmax:n+m<=140737488355328)(ty:TypeId){C:Prop}(k:∀v' w',(Builtin.append_ #[60, 60] ty #[.slice (some ⟨g,0,none⟩) n n,.slice p m c]).run Tryz.prog w=.ok v' w'->Own w' w.heap.size v' (xs++bs)->Below w.heap.size w w'->C):C:=by
 obtain⟨i,hi,hz,hs,hb⟩:=info_parts Tryz.info_u8;have hbl:=hr.len;obtain⟨b,off,e,h2,h3⟩:=(hr.row hm).pos hm;subst e;obtain⟨v',w',h1,h4,h5⟩:=run_append_arg_grows (P:=Tryz.prog) w 60 ty 5 i (.int .u8 0) 1 1 Tryz.underlying60 hi hz hs hb rfl (by decide) ⟨g,0,none⟩ n n (xs.map fun(x:Nat)=>Value.int .u8 (x:Int)) (by simp[hl])
  (fun j u hu=>by
   rw[List.getElem?_map]at hu
   obtain⟨x,hx',rfl⟩:=Option.map_eq_some_iff.1 hu;rw[add_plain,Nat.zero_add];exact hx.cell hx')
  ⟨b,off,none⟩ m c (bs.map fun(x:Nat)=>Value.int .u8 (x:Int)) (by simp[hbl])
  (fun j u hu=>by
   rw[List.getElem?_map]at hu
   obtain⟨x,hx,rfl⟩:=Option.map_eq_some_iff.1 hu;rw[add_plain];exact h3 j x hx) (by omega) (by simp only[maxLen];omega) (by omega)
 refine k v' w' h1 ⟨?_⟩ ⟨h5.os,h5.tape,h5.output,h5.size,fun k hk=>h5.block k hk (by simp)⟩;rw[List.length_append,List.map_append,<-hl,<-hbl];exact h4
theorem jO {w:World}{q:Option Addr}{m d N:Nat}(h:Bj w q m d N):m=0 ↔ N=0:=by
 rw[Dk h];exact⟨fun h0=>by have:=(Bi N 0).1 (by omega);simpa using this,fun h0=>by subst h0;decide⟩
def lR (raw:Bool)(P G x:Nat):Nat:=if raw then x else G^x%P
theorem Rb {w:World}{b P Q G H x:Nat}(raw:Bool)(hg:Ba w b P Q G H)(hx:x<18446744073709551616) :
  Calls Tryz.prog 54 #[.pointer (some ⟨b,0,none⟩),.int .u64 (x:Nat),.bool raw] w fun en w'=>∃u,en=.returned u/\Fit 33 (lR raw P G x) u w'/\Below w.heap.size w w':=by
 cases raw with
 | true=>exact aF hx
 | false=>exact dI hg hx
end Go.Proofs.YthgoeiegdhphjaaGreatDoor
