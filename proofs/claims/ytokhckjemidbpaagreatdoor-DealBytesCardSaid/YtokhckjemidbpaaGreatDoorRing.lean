/- A ring: what is left, sums, differences, products; the document's. -/
import Derived.Test.YtokhckjemidbpaaGreatDoorGcdA
set_option maxRecDepth 1000000
set_option maxHeartbeats 16000000
set_option linter.all false
namespace Go.Proofs.YtokhckjemidbpaaGreatDoor
open Go Go.RowKit Go.Proofs.YtokhckjemidbpaaGreatDoor.Flow
theorem Az {w:World}{v u:Value}{e f N M:Nat}{K:Int}(h:Fit e N v w)(k:Fit f M u w)(he:e<=900000)(hf:f<=900000)(hK:Bp N M=K) :
  Calls Tryz.prog 24 #[v,u] w fun en w'=>∃x,en=.returned x/\x=.int .i64 K/\Below w.heap.size w w':=by
 subst hK;exact Sv h k he hf
theorem Ea {w:World}{v:Value}{e N:Nat}{t:Bool}(h:Fit e N v w)(hz:decide (N=0)=t) :
  Calls Tryz.prog 21 #[v] w fun en w'=>∃x,en=.returned x/\x=.bool t/\Below w.heap.size w w':=by
 subst hz;exact Ti h
def Js (x y:Nat)(v:Value)(w:World):Prop:=∃p n c q m d,v=.tuple #[.agg #[.slice p n c],.agg #[.slice q m d],.int .i64 0]/\Ah w p n c x/\Ah w q m d y
def Cn (x:Nat)(v:Value)(w:World):Prop:=∃p n c,v=.agg #[.slice p n c]/\Ah w p n c x
theorem Js.keep {x y B:Nat}{v:Value}{w w':World}(h:Js x y v w)(k:Ap B w w'):Js x y v w' :=
 let ⟨p,n,c,q,m,d,h1,h2,h3⟩:=h
 ⟨p,n,c,q,m,d,h1,k.nat _ _ _ _ h2,k.nat _ _ _ _ h3⟩
theorem Cn.keep {x B:Nat}{v:Value}{w w':World}(h:Cn x v w)(k:Ap B w w'):Cn x v w' :=
 let ⟨p,n,c,h1,h2⟩:=h
 ⟨p,n,c,h1,k.nat _ _ _ _ h2⟩
theorem Ap.same (B:Nat)(w:World):Ap B w w:=⟨Bd _ _,fun _ _ _ _ k=>k⟩
structure RingAt (w:World) (r M:Nat):Prop where
 ex:∃p n c,w.heap[r]? = some (.cells #[.slice p n c] 156 (0,0))/\Ah w p n c M/\n<800000
theorem RingAt.lt {w:World}{r M:Nat}(h:RingAt w r M):r<w.heap.size:=by
 obtain⟨p,n,c,h1,_⟩:=h.ex;exact(Ik h1).1
theorem RingAt.below {w w':World}{r M:Nat}(h:RingAt w r M)(hb:Below w.heap.size w w'):RingAt w' r M:=by
 have hl:=h.lt;obtain⟨p,n,c,h1,h2,h3⟩:=h.ex;exact⟨p,n,c,by rw[hb.block r hl];exact h1,h2.below hb,h3⟩
theorem Mj {w:World}{r:Nat}{u:Value}(h:w.heap[r]? = some (.cells #[u] 156 (0,0))):w.cell? ⟨r,0,none⟩=some u:=by
 simp[World.cell?,h]
def gX (N:Nat)(w:World)(e:Ending)(w':World):Prop:=∃p n c,e=.returned (.agg #[.slice p n c])/\Ah w' p n c N/\Below w.heap.size w w'
theorem Va {w:World}{v u:Value}{e f x y:Nat}(h:Fit e x v w)(k:Fit f y u w)(hy:y≠0)(he:e<=800000)(hf:f<=800000) :
  Calls Tryz.prog 93 #[v,u] w fun en w'=>∃z,en=.returned z/\Js (x/y) (x%y) z w'/\Below w.heap.size w w':=by
 refine(Sr h k he hf).mono ?_;rintro en w' ⟨z,rfl,⟨q,r,rfl,⟨p1,n1,c1,rfl,g1,_⟩,⟨p2,n2,c2,rfl,g2,_⟩⟩,hb⟩;rw[if_neg hy]at g2
 rw[if_neg hy];exact⟨_,rfl,⟨_,_,_,_,_,_,rfl,g1,g2⟩,hb⟩
theorem Za (w:World)(r M:Nat)(pa:Option Addr)(na ca N e f:Nat)(hR:RingAt w r M)(hM:M≠0)(hMf:M<Al f)(hA:Ah w pa na ca N)(hN:N<Al e)(he:e<=800000)(hf:f<=800000) :
  Calls Tryz.prog 31 #[.pointer (some ⟨r,0,none⟩),.agg #[.slice pa na ca]] w (gX (N%M) w):=by
 have hrl:=hR.lt;obtain⟨pm,nm,cm,hm1,hm2,_⟩:=hR.ex;have hFA:Fit e N (.agg #[.slice pa na ca]) w:=Fit.of hA hN;have hFM:Fit f M (.agg #[.slice pm nm cm]) w:=Fit.of hm2 hMf;have HM:=Af hM;have HR:=Af hm1;obtain⟨B0,hB0⟩:∃B0,w.heap.size+2=B0:=⟨_,rfl⟩
 have hbx:=Fk.mk2 w (.slice pa na ca) (.slice none 0 0) 37 37;have hnb:Ae ((w.alloc (.cells #[.slice pa na ca] 37)).alloc (.cells #[.slice none 0 0] 37)) (w.heap.size+1) (.slice none 0 0):=by
  have:=Ae.made (w.alloc (.cells #[.slice pa na ca] 37)) (.slice none 0 0);simpa using this
 have HB0:=Af hB0;have hB0':w.heap.size+2<=B0:=Nat.le_of_eq hB0;clear hB0 hM hm1 hR;go_enter Tryz.func31,Tryz.ntmps31;go_wp2;refine Am (by kernel_rfl) (by kernel_rfl)
  [some (.agg #[.slice pa na ca]),some (.pointer (some ⟨r,0,none⟩)),some (.pointer (some ⟨r,0,none⟩)),some (.pointer (some ⟨r,0,none⟩)),some (.agg #[.slice pm nm cm]),none,none,none,none,some (.int .i64 0),none,none,none,none,some (.int .i64 0)]
  [false,false,false,false,false,true,true,true,true,false,true,true,true,true,false] rfl
  (fun w1 w2=>Ap B0 w1 w2)
  (fun D sp w'=>(Fk w w' (.slice pa na ca) (.slice none 0 0)/\Ae w' (w.heap.size+1) (.slice none 0 0))/\Fq B0 (N/M) (N%M) (D 10) (D 11) (D 12) (D 13) (sp 10) (sp 11) w')
  (fun i v w'=>match i with
   | 5|6=>Js (N/M) (N%M) v w'
   | 7=>Cn (N/M) v w'
   | 8=>Cn (N%M) v w'
   | _=>True)
  ?_ ⟨⟨hbx.below (Bd _ _).drew (Av _),hnb⟩,Fq.start (by simpa using Nat.le_of_eq HB0.out.symm)⟩ ?_ ?_
 .intro i v w1 w2 hf hb;split at hf
  .exact Js.keep hf hb
  .exact Js.keep hf hb
  .exact Cn.keep hf hb
  .exact Cn.keep hf hb
  .trivial
 .simp only[Bg,Nat.reduceAdd];refine⟨?_,?_,?_,?_,?_,?_,?_,?_,?_,?_,?_,?_,?_,?_,?_,trivial⟩
  case refine_6=>
   intro D sp w' hD hW hdp ⟨hbx',hg⟩
   (with_reducible refine Ad (w1:=w') (f := 93) (args:=#[.agg #[.slice pa na ca],.agg #[.slice pm nm cm]]) ?_ ?_ ?_)
   .simp only[Region.wanted]
   .simp[Act.eval,Act.put,go_sem]
   .refine(Va (hFA.below hbx'.1.bel) (hFM.below hbx'.1.bel) HM.out he hf).mono ?_;rintro e w5 ⟨u,rfl,hu,hb⟩;exact⟨u,rfl,Ap.of hb hg.size,hu,⟨hbx'.1.later hb,hbx'.2.below hb hbx'.2.lt⟩,by simpa [upd]using hg.later hb⟩
  case refine_7=>
   intro D sp w' hD hW hdp ⟨hbx',hg⟩;have k4:Js (N/M) (N%M) (sp 5) w':=(hdp 5 (mq (by kernel_rfl))).2
   (with_reducible refine Ai (w1:=w') (v:=sp 5) ?_ ?_ ?_)
   .simp only[Region.wanted]
   .simp[execOp,Act.eval,Act.put,go_sem]
   .exact⟨Ap.same _ _,k4,hbx',by simpa [upd]using hg⟩
  case refine_8=>
   intro D sp w' hD hW hdp ⟨hbx',hg⟩;have hx:∃p n c q m d,sp 6=.tuple #[.agg #[.slice p n c],.agg #[.slice q m d],.int .i64 0]/\Ah w' p n c (N/M)/\Ah w' q m d (N%M):=(hdp 6 (mq (by kernel_rfl))).2
   (with_reducible refine Bc hx fun p hx1=>Bc hx1 fun n hx2=>Bc hx2 fun c hx3=>Bc hx3 fun q hx4=>Bc hx4 fun m hx5=>Bc hx5 fun d hx6=>?_)
   have h1:=hx6.1
   (with_reducible refine Ai (w1:=w') (v:=.agg #[.slice p n c]) ?_ ?_ ?_)
   .simp only[Region.wanted]
   .simp[execOp,Act.eval,Act.put,go_sem,h1]
   .exact⟨Ap.same _ _,⟨p,n,c,rfl,hx6.2.1⟩,hbx',by simpa [upd]using hg⟩
  case refine_9=>
   intro D sp w' hD hW hdp ⟨hbx',hg⟩;have hx:∃p n c q m d,sp 6=.tuple #[.agg #[.slice p n c],.agg #[.slice q m d],.int .i64 0]/\Ah w' p n c (N/M)/\Ah w' q m d (N%M):=(hdp 6 (mq (by kernel_rfl))).2
   (with_reducible refine Bc hx fun p hx1=>Bc hx1 fun n hx2=>Bc hx2 fun c hx3=>Bc hx3 fun q hx4=>Bc hx4 fun m hx5=>Bc hx5 fun d hx6=>?_)
   have h1:=hx6.1
   (with_reducible refine Ai (w1:=w') (v:=.agg #[.slice q m d]) ?_ ?_ ?_)
   .simp only[Region.wanted]
   .simp[execOp,Act.eval,Act.put,go_sem,h1]
   .exact⟨Ap.same _ _,⟨q,m,d,rfl,hx6.2.2⟩,hbx',by simpa [upd]using hg⟩
  case refine_10=>
   intro D sp w' hD hW hdp ⟨hbx',hg⟩;have hx:∃p n c q m d,sp 6=.tuple #[.agg #[.slice p n c],.agg #[.slice q m d],.int .i64 0]/\Ah w' p n c (N/M)/\Ah w' q m d (N%M):=(hdp 6 (mq (by kernel_rfl))).2
   (with_reducible refine Bc hx fun p hx1=>Bc hx1 fun n hx2=>Bc hx2 fun c hx3=>Bc hx3 fun q hx4=>Bc hx4 fun m hx5=>Bc hx5 fun d hx6=>?_)
   have h1:=hx6.1;simp[asked,Region.wanted,Oper.gives,execOp,Act.eval,Act.put,go_sem,h1]
  case refine_11=>
   intro D sp w' hD hW hdp ⟨hbx',hg⟩;have h9:D 12=false:=hW 12 (mq (by kernel_rfl));rw[hD,h9]at hg
   (with_reducible refine Ai (w1:=w'.alloc (.cells #[.slice none 0 0] 37)) (v:=.pointer (some ⟨w'.heap.size,0,none⟩)) ?_ ?_ ?_)
   .simp only[Region.wanted]
   .simp[execOp,go_sem]
   .have hb:Below w'.heap.size w' (w'.alloc (.cells #[.slice none 0 0] 37)):=By;refine⟨Ap.of hb hg.size,trivial,⟨hbx'.1.later hb,hbx'.2.below hb hbx'.2.lt⟩,?_⟩;have h8:=hg.alloc1;simpa [upd,h9]using h8
  case refine_12=>
   intro D sp w' hD hW hdp ⟨hbx',hg⟩;have h9:D 13=false:=hW 13 (mq (by kernel_rfl));rw[hD,h9]at hg
   (with_reducible refine Ai (w1:=w'.alloc (.cells #[.slice none 0 0] 37)) (v:=.pointer (some ⟨w'.heap.size,0,none⟩)) ?_ ?_ ?_)
   .simp only[Region.wanted]
   .simp[execOp,go_sem]
   .have hb:Below w'.heap.size w' (w'.alloc (.cells #[.slice none 0 0] 37)):=By;refine⟨Ap.of hb hg.size,trivial,⟨hbx'.1.later hb,hbx'.2.below hb hbx'.2.lt⟩,?_⟩;have h8:=hg.alloc2;simpa [upd,h9]using h8
  case refine_13=>
   intro D sp w' hD hW hdp ⟨hbx',hg⟩;have hx:∃p n c,sp 7=.agg #[.slice p n c]/\Ah w' p n c (N/M):=(hdp 7 (mq (by kernel_rfl))).2;have h9:=(hdp 10 (mq (by kernel_rfl))).1;rw[h9]at hg
   (with_reducible refine Bc hx fun p hx1=>Bc hx1 fun n hx2=>Bc hx2 fun c hx3=>Bc (hg.store1 hx3.2) fun b hy1=>Bc hy1 fun q hy2=>Bc hy2 fun m hy3=>Bc hy3 fun d hy4=>?_)
   have h1:=hx3.1;have h3:=hy4.1;have h4:=hy4.2.1;have h5:=hy4.2.2.1;have h6:=h5.cell;have h7:=h5.free
   (with_reducible refine Aq (w1:=w'.setCell ⟨b,0,none⟩ (.slice p n c)) ?_ ?_ ?_)
   .simp only[Region.wanted]
   .simp[execOp,Act.eval,Act.put,go_sem,h1,h3,h6,h7]
   .refine⟨Ap.store h5 h4 _,trivial,⟨hbx'.1.below (B:=B0) ((Bd _ _).setCell h4 _) hB0',hbx'.2.other (by omega) _⟩,?_⟩;have h8:=hy4.2.2.2;simpa [upd,h9]using h8
  case refine_14=>
   intro D sp w' hD hW hdp ⟨hbx',hg⟩;have hx:∃p n c,sp 8=.agg #[.slice p n c]/\Ah w' p n c (N%M):=(hdp 8 (mq (by kernel_rfl))).2;have h9:=(hdp 11 (mq (by kernel_rfl))).1;rw[h9]at hg
   (with_reducible refine Bc hx fun p hx1=>Bc hx1 fun n hx2=>Bc hx2 fun c hx3=>Bc (hg.store2 hx3.2) fun b hy1=>Bc hy1 fun q hy2=>Bc hy2 fun m hy3=>Bc hy3 fun d hy4=>?_)
   have h1:=hx3.1;have h3:=hy4.1;have h4:=hy4.2.1;have h5:=hy4.2.2.1;have h6:=h5.cell;have h7:=h5.free
   (with_reducible refine Aq (w1:=w'.setCell ⟨b,0,none⟩ (.slice p n c)) ?_ ?_ ?_)
   .simp only[Region.wanted]
   .simp[execOp,Act.eval,Act.put,go_sem,h1,h3,h6,h7]
   .refine⟨Ap.store h5 h4 _,trivial,⟨hbx'.1.below (B:=B0) ((Bd _ _).setCell h4 _) hB0',hbx'.2.other (by omega) _⟩,?_⟩;have h8:=hy4.2.2.2;simpa [upd,h9]using h8
  all_goals
   intro D sp w' hD hW hdp ⟨hbx',hg⟩;have c0:=hbx'.1.c0;have c1:w'.cell? ⟨r,0,none⟩=some (.slice pm nm cm):=by rw[(Cd hbx'.1.bel).1 _ _ hrl];exact Mj HR.out
   simp[asked,Region.wanted,Oper.gives,execOp,Act.eval,Act.put,go_sem,c0,c1]
 .intro sp w7 hsp ⟨⟨hbx2,hbn⟩,hg⟩;obtain⟨b2,e2,hb2,pr,nr,cr,n2,hR1⟩:=hg.two rfl;replace hR1:=hR1 rfl;have n2c:=n2.cell;have hne:b2≠w.heap.size+1:=by omega
  clear hsp hg;simp only[Ak,Nat.reduceAdd];rw[e2];clear e2;generalize sp 5=u5,sp 6=u6,sp 7=u7,sp 8=u8,sp 10=u10,sp 12=u12,sp 13=u13 at *
  go_simp
  have d1:=hbx2.c1;have f1:=hbx2.f1;go_wp2;refine bodyPost_ret (v:=.agg #[.slice pr nr cr]) (by simp[results,Tryz.results31,go_sem,d1]) rfl ⟨pr,nr,cr,rfl,hR1.store hbn _,hbx2.bel.setCell (by simp) _⟩
structure bF (w wr:World) (u0 u1 u2:Value):Prop where
 b0:Ae wr w.heap.size u0
 b1:Ae wr (w.heap.size+1) u1
 b2:Ae wr (w.heap.size+1+1) u2
 bel:Below w.heap.size w wr
theorem bF.later {w wr w1:World}{u0 u1 u2:Value}(h:bF w wr u0 u1 u2)(hb:Below wr.heap.size wr w1):bF w w1 u0 u1 u2 :=
 ⟨h.b0.below hb h.b0.lt,h.b1.below hb h.b1.lt,h.b2.below hb h.b2.lt,Ab h.bel hb⟩
theorem bF.mk3 (w:World)(u0 u1 u2:Value) :
  bF w (((w.alloc (.cells #[u0] 37)).alloc (.cells #[u1] 37)).alloc (.cells #[u2] 37)) u0 u1 u2:=by
 refine⟨?_,?_,?_,(((Bd _ _).alloc (Av _) _).alloc (by simp) _).alloc (by simp;omega) _⟩
 .exact((Ae.made w u0).below ((Bd _ _).alloc (Av _) _) (by simp)).below ((Bd _ _).alloc (Av _) _) (by simp;omega)
 .have:=(Ae.made (w.alloc (.cells #[u0] 37)) u1).below ((Bd _ _).alloc (Av _) (.cells #[u2] 37)) (by simp);simpa using this
 .have:=Ae.made ((w.alloc (.cells #[u0] 37)).alloc (.cells #[u1] 37)) u2;simpa using this
structure dW (w wr:World) (u0 u1:Value):Prop where
 b0:Ae wr w.heap.size u0
 b1:Ae wr (w.heap.size+1) u1
 bel:Below w.heap.size w wr
theorem dW.later {w wr w1:World}{u0 u1:Value}(h:dW w wr u0 u1)(hb:Below wr.heap.size wr w1):dW w w1 u0 u1 :=
 ⟨h.b0.below hb h.b0.lt,h.b1.below hb h.b1.lt,Ab h.bel hb⟩
theorem dW.mk2 (w:World)(u0 u1:Value) :
  dW w ((w.alloc (.cells #[u0] 37)).alloc (.cells #[u1] 37)) u0 u1:=by
 refine⟨?_,?_,((Bd _ _).alloc (Av _) _).alloc (by simp) _⟩
 .exact(Ae.made w u0).below ((Bd _ _).alloc (Av _) _) (by simp)
 .have:=Ae.made (w.alloc (.cells #[u0] 37)) u1;simpa using this
structure Ring (w:World) (r M f:Nat):Prop where
 at_:RingAt w r M
 two:2<=M
 lim:M<Al f
 few:f<=10000
theorem Ring.below {w w':World}{r M f:Nat}(h:Ring w r M f)(hb:Below w.heap.size w w'):Ring w' r M f:=⟨h.at_.below hb,h.two,h.lim,h.few⟩
theorem Aw {e N:Nat}{v:Value}{w:World}(h:Fit e N v w):∃p n c,v=.agg #[.slice p n c]/\Ah w p n c N/\N<Al e:=h
theorem Eh {w:World}{r M f e N:Nat}{v:Value}(hR:Ring w r M f)(h:Fit e N v w)(he:e<=800000) :
  Calls Tryz.prog 31 #[.pointer (some ⟨r,0,none⟩),v] w fun en w'=>∃x,en=.returned x/\Fit f (N%M) x w'/\Below w.heap.size w w':=by
 obtain⟨p,n,c,rfl,h1,h2⟩:=h;refine(Za w r M p n c N e f hR.at_ (by have:=hR.two;omega) hR.lim h1 h2 he (by have:=hR.few;omega)).mono ?_;rintro en w' ⟨q,m,d,rfl,h3,hb⟩;exact⟨_,rfl,Fit.of h3 (Nat.lt_trans (Nat.mod_lt _ (by have:=hR.two;omega)) hR.lim),hb⟩
theorem Ow {w:World}{r M f e1 e2 N K:Nat}{v u:Value}(hR:Ring w r M f)(h:Fit e1 N v w)(k:Fit e2 K u w)(he1:e1<=300000)(he2:e2<=300000) :
  Calls Tryz.prog 32 #[.pointer (some ⟨r,0,none⟩),v,u] w fun en w'=>∃x,en=.returned x/\Fit f ((N+K)%M) x w'/\Below w.heap.size w w':=by
 obtain⟨pa,na,ca,rfl,h1,h2⟩:=Aw h;obtain⟨pb,nb,cb,rfl,k1,k2⟩:=Aw k;have hbx:=bF.mk3 w (.slice pa na ca) (.slice pb nb cb) (.slice none 0 0);go_enter Tryz.func32,Tryz.ntmps32
 go_wp2_with fail
 refine(Ma (h.below hbx.bel) (k.below hbx.bel) (by omega) (by omega)).mono ?_;rintro en w1 ⟨x,rfl,hx,hb⟩;replace hbx:=hbx.later hb
 go_wp2_with fail
 refine(Eh (hR.below hbx.bel) hx (by omega)).mono ?_;rintro en w2 ⟨y,rfl,hy,hb2⟩;replace hbx:=hbx.later hb2;obtain⟨pc,nc,cc,rfl,y1,y2⟩:=hy;have c2:=hbx.b2.cell;have f2:=hbx.b2.free;have z2:=hbx.b2.lt;go_wp2;exact bodyPost_ret (v:=.agg #[.slice pc nc cc]) (by simp[results,Tryz.results32,go_sem,c2]) rfl ⟨_,rfl,Fit.of (y1.store hbx.b2 _) y2,hbx.bel.setCell (by simp;omega) _⟩
theorem Fy {w:World}{r M f e1 e2 N K:Nat}{v u:Value}(hR:Ring w r M f)(h:Fit e1 N v w)(k:Fit e2 K u w)(he1:e1<=300000)(he2:e2<=300000) :
  Calls Tryz.prog 33 #[.pointer (some ⟨r,0,none⟩),v,u] w fun en w'=>∃x,en=.returned x/\Fit f ((N*K)%M) x w'/\Below w.heap.size w w':=by
 obtain⟨pa,na,ca,rfl,h1,h2⟩:=Aw h;obtain⟨pb,nb,cb,rfl,k1,k2⟩:=Aw k;have hbx:=bF.mk3 w (.slice pa na ca) (.slice pb nb cb) (.slice none 0 0);go_enter Tryz.func33,Tryz.ntmps33
 go_wp2_with fail
 refine(Ll (h.below hbx.bel) (k.below hbx.bel) (by omega) (by omega)).mono ?_;rintro en w1 ⟨x,rfl,hx,hb⟩;replace hbx:=hbx.later hb
 go_wp2_with fail
 refine(Eh (hR.below hbx.bel) hx (by omega)).mono ?_;rintro en w2 ⟨y,rfl,hy,hb2⟩;replace hbx:=hbx.later hb2;obtain⟨pc,nc,cc,rfl,y1,y2⟩:=hy;have c2:=hbx.b2.cell;have f2:=hbx.b2.free;have z2:=hbx.b2.lt;go_wp2;exact bodyPost_ret (v:=.agg #[.slice pc nc cc]) (by simp[results,Tryz.results33,go_sem,c2]) rfl ⟨_,rfl,Fit.of (y1.store hbx.b2 _) y2,hbx.bel.setCell (by simp;omega) _⟩
theorem Pm {w:World}{e N:Nat}{v:Value}(h:Fit e N v w)(he:e<=300000) :
  Calls Tryz.prog 119 #[v] w fun en w'=>∃x,en=.returned x/\Fit e N x w'/\Below w.heap.size w w':=by
 obtain⟨pa,na,ca,rfl,h1,h2⟩:=Aw h;have hbx:=dW.mk2 w (.slice pa na ca) (.slice none 0 0);have hz:∀w',Fit 0 0 (.agg #[.slice none 0 0]) w':=fun w'=>Fit.of (Ah.nil w') (by decide)
 have HZ:=Af hz;clear hz;go_enter Tryz.func119,Tryz.ntmps119
 go_wp2_with fail
 refine(Ma (h.below hbx.bel) (HZ.out _) (by omega) (by omega)).mono ?_;rintro en w1 ⟨x,rfl,hx,hb⟩;replace hbx:=hbx.later hb;obtain⟨pc,nc,cc,rfl,y1,_⟩:=hx;have c1:=hbx.b1.cell;have f1:=hbx.b1.free;have z1:=hbx.b1.lt;go_wp2;exact bodyPost_ret (v:=.agg #[.slice pc nc cc]) (by simp[results,Tryz.results119,go_sem,c1]) rfl ⟨_,rfl,Fit.of (y1.store hbx.b1 _) h2,hbx.bel.setCell (by simp) _⟩
theorem Dj {w:World}{r M f:Nat}(hR:Ring w r M f) :
  Calls Tryz.prog 57 #[.pointer (some ⟨r,0,none⟩)] w fun en w'=>∃x,en=.returned x/\Fit f M x w'/\Below w.heap.size w w':=by
 have hrl:=hR.at_.lt
 have hfew:=hR.few;obtain⟨pm,nm,cm,hm1,hm2,_⟩:=hR.at_.ex
 have hFM:Fit f M (.agg #[.slice pm nm cm]) w:=Fit.of hm2 hR.lim;have hrc:=Mj hm1;have hb1:=Ae.made w (.slice none 0 0);have hbel:Below w.heap.size w (w.alloc (.cells #[.slice none 0 0] 37)):=By;have hne:r≠w.heap.size:=by omega
 clear hm1;go_enter Tryz.func57,Tryz.ntmps57
 go_wp2_with fail
 refine(Pm (hFM.below hbel) (by omega)).mono ?_;rintro en w1 ⟨x,rfl,hx,hb⟩;obtain⟨pc,nc,cc,rfl,y1,y2⟩:=hx;have hbn:=hb1.below hb hb1.lt;have c1:=hbn.cell;have f1:=hbn.free;have z1:=hbn.lt;go_wp2;exact bodyPost_ret (v:=.agg #[.slice pc nc cc]) (by simp[results,Tryz.results57,go_sem,c1]) rfl ⟨_,rfl,Fit.of (y1.store hbn _) y2,(Ab hbel hb).setCell (by simp) _⟩
def Eu (x:Nat)(v:Value)(w:World):Prop:=∃p n c,v=.tuple #[.agg #[.slice p n c],.bool true]/\Ah w p n c x
theorem Eu.keep {x B:Nat}{v:Value}{w w':World}(h:Eu x v w)(k:Ap B w w'):Eu x v w' :=
 let ⟨p,n,c,h1,h2⟩:=h
 ⟨p,n,c,h1,k.nat _ _ _ _ h2⟩
theorem Qx {w:World}{v u:Value}{e f N K:Nat}(h:Fit e N v w)(k:Fit f K u w)(hle:K<=N)(he:e<=800000)(hf:f<=800000) :
  Calls Tryz.prog 113 #[v,u] w fun en w'=>∃z,en=.returned z/\Eu (N-K) z w'/\Below w.heap.size w w':=by
 refine(Rt h k (by omega) (by omega)).mono ?_;rintro en w' ⟨x,rfl,⟨p,n,c,rfl,h1,_⟩,hb⟩;rw[decide_eq_true hle];exact⟨_,rfl,⟨p,n,c,rfl,h1⟩,hb⟩
theorem Ui {w:World}{r M f e K:Nat}{v:Value}(hR:Ring w r M f)(h:Fit e K v w)(hle:K<=M)(he:e<=300000) :
  Calls Tryz.prog 112 #[.pointer (some ⟨r,0,none⟩),v] w fun en w'=>∃x,en=.returned x/\Fit f (M-K) x w'/\Below w.heap.size w w':=by
 have hrl:=hR.at_.lt
 have hfew:=hR.few;obtain⟨pm,nm,cm,hm1,hm2,_⟩:=hR.at_.ex
 obtain⟨pa,na,ca,rfl,h1,h2⟩:=Aw h;have hFM:Fit f M (.agg #[.slice pm nm cm]) w:=Fit.of hm2 hR.lim;have hlim:Hid (M-K<Al f):=Af (by have:=hR.lim;omega);have HR:=Af hm1;have HLE:=Af hle;have hbx:=dW.mk2 w (.slice pa na ca) (.slice none 0 0);obtain⟨B0,hB0⟩:∃B0,w.heap.size+2=B0:=⟨_,rfl⟩
 have HB0:=Af hB0;have hB0':w.heap.size+2<=B0:=Nat.le_of_eq hB0;clear hB0 hm1 hle;go_enter Tryz.func112,Tryz.ntmps112;go_wp2;refine Am (by kernel_rfl) (by kernel_rfl)
  [some (.pointer (some ⟨r,0,none⟩)),some (.pointer (some ⟨r,0,none⟩)),some (.pointer (some ⟨r,0,none⟩)),some (.agg #[.slice pm nm cm]),some (.agg #[.slice pa na ca]),none,none,none,some (.bool true),none,none,some (.bool true)]
  [false,false,false,false,false,true,true,true,false,true,true,false] rfl
  (fun w1 w2=>Ap B0 w1 w2)
  (fun D sp w'=>dW w w' (.slice pa na ca) (.slice none 0 0)/\Fq B0 (M-K) 0 (D 9) false (D 10) false (sp 9) undef w')
  (fun i v w'=>match i with
   | 5|6=>Eu (M-K) v w'
   | 7=>Cn (M-K) v w'
   | _=>True)
  ?_ ⟨hbx.later ((Bd _ _).drew),Fq.start (by simpa using Nat.le_of_eq HB0.out.symm)⟩ ?_ ?_
 .intro i v w1 w2 hf hb;split at hf
  .exact Eu.keep hf hb
  .exact Eu.keep hf hb
  .exact Cn.keep hf hb
  .trivial
 .simp only[Bg,Nat.reduceAdd];refine⟨?_,?_,?_,?_,?_,?_,?_,?_,?_,?_,?_,?_,trivial⟩
  case refine_6=>
   intro D sp w' hD hW hdp ⟨hbx',hg⟩
   (with_reducible refine Ad (w1:=w') (f := 113) (args:=#[.agg #[.slice pm nm cm],.agg #[.slice pa na ca]]) ?_ ?_ ?_)
   .simp only[Region.wanted]
   .simp[Act.eval,Act.put,go_sem]
   .refine(Qx (hFM.below hbx'.bel) (h.below hbx'.bel) HLE.out (by omega) (by omega)).mono ?_;rintro e w5 ⟨u,rfl,hu,hb⟩;exact⟨u,rfl,Ap.of hb hg.size,hu,hbx'.later hb,by simpa [upd]using hg.later hb⟩
  case refine_7=>
   intro D sp w' hD hW hdp ⟨hbx',hg⟩;have k4:Eu (M-K) (sp 5) w':=(hdp 5 (mq (by kernel_rfl))).2
   (with_reducible refine Ai (w1:=w') (v:=sp 5) ?_ ?_ ?_)
   .simp only[Region.wanted]
   .simp[execOp,Act.eval,Act.put,go_sem]
   .exact⟨Ap.same _ _,k4,hbx',by simpa [upd]using hg⟩
  case refine_8=>
   intro D sp w' hD hW hdp ⟨hbx',hg⟩;have hx:∃p n c,sp 6=.tuple #[.agg #[.slice p n c],.bool true]/\Ah w' p n c (M-K):=(hdp 6 (mq (by kernel_rfl))).2
   (with_reducible refine Bc hx fun p hx1=>Bc hx1 fun n hx2=>Bc hx2 fun c hx3=>?_)
   have h1:=hx3.1
   (with_reducible refine Ai (w1:=w') (v:=.agg #[.slice p n c]) ?_ ?_ ?_)
   .simp only[Region.wanted]
   .simp[execOp,Act.eval,Act.put,go_sem,h1]
   .exact⟨Ap.same _ _,⟨p,n,c,rfl,hx3.2⟩,hbx',by simpa [upd]using hg⟩
  case refine_9=>
   intro D sp w' hD hW hdp ⟨hbx',hg⟩;have hx:∃p n c,sp 6=.tuple #[.agg #[.slice p n c],.bool true]/\Ah w' p n c (M-K):=(hdp 6 (mq (by kernel_rfl))).2
   (with_reducible refine Bc hx fun p hx1=>Bc hx1 fun n hx2=>Bc hx2 fun c hx3=>?_)
   have h1:=hx3.1;simp[asked,Region.wanted,Oper.gives,execOp,Act.eval,Act.put,go_sem,h1]
  case refine_10=>
   intro D sp w' hD hW hdp ⟨hbx',hg⟩;have h9:D 10=false:=hW 10 (mq (by kernel_rfl));rw[hD,h9]at hg
   (with_reducible refine Ai (w1:=w'.alloc (.cells #[.slice none 0 0] 37)) (v:=.pointer (some ⟨w'.heap.size,0,none⟩)) ?_ ?_ ?_)
   .simp only[Region.wanted]
   .simp[execOp,go_sem]
   .have hb:Below w'.heap.size w' (w'.alloc (.cells #[.slice none 0 0] 37)):=By;refine⟨Ap.of hb hg.size,trivial,hbx'.later hb,?_⟩;have h8:=hg.alloc1;simpa [upd,h9]using h8
  case refine_11=>
   intro D sp w' hD hW hdp ⟨hbx',hg⟩;have hx:∃p n c,sp 7=.agg #[.slice p n c]/\Ah w' p n c (M-K):=(hdp 7 (mq (by kernel_rfl))).2;have h9:=(hdp 9 (mq (by kernel_rfl))).1;rw[h9]at hg
   (with_reducible refine Bc hx fun p hx1=>Bc hx1 fun n hx2=>Bc hx2 fun c hx3=>Bc (hg.store1 hx3.2) fun b hy1=>Bc hy1 fun q hy2=>Bc hy2 fun m hy3=>Bc hy3 fun d hy4=>?_)
   have h1:=hx3.1;have h3:=hy4.1;have h4:=hy4.2.1;have h5:=hy4.2.2.1;have h6:=h5.cell;have h7:=h5.free
   (with_reducible refine Aq (w1:=w'.setCell ⟨b,0,none⟩ (.slice p n c)) ?_ ?_ ?_)
   .simp only[Region.wanted]
   .simp[execOp,Act.eval,Act.put,go_sem,h1,h3,h6,h7]
   .refine⟨Ap.store h5 h4 _,trivial,⟨hbx'.b0.other (by omega) _,hbx'.b1.other (by omega) _,hbx'.bel.setCell (by have:=h4;simp;omega) _⟩,?_⟩;have h8:=hy4.2.2.2;simpa [upd,h9]using h8
  all_goals
   intro D sp w' hD hW hdp ⟨hbx',hg⟩;have c0:=hbx'.b0.cell;have c1:w'.cell? ⟨r,0,none⟩=some (.slice pm nm cm):=by rw[(Cd hbx'.bel).1 _ _ hrl];exact Mj HR.out
   simp[asked,Region.wanted,Oper.gives,execOp,Act.eval,Act.put,go_sem,c0,c1]
 .intro sp w7 hsp ⟨hbx2,hg⟩;obtain⟨b2,e2,hb2,pr,nr,cr,n2,hR1⟩:=hg.one rfl;replace hR1:=hR1 rfl;have n2c:=n2.cell;have hne:b2≠w.heap.size+1:=by omega
  clear hsp hg;simp only[Ak,Nat.reduceAdd];rw[e2];clear e2;generalize sp 5=u5,sp 6=u6,sp 7=u7,sp 10=u10 at *
  go_simp
  have d1:=hbx2.b1.cell;have f1:=hbx2.b1.free;go_wp2;exact bodyPost_ret (v:=.agg #[.slice pr nr cr]) (by simp[results,Tryz.results112,go_sem,d1]) rfl ⟨_,rfl,Fit.of (hR1.store hbx2.b1 _) hlim.out,hbx2.bel.setCell (by simp) _⟩
def Gh (w:World)(b N:Nat):Prop:=∃p n c,Ae w b (.slice p n c)/\Ah w p n c N
theorem Gh.below {w w':World}{b N:Nat}(h:Gh w b N)(hb:Below w.heap.size w w'):Gh w' b N :=
 let ⟨p,n,c,h1,h2⟩:=h
 ⟨p,n,c,h1.below hb h1.lt,h2.below hb⟩
theorem Gh.other {w:World}{b b' N:Nat}{q:Option Addr}{m d:Nat}(h:Gh w b N)(hb:Ae w b' (.slice q m d))(hne:b≠b')(v:Value):Gh (w.setCell ⟨b',0,none⟩ v) b N :=
 let ⟨p,n,c,h1,h2⟩:=h
 ⟨p,n,c,h1.other hne v,h2.store hb v⟩
theorem Fp {e N:Nat}{p:Option Addr}{n c:Nat}{w:World}(h:Fit e N (.agg #[.slice p n c]) w):Ah w p n c N:=by
 obtain⟨q,m,d,he,h1,_⟩:=h;cases he;exact h1
def Nv (N K M:Nat):Nat:=if K%M<=N%M then N%M-K%M else M-K%M+N%M
theorem Yd {N K M:Nat}(hM:2<=M):Nv N K M<M:=by
 have h1:=Nat.mod_lt N (show 0<M by omega);have h2:=Nat.mod_lt K (show 0<M by omega);unfold Nv;split<;>omega
theorem eN {N K M:Nat}(hM:2<=M):Nv N K M=(N%M+M-K%M)%M:=by
 have h1:=Nat.mod_lt N (show 0<M by omega);have h2:=Nat.mod_lt K (show 0<M by omega);unfold Nv;generalize N%M=a at *;generalize K%M=b at *;split
 .rw[show a+M-b=(a-b)+M by omega,Nat.add_mod_right,Nat.mod_eq_of_lt (by omega)]
 .rw[Nat.mod_eq_of_lt (by omega)];omega
structure Gz (w wr:World) (d6 d7:Bool) (ua ub:Value) (x y:Nat):Prop where
 a0:d6=false->Ae wr w.heap.size ua
 a1:d6=true->Gh wr w.heap.size x
 c0:d7=false->Ae wr (w.heap.size+1) ub
 c1:d7=true->Gh wr (w.heap.size+1) y
 b2:Ae wr (w.heap.size+1+1) (.slice none 0 0)
 bel:Below w.heap.size w wr
theorem Gz.later {w wr w1:World}{d6 d7:Bool}{ua ub:Value}{x y:Nat}(h:Gz w wr d6 d7 ua ub x y)(hb:Below wr.heap.size wr w1):Gz w w1 d6 d7 ua ub x y :=
 ⟨fun a=>(h.a0 a).below hb (h.a0 a).lt,fun a=>(h.a1 a).below hb,fun a=>(h.c0 a).below hb (h.c0 a).lt,fun a=>(h.c1 a).below hb,h.b2.below hb h.b2.lt,Ab h.bel hb⟩
theorem Gz.store6 {w wr:World}{d7:Bool}{qa:Option Addr}{ma da:Nat}{ub:Value}{x y:Nat}{p:Option Addr}{n c:Nat}(h:Gz w wr false d7 (.slice qa ma da) ub x y)(hx:Ah wr p n c x) :
  Gz w (wr.setCell ⟨w.heap.size,0,none⟩ (.slice p n c)) true d7 (.slice qa ma da) ub x y :=
 let hb:=h.a0 rfl
 ⟨(fun a=>by cases a),fun _=>⟨p,n,c,hb.set _,hx.store hb _⟩,fun a=>(h.c0 a).other (by omega) _,fun a=>(h.c1 a).other hb (by omega) _,h.b2.other (by omega) _,h.bel.setCell (Av _) _⟩
theorem Gz.store7 {w wr:World}{d6:Bool}{qb:Option Addr}{mb db:Nat}{ua:Value}{x y:Nat}{p:Option Addr}{n c:Nat}(h:Gz w wr d6 false ua (.slice qb mb db) x y)(hy:Ah wr p n c y) :
  Gz w (wr.setCell ⟨w.heap.size+1,0,none⟩ (.slice p n c)) d6 true ua (.slice qb mb db) x y :=
 let hb:=h.c0 rfl
 ⟨fun a=>(h.a0 a).other (by omega) _,fun a=>(h.a1 a).other hb (by omega) _,(fun a=>by cases a),fun _=>⟨p,n,c,hb.set _,hy.store hb _⟩,h.b2.other (by omega) _,h.bel.setCell (by simp) _⟩
theorem Wk {w:World}{r M f e1 e2 N K:Nat}{v u:Value}(hR:Ring w r M f)(h:Fit e1 N v w)(k:Fit e2 K u w)(he1:e1<=300000)(he2:e2<=300000) :
  Calls Tryz.prog 55 #[.pointer (some ⟨r,0,none⟩),v,u] w fun en w'=>∃x,en=.returned x/\Fit f (Nv N K M) x w'/\Below w.heap.size w w':=by
 obtain⟨pa,na,ca,rfl,h1,h2⟩:=Aw h;obtain⟨pb,nb,cb,rfl,k1,k2⟩:=Aw k;have hfew:=hR.few;have hlim:Hid (Nv N K M<Al f):=Af (Nat.lt_trans (Yd hR.two) hR.lim);have hKM:Hid (K%M<M):=Af (Nat.mod_lt _ (by have:=hR.two;omega));have hbx:=bF.mk3 w (.slice pa na ca) (.slice pb nb cb) (.slice none 0 0);go_enter Tryz.func55,Tryz.ntmps55;go_wp2;refine Am (by kernel_rfl) (by kernel_rfl)
  [some (.pointer (some ⟨r,0,none⟩)),some (.agg #[.slice pa na ca]),none,some (.pointer (some ⟨r,0,none⟩)),some (.agg #[.slice pb nb cb]),none,none,none]
  [false,false,true,false,false,true,true,true] rfl
  (fun w1 w2=>Ap w.heap.size w1 w2)
  (fun D _ w'=>Gz w w' (D 6) (D 7) (.slice pa na ca) (.slice pb nb cb) (N%M) (K%M))
  (fun i v w'=>match i with
   | 2=>Cn (N%M) v w'
   | 5=>Cn (K%M) v w'
   | _=>True)
  ?_ ⟨fun _=>hbx.b0,(fun a=>by cases a),fun _=>hbx.b1,(fun a=>by cases a),hbx.b2,hbx.bel.trans (Bd _ _).drew⟩ ?_ ?_
 .intro i v w1 w2 hf hb;split at hf
  .exact Cn.keep hf hb
  .exact Cn.keep hf hb
  .trivial
 .simp only[Bg,Nat.reduceAdd];refine⟨?_,?_,?_,?_,?_,?_,?_,?_,trivial⟩
  case refine_2=>
   intro D sp w' hD hW hdp hg;have h6:D 6=false:=hW 6 (mq (by kernel_rfl));have c0:=(hg.a0 h6).cell;simp[asked,Region.wanted,Oper.gives,execOp,Act.eval,Act.put,go_sem,c0]
  case refine_5=>
   intro D sp w' hD hW hdp hg;have h6:D 7=false:=hW 7 (mq (by kernel_rfl));have c0:=(hg.c0 h6).cell;simp[asked,Region.wanted,Oper.gives,execOp,Act.eval,Act.put,go_sem,c0]
  case refine_3=>
   intro D sp w' hD hW hdp hg
   (with_reducible refine Ad (w1:=w') (f := 31) (args:=#[.pointer (some ⟨r,0,none⟩),.agg #[.slice pa na ca]]) ?_ ?_ ?_)
   .simp only[Region.wanted]
   .simp[Act.eval,Act.put,go_sem]
   .refine(Eh (hR.below hg.bel) (h.below hg.bel) (by omega)).mono ?_;rintro e w5 ⟨u,rfl,⟨p,n,c,hu,hu1,_⟩,hb⟩;exact⟨u,rfl,Ap.of hb hg.bel.size,⟨p,n,c,hu,hu1⟩,by simpa using hg.later hb⟩
  case refine_6=>
   intro D sp w' hD hW hdp hg
   (with_reducible refine Ad (w1:=w') (f := 31) (args:=#[.pointer (some ⟨r,0,none⟩),.agg #[.slice pb nb cb]]) ?_ ?_ ?_)
   .simp only[Region.wanted]
   .simp[Act.eval,Act.put,go_sem]
   .refine(Eh (hR.below hg.bel) (k.below hg.bel) (by omega)).mono ?_;rintro e w5 ⟨u,rfl,⟨p,n,c,hu,hu1,_⟩,hb⟩;exact⟨u,rfl,Ap.of hb hg.bel.size,⟨p,n,c,hu,hu1⟩,by simpa using hg.later hb⟩
  case refine_7=>
   intro D sp w' hD hW hdp hg;have hx:∃p n c,sp 2=.agg #[.slice p n c]/\Ah w' p n c (N%M):=(hdp 2 (mq (by kernel_rfl))).2;rw[hD]at hg
   (with_reducible refine Bc hx fun p hx1=>Bc hx1 fun n hx2=>Bc hx2 fun c hx3=>?_)
   have g1:=hx3.1;have hbx0:=hg.a0 rfl;have g2:=hbx0.cell;have g3:=hbx0.free
   (with_reducible refine Aq (w1:=w'.setCell ⟨w.heap.size,0,none⟩ (.slice p n c)) ?_ ?_ ?_)
   .simp only[Region.wanted]
   .simp[execOp,Act.eval,Act.put,go_sem,g1,g2,g3]
   .exact⟨Ap.store hbx0 (Av _) _,trivial,by simpa using hg.store6 hx3.2⟩
  case refine_8=>
   intro D sp w' hD hW hdp hg;have hx:∃p n c,sp 5=.agg #[.slice p n c]/\Ah w' p n c (K%M):=(hdp 5 (mq (by kernel_rfl))).2;rw[hD]at hg
   (with_reducible refine Bc hx fun p hx1=>Bc hx1 fun n hx2=>Bc hx2 fun c hx3=>?_)
   have g1:=hx3.1;have hbx0:=hg.c0 rfl;have g2:=hbx0.cell;have g3:=hbx0.free
   (with_reducible refine Aq (w1:=w'.setCell ⟨w.heap.size+1,0,none⟩ (.slice p n c)) ?_ ?_ ?_)
   .simp only[Region.wanted]
   .simp[execOp,Act.eval,Act.put,go_sem,g1,g2,g3]
   .exact⟨Ap.store hbx0 (by simp) _,trivial,by simpa using hg.store7 hx3.2⟩
  all_goals
   intro D sp w' hD hW hdp hg;simp[asked,Region.wanted,Oper.gives,execOp,Act.eval,Act.put,go_sem]
 .intro sp w7 hsp hg;obtain⟨p1,n1,c1,x1,x2⟩:=hg.a1 rfl;obtain⟨p2,n2,c2,y1,y2⟩:=hg.c1 rfl;have hb2:=hg.b2;have hbel:=hg.bel;clear hsp hg;simp only[Ak,Nat.reduceAdd];generalize sp 2=u2,sp 5=u5,sp 6=u6,sp 7=u7 at *
  go_simp
  have hMf:=hR.lim;have hF1:Fit f (N%M) (.agg #[.slice p1 n1 c1]) w7:=Fit.of x2 (Nat.lt_trans (Nat.mod_lt _ (by have:=hR.two;omega)) hMf);have hF2:Fit f (K%M) (.agg #[.slice p2 n2 c2]) w7:=Fit.of y2 (Nat.lt_trans (Nat.mod_lt _ (by have:=hR.two;omega)) hMf);have a0:=x1.cell;have a1:=y1.cell;clear x2 y2 hMf
  go_wp2_with fail
  refine(Rt hF1 hF2 (by omega) (by omega)).mono ?_;rintro en w8 ⟨z,rfl,hZ,hb⟩;obtain⟨p3,n3,c3,rfl,z1,z2⟩:=hZ;have hZF:Fit f (N%M-K%M) (.agg #[.slice p3 n3 c3]) w8:=⟨_,_,_,rfl,z1,z2⟩
  replace hbel:=Ab hbel hb;have hRb:=hR.below hbel;have nb3:=Ae.made w8 (.slice p3 n3 c3);have hb3:Below w8.heap.size w8 (w8.alloc (.cells #[.slice p3 n3 c3] 37)):=By;replace x1:=(x1.below hb x1.lt).below hb3 (Dk x1.lt hb.size);replace y1:=(y1.below hb y1.lt).below hb3 (Dk y1.lt hb.size);have hb8:=hb2.below hb hb2.lt;replace hb2:=hb8.below hb3 hb8.lt;have hs8:=hb8.lt;clear a0 a1
  by_cases hle:K%M<=N%M
  .rw[decide_eq_true hle];have hv:Hid (Nv N K M=N%M-K%M):=Af (by unfold Nv;rw[if_pos hle]);have d0:=nb3.cell;have d1:=hb2.cell;have d2:=hb2.free;clear hle;go_wp2;have hb9:=(hb8.set (.slice p3 n3 c3)).below ((Bd _ _).alloc (Av _) (.cells #[.slice p3 n3 c3] 37)) (by simpa using hb8.lt);have d3:=hb9.cell;refine bodyPost_ret (v:=.agg #[.slice p3 n3 c3]) (by simp[results,Tryz.results55,go_sem,d3]) rfl ⟨_,rfl,Fit.of ?_ hlim.out,(hbel.setCell (by simp;omega) _).alloc (by simpa using hbel.size) _⟩;rw[hv.out];exact(z1.store hb8 _).below ((Bd _ _).alloc (Av _) _)
  .rw[decide_eq_false hle];have hv:Hid (Nv N K M=M-K%M+N%M):=Af (by unfold Nv;rw[if_neg hle]);clear hle;obtain⟨w9,hw9⟩:∃w9,w8.alloc (.cells #[.slice p3 n3 c3] 37)=w9:=⟨_,rfl⟩
   rw[hw9]at hb3 x1 y1 hb2
   have hn1:=((Fp hF1).below hb).below hb3;have hn2:=((Fp hF2).below hb).below hb3;have hbel9:=Ab hbel hb3;have hM2:=hR.two;have hMl:=Af hR.lim;go_wp2
   try rw[hw9]
   clear hw9 nb3 hRb hbel hb hb8;refine Aj (by kernel_rfl) (by kernel_rfl)
    [some (.pointer (some ⟨r,0,none⟩)),some (.agg #[.slice p2 n2 c2]),none,some (.agg #[.slice p1 n1 c1]),none,none]
    [false,false,true,false,true,true] rfl
    (fun w1 w2=>Ap w.heap.size w1 w2)
    (fun D w'=>(Ae w' w.heap.size (.slice p1 n1 c1)/\Ae w' (w.heap.size+1) (.slice p2 n2 c2)/\Ah w' p1 n1 c1 (N%M)/\Ah w' p2 n2 c2 (K%M)/\Below w.heap.size w w')/\(D 5=false->Ae w' (w.heap.size+1+1) (.slice none 0 0))/\(D 5=true->Gh w' (w.heap.size+1+1) (M-K%M+N%M)))
    (fun i v w'=>match i with
     | 2=>Fit f (M-K%M) v w'
     | 4=>Cn (M-K%M+N%M) v w'
     | _=>True)
    ?_ ⟨⟨x1,y1,hn1.below (Bd _ _).drew,hn2.below (Bd _ _).drew,hbel9.trans (Bd _ _).drew⟩,fun _=>hb2,(fun a=>by cases a)⟩ ?_ ?_
   .intro i v w1 w2 hf hb;split at hf
    .exact Fit.keep hf hb
    .exact Cn.keep hf hb
    .trivial
   .simp only[Bh,Nat.reduceAdd];refine⟨?_,?_,?_,?_,?_,?_,trivial⟩
    case refine_3=>
     intro D sp w' hD hW hdp hg
     (with_reducible refine Ad (w1:=w') (f := 112) (args:=#[.pointer (some ⟨r,0,none⟩),.agg #[.slice p2 n2 c2]]) ?_ ?_ ?_)
     .simp only[Region.wanted]
     .simp[Act.eval,Act.put,go_sem]
     .refine(Ui (hR.below hg.1.2.2.2.2) (Fit.of (e:=f) hg.1.2.2.2.1 (Nat.lt_trans hKM.out hMl.out)) (Nat.le_of_lt hKM.out) (by omega)).mono ?_;rintro e w5 ⟨u,rfl,hu,hb⟩;exact⟨u,rfl,Ap.of hb hg.1.2.2.2.2.size,hu,⟨hg.1.1.below hb hg.1.1.lt,hg.1.2.1.below hb hg.1.2.1.lt,hg.1.2.2.1.below hb,hg.1.2.2.2.1.below hb,Ab hg.1.2.2.2.2 hb⟩,by simpa using fun a=>(hg.2.1 a).below hb (hg.2.1 a).lt,by simpa using fun a=>(hg.2.2 a).below hb⟩
    case refine_5=>
     intro D sp w' hD hW hdp hg;have k2:Fit f (M-K%M) (sp 2) w':=(hdp 2 (mq (by kernel_rfl))).2
     (with_reducible refine Ad (w1:=w') (f := 94) (args:=#[sp 2,.agg #[.slice p1 n1 c1]]) ?_ ?_ ?_)
     .simp only[Region.wanted]
     .simp[Act.eval,Act.put,go_sem]
     .refine(Ma k2 (Fit.of (e:=f) hg.1.2.2.1 (Nat.lt_trans (Nat.mod_lt _ (by omega)) hMl.out)) (by omega) (by omega)).mono ?_;rintro e w5 ⟨u,rfl,⟨p,n,c,hu,hu1,_⟩,hb⟩;exact⟨u,rfl,Ap.of hb hg.1.2.2.2.2.size,⟨p,n,c,hu,hu1⟩,⟨hg.1.1.below hb hg.1.1.lt,hg.1.2.1.below hb hg.1.2.1.lt,hg.1.2.2.1.below hb,hg.1.2.2.2.1.below hb,Ab hg.1.2.2.2.2 hb⟩,by simpa using fun a=>(hg.2.1 a).below hb (hg.2.1 a).lt,by simpa using fun a=>(hg.2.2 a).below hb⟩
    case refine_6=>
     intro D sp w' hD hW hdp hg;have hx:∃p n c,sp 4=.agg #[.slice p n c]/\Ah w' p n c (M-K%M+N%M):=(hdp 4 (mq (by kernel_rfl))).2
     (with_reducible refine Bc hx fun p hx1=>Bc hx1 fun n hx2=>Bc hx2 fun c hx3=>?_)
     have g1:=hx3.1;have hbx0:=hg.2.1 hD;have g2:=hbx0.cell;have g3:=hbx0.free;have o1:=hg.1.1.other (b':=w.heap.size+1+1) (by omega) (.slice p n c);have o2:=hg.1.2.1.other (b':=w.heap.size+1+1) (by omega) (.slice p n c)
     (with_reducible refine Aq (w1:=w'.setCell ⟨w.heap.size+1+1,0,none⟩ (.slice p n c)) ?_ ?_ ?_)
     .simp only[Region.wanted]
     .simp[execOp,Act.eval,Act.put,go_sem,g1,g2,g3]
     .exact⟨Ap.store hbx0 (by omega) _,trivial,⟨o1,o2,hg.1.2.2.1.store hbx0 _,hg.1.2.2.2.1.store hbx0 _,hg.1.2.2.2.2.setCell (by simp;omega) _⟩,(fun a=>by simp at a),fun _=>⟨p,n,c,hbx0.set _,hx3.2.store hbx0 _⟩⟩
    all_goals
     intro D sp w' hD hW hdp hg;have c0:=hg.1.1.cell;have c1:=hg.1.2.1.cell;simp[asked,Region.wanted,Oper.gives,execOp,Act.eval,Act.put,go_sem,c0,c1]
   .intro sp w10 hsp hg;obtain⟨p4,n4,c4,q1,q2⟩:=hg.2.2 rfl;have hbel10:=hg.1.2.2.2.2;have d3:=q1.cell;clear hsp hg;simp only[Ak,Nat.reduceAdd];generalize sp 2=u2' at *;generalize sp 4=u4' at *;generalize sp 5=u5' at *
    go_simp
    go_wp2;refine bodyPost_ret (v:=.agg #[.slice p4 n4 c4]) (by simp[results,Tryz.results55,go_sem,d3]) rfl ⟨_,rfl,Fit.of ?_ hlim.out,hbel10⟩;rw[hv.out];exact q2
theorem Rq (w:World) :
  Calls Tryz.prog 17 #[.int .u64 2] w fun en w'=>∃x,en=.returned x/\Fit 1 2 x w'/\Below w.heap.size w w':=by
 refine(Cp 2 w (by decide)).mono ?_;rintro en w' ⟨p,n,c,rfl,hn,hb,_⟩;exact⟨_,rfl,Fit.of hn (by decide),hb⟩
def aV (N e:Nat)(w:World)(en:Ending)(w':World):Prop :=
 Below w.heap.size w w'/\((N<2/\en=.returned (.tuple #[.pointer none,.int .i64 1])) ∨ (2<=N/\∃r,en=.returned (.tuple #[.pointer (some ⟨r,0,none⟩),.int .i64 0])/\Ring w' r N e/\w.heap.size<=r))
theorem Fx {w:World}{e N:Nat}{v:Value}(h:Fit e N v w)(he:e<=10000) :
  Calls Tryz.prog 92 #[v] w (aV N e w):=by
 obtain⟨pa,na,ca,rfl,h1,h2⟩:=Aw h;have hbx:=Cw.mk1 w (.slice pa na ca) 37;obtain⟨K,hK⟩:∃K,Bp N 2=K:=⟨_,rfl⟩
 obtain⟨E,hE⟩:∃E,decide (K<0)=E:=⟨_,rfl⟩
 have HK:=Af hK;have HE:=Af hE;have H2:=Af h2;clear hK hE h2;go_enter Tryz.func92,Tryz.ntmps92;go_wp2;have hE:=HE.out;refine Aj (by kernel_rfl) (by kernel_rfl)
  [some (.agg #[.slice pa na ca]),none,none,some (.bool E)]
  [false,true,true,false] rfl
  (fun w1 w2=>Below w1.heap.size w1 w2)
  (fun _ w'=>Cw w w' (.slice pa na ca))
  (fun i v w'=>match i with
   | 1=>Fit 1 2 v w'
   | 2=>v=.int .i64 K
   | _=>True)
  ?_ (hbx.below (Bd _ _).drew (Av _)) ?_ ?_
 .intro i v w1 w2 hf hb;split at hf
  .exact hf.below hb
  .exact hf
  .trivial
 .simp only[Bh,Nat.reduceAdd];refine⟨?_,?_,?_,?_,trivial⟩
  case refine_2=>
   intro D sp w' hD hW hdp hbx'
   (with_reducible refine Ad (w1:=w') (f := 17) (args:=#[.int .u64 2]) ?_ ?_ ?_)
   .simp only[Region.wanted]
   .simp[Act.eval,Act.put,go_sem]
   .refine(Rq w').mono ?_;rintro e w5 ⟨u,rfl,hu,hb⟩;exact⟨u,rfl,hb,hu,hbx'.later hb⟩
  case refine_3=>
   intro D sp w' hD hW hdp hbx';have k1:Fit 1 2 (sp 1) w':=(hdp 1 (mq (by kernel_rfl))).2
   (with_reducible refine Ad (w1:=w') (f := 24) (args:=#[.agg #[.slice pa na ca],sp 1]) ?_ ?_ ?_)
   .simp only[Region.wanted]
   .simp[Act.eval,Act.put,go_sem]
   .refine(Az (h.below hbx'.bel) k1 (by omega) (by omega) HK.out).mono ?_;rintro e w5 ⟨u,rfl,hu,hb⟩;exact⟨u,rfl,hb,hu,hbx'.later hb⟩
  case refine_4=>
   intro D sp w' hD hW hdp hbx';have k2:sp 2=.int .i64 K:=(hdp 2 (mq (by kernel_rfl))).2;simp[asked,Region.wanted,Oper.gives,execOp,Act.eval,Act.put,go_sem,k2,hE]
  all_goals
   intro D sp w' hD hW hdp hbx';have c0:=hbx'.c0;simp[asked,Region.wanted,Oper.gives,execOp,Act.eval,go_sem,c0]
 .intro sp w2 hsp hbx';clear hsp hE;simp only[Ak,Nat.reduceAdd];generalize sp 1=u1,sp 2=u2 at *
  go_simp
  by_cases h2:N<2
  .have hEt:E=true:=by rw[<-HE.out,<-HK.out,Dp h2];rfl
   have HN:=Af h2;clear h2;subst hEt;go_wp2
   go_ret2
   exact⟨hbx'.bel,.inl ⟨HN.out,rfl⟩⟩
  .have hEf:E=false:=by
    rw[<-HE.out,<-HK.out,decide_eq_false_iff_not];unfold Bp;rw[if_neg h2];split<;>omega
   have HN:Hid (2<=N):=Af (by omega);have c0:=hbx'.c0;clear h2;subst hEf
   go_wp2_with fail
   refine(Pm (h.below hbx'.bel) (by omega)).mono ?_;rintro en w3 ⟨x,rfl,hx,hb⟩;obtain⟨pc,nc,cc,rfl,x1,x2⟩:=hx;have hbel:=Ab hbx'.bel hb;have hl:=x1.len_le x2;go_wp2
   go_ret2
   refine⟨hbel.alloc hbel.size _,.inr ⟨HN.out,w3.heap.size,rfl,⟨⟨pc,nc,cc,heap_alloc_new w3 _,x1.below ((Bd _ _).alloc (Av _) _),by omega⟩,HN.out,x2,he⟩,hbel.size⟩⟩
end Go.Proofs.YtokhckjemidbpaaGreatDoor
