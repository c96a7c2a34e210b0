/- A ring: what is left, sums, differences, products; the document's. -/
import Derived.Test.YtokhckjemidbpaaGreatDoorFit4
import Derived.Test.YtokhckjemidbpaaGreatDoorRefN
import Derived.Deep.LoopGhost
set_option maxRecDepth 1000000
set_option maxHeartbeats 16000000
set_option linter.all false
namespace Go.Proofs.YtokhckjemidbpaaGreatDoor
open Go Go.RowKit Go.Proofs.YtokhckjemidbpaaGreatDoor.Flow
theorem jX {w:World}{v u:Value}{N M:Nat}(h:Al N v w)(k:Al M u w)(hN:Ao N<=100000)(hM:Ao M<=100000) :
  Calls Tryz.prog 140 #[v,u] w fun en w'=>∃x,en=.returned x/\Al (N*M) x w'/\Below w.heap.size w w':=by
 obtain⟨p,n,c,rfl,h⟩:=h;obtain⟨q,m,d,rfl,k⟩:=k;refine(cC w p n c N q m d M h k (by rw[Ch h];omega) (by rw[Ch k];omega)).mono ?_;rintro en w' ⟨p,n,c,rfl,hr,hb,_⟩;exact⟨_,rfl,Al.of hr,hb⟩
theorem Zf {w:World}{v u:Value}{N M:Nat}(h:Al N v w)(k:Al M u w)(hN:Ao N<=900000)(hM:Ao M<=900000)(hM0:0<M) :
  Calls Tryz.prog 134 #[v,u] w fun en w'=>∃p n c q m d,en=.returned (.tuple #[.slice p n c,.slice q m d])/\Bi w' p n c (N/M)/\Bi w' q m d (N%M)/\Below w.heap.size w w':=by
 obtain⟨p,n,c,rfl,h⟩:=h;obtain⟨q,m,d,rfl,k⟩:=k;refine(cD w p n c N q m d M h k (by rw[Ch h];omega) (by rw[Ch k];omega) hM0).mono ?_;rintro en w' ⟨p,n,c,q,m,d,rfl,h1,h2,hb,_,_⟩;exact⟨p,n,c,q,m,d,rfl,h1,h2,hb⟩
theorem lI (A B:Nat):Nat.gcd B (A%B)=Nat.gcd A B:=by
 rw[Nat.gcd_comm B,<-Nat.gcd_rec,Nat.gcd_comm]
structure pM (w wr:World) (e A k:Nat) (pa:Option Addr) (na ca:Nat) (pb:Option Addr) (nb cb:Nat):Prop where
 box0:Af wr w.heap.size (.slice pa na ca)
 box1:Af wr (w.heap.size+1) (.slice pb nb cb)
 box2:Af wr (w.heap.size+2) (.slice none 0 0)
 one:Aj wr pa na ca A
 two:Aj wr pb nb cb k
 lim1:A<Ar e
 lim2:k<Ar e
 bel:Below w.heap.size w wr
theorem gX (w:World)(pa:Option Addr)(na ca N:Nat)(pb:Option Addr)(nb cb M e:Nat)(hA:Aj w pa na ca N)(hB:Aj w pb nb cb M)(hlA:N<Ar e)(hlB:M<Ar e)(he:e<=800000) :
  Calls Tryz.prog 251 #[.agg #[.slice pa na ca],.agg #[.slice pb nb cb]] w (Ib (Nat.gcd N M) w):=by
 obtain⟨G,hG⟩:∃G,Nat.gcd N M=G:=⟨_,rfl⟩
 rw[hG];have HG:=Ag hG;clear hG;go_enter Tryz.func251,Tryz.ntmps251;go_wp2
 go_loopg [7] M (fun k _ wr=>∃(A:Nat) (pa:Option Addr) (na ca:Nat) (pb:Option Addr) (nb cb:Nat),pM w wr e A k pa na ca pb nb cb/\Hid (Nat.gcd A k=G))
 case atStart=>
  have hbx:=Di.mk3 w (.slice pa na ca) (.slice pb nb cb) (.slice none 0 0) 37 37 37;refine⟨N,pa,na,ca,pb,nb,cb,⟨?_,?_,?_,hA.below hbx.bel,hB.below hbx.bel,hlA,hlB,hbx.bel⟩,HG⟩
  .exact((Af.made w _).below ((Bb _ _).alloc (As _) _) (by simp)).below ((Bb _ _).alloc (As _) _) (by simp;omega)
  .have:=(Af.made (w.alloc (.cells #[.slice pa na ca] 37)) (.slice pb nb cb)).below ((Bb _ _).alloc (As _) (.cells #[.slice none 0 0] 37)) (by simp);simpa using this
  .have:=Af.made ((w.alloc (.cells #[.slice pa na ca] 37)).alloc (.cells #[.slice pb nb cb] 37)) (.slice none 0 0);simpa using this
 case round=>
  obtain⟨A,pa,na,ca,pb,nb,cb,hst,hgc⟩:=hrel;have HST:=Ag hst;have c1:=hst.box1.cell;have l1:=hst.one.len_le hst.lim1;have l2:=hst.two.len_le hst.lim2;clear hst
  go_wp2_with fail
  refine(El wr pb nb cb).mono ?_;rintro en w1 ⟨rfl,hb1⟩;have hz:decide (nb=0)=decide (gk=0):=decide_eq_decide.2 HST.out.two.zero;rw[hz];clear hz;rcases Nat.eq_zero_or_pos gk with h0|h0
  .have hd0:decide (gk=0)=true:=decide_eq_true h0;rw[hd0];have HAG:Hid (A=G):=Ag (by have:=hgc.out;rw[h0,Nat.gcd_zero_right]at this;exact this);have HB1:=Ag hb1;have k0:=(HST.out.box0.below hb1 HST.out.box0.lt).cell;clear hd0 h0 c1
   go_wp2_with fail
   refine(Rp w1 pa na ca A (HST.out.one.below HB1.out) (by omega)).mono ?_;rintro en w2 ⟨q,m,d,rfl,hn,hb2,hq⟩;have k2:=((HST.out.box2.below HB1.out HST.out.box2.lt).below hb2 (Ej HST.out.box2.lt HB1.out.size))
   have k2c:=k2.cell;have k2f:=k2.free;have hqn:w.heap.size+2<w1.heap.size:=Ej HST.out.box2.lt HB1.out.size;have hbw:=Ae (Ae HST.out.bel HB1.out) hb2;clear k0;go_wp2;refine bodyPost_ret (v:=.agg #[.slice q m d]) (by simp[results,Tryz.results251,go_sem,k2c]) rfl ⟨q,m,d,rfl,?_,hbw.setCell (by simp;omega) _,hq.mono (by omega)⟩;have:=hn.setCell (a:=⟨w.heap.size+2,0,none⟩) (hq.ne (by simpa using hqn)) (.slice q m d);rw[HAG.out]at this
   exact this
  .have hd0:decide (gk=0)=false:=decide_eq_false (by omega);rw[hd0];have H0:=Ag h0;have HB1:=Ag hb1;have k0:=(HST.out.box0.below hb1 HST.out.box0.lt).cell;have k1:=(HST.out.box1.below hb1 HST.out.box1.lt).cell;clear hd0 h0 c1 hb1
   go_wp2_with fail
   refine(Wi w1 pa na ca A pb nb cb gk (HST.out.one.below HB1.out) (HST.out.two.below HB1.out) (by omega) (by omega)).mono ?_;rintro en w2 ⟨q,m,d,r,l,f,rfl,hq,hr,hb2,_,_⟩;rw[if_neg (by have:=H0.out;omega)]at hr
   rw[if_neg (by have:=H0.out;omega)];have hb12:=Ae HB1.out hb2;have g0:=HST.out.box0.below hb12 HST.out.box0.lt;have g1:=HST.out.box1.below hb12 HST.out.box1.lt;have g2:=HST.out.box2.below hb12 HST.out.box2.lt;have n2:=HST.out.two.below hb12;have hbw:=Ae HST.out.bel hb12;have s2:=g2.lt;have HG0:=Ag g0;have HG1:=Ag g1;have HG2:=Ag g2;have HR:=Ag hr;have HN2:=Ag n2;have HBW:=Ag hbw;clear k0 k1 hq g0 g1 g2 hr n2 hbw hb12 hb2;go_wp2;obtain⟨w3,hw3⟩:∃w3,(w2.alloc (.cells #[.slice q m d] 37)).alloc (.cells #[.slice r l f] 37)=w3:=⟨_,rfl⟩
   have hb3:Below w2.heap.size w2 w3:=by rw[<-hw3];exact((Bb _ _).alloc (As _) _).alloc (by simp) _
   have hr3:Af w3 (w2.heap.size+1) (.slice r l f):=by
    rw[<-hw3];have:=Af.made (w2.alloc (.cells #[.slice q m d] 37)) (.slice r l f);simpa using this
   rw[hw3];have hb4:=hb3.trans (Bb w2.heap.size w3).drew;have hs2:w.heap.size+2<w2.heap.size:=s2;refine Ah (by kernel_rfl) (by kernel_rfl)
    [some (.agg #[.slice pb nb cb]),some (.agg #[.slice r l f]),none,none]
    [false,false,true,true] rfl
    (fun _ _=>True)
    (fun D w'=>Af w' w.heap.size (if D 2 then .slice pb nb cb else .slice pa na ca)/\Af w' (w.heap.size+1) (if D 3 then .slice r l f else .slice pb nb cb)/\Af w' (w.heap.size+2) (.slice none 0 0)/\Af w' (w2.heap.size+1) (.slice r l f)/\Aj w' pb nb cb gk/\Aj w' r l f (A%gk)/\Below w.heap.size w w')
    (fun _ _ _=>True)
    (fun _ _ _ _ h _=>h) ⟨HG0.out.below hb4 HG0.out.lt,HG1.out.below hb4 HG1.out.lt,HG2.out.below hb4 HG2.out.lt,hr3,HN2.out.below hb4,HR.out.below hb4,Ae HBW.out hb4⟩ ?_ ?_
   .simp only[Ba,Nat.reduceAdd];refine⟨?_,?_,?_,?_,trivial⟩
    case refine_1=>
     intro D sp w' hD hW hdp ⟨k0,k1,k2,k3,k4,k5,k6⟩;have h3:D 3=false:=hW 3 (mq (by kernel_rfl));rw[h3]at k1
     simp only[Bool.false_eq_true,if_false]at k1;have c1:=k1.cell;simp[asked,Region.wanted,Oper.gives,execOp,Act.eval,go_sem,c1]
    case refine_2=>
     intro D sp w' hD hW hdp ⟨k0,k1,k2,k3,k4,k5,k6⟩;have c3:=k3.cell;simp[asked,Region.wanted,Oper.gives,execOp,Act.eval,Act.put,go_sem,c3]
    case refine_3=>
     intro D sp w' hD hW hdp ⟨k0,k1,k2,k3,k4,k5,k6⟩;rw[hD]at k0
     simp only[Bool.false_eq_true,if_false]at k0;have c0:=k0.cell;have f0:=k0.free;have e1:=k1.other (b':=w.heap.size) (by omega) (.slice pb nb cb);have e2:=k2.other (b':=w.heap.size) (by omega) (.slice pb nb cb);have e3:=k3.other (b':=w.heap.size) (by omega) (.slice pb nb cb)
     (with_reducible refine Aq (w1:=w'.setCell ⟨w.heap.size,0,none⟩ (.slice pb nb cb)) ?_ ?_ ?_)
     .simp only[Region.wanted]
     .simp[execOp,Act.eval,Act.put,go_sem,c0,f0]
     .refine⟨trivial,trivial,?_,?_,e2,e3,k4.store k0 _,k5.store k0 _,k6.setCell (As _) _⟩
      .simp only[decide_true,Bool.or_true,if_true];exact k0.set _
      .simpa using e1
    case refine_4=>
     intro D sp w' hD hW hdp ⟨k0,k1,k2,k3,k4,k5,k6⟩;rw[hD]at k1
     simp only[Bool.false_eq_true,if_false]at k1;have c0:=k1.cell;have f0:=k1.free;have e1:=k0.other (b':=w.heap.size+1) (by omega) (.slice r l f);have e2:=k2.other (b':=w.heap.size+1) (by omega) (.slice r l f);have e3:=k3.other (b':=w.heap.size+1) (by omega) (.slice r l f)
     (with_reducible refine Aq (w1:=w'.setCell ⟨w.heap.size+1,0,none⟩ (.slice r l f)) ?_ ?_ ?_)
     .simp only[Region.wanted]
     .simp[execOp,Act.eval,Act.put,go_sem,c0,f0]
     .refine⟨trivial,trivial,?_,?_,e2,e3,k4.store k1 _,k5.store k1 _,k6.setCell (by simp) _⟩
      .simpa using e1
      .simp only[decide_true,Bool.or_true,if_true];exact k1.set _
   .intro sp w' hsp ⟨k0,k1,k2,k3,k4,k5,k6⟩;have j0:Af w' w.heap.size (.slice pb nb cb):=k0;have j1:Af w' (w.heap.size+1) (.slice r l f):=k1;have hlt:A%gk<gk:=Nat.mod_lt _ H0.out;have HLT:=Ag hlt;have J:Hid (pM w w' e gk (A%gk) pb nb cb r l f):=Ag ⟨j0,j1,k2,k4,k5,HST.out.lim2,Nat.lt_trans hlt HST.out.lim2,k6⟩;clear hsp k0 k1 k2 k3 k4 k5 k6 j0 j1 hlt;simp only[An,Nat.reduceAdd];generalize sp 2=u2,sp 3=u3 at *
    go_simp
    go_wp2
    go_roundg (A%gk)
    case measure=>exact HLT.out
    case rel=>exact⟨gk,pb,nb,cb,r,l,f,J.out,Ag (by rw[lI];exact hgc.out)⟩
theorem Bu {w:World}{v u:Value}{e f N M:Nat}{K:Int}(h:Fit e N v w)(k:Fit f M u w)(he:e<=900000)(hf:f<=900000)(hK:Bo N M=K) :
  Calls Tryz.prog 24 #[v,u] w fun en w'=>∃x,en=.returned x/\x=.int .i64 K/\Below w.heap.size w w':=by
 subst hK;exact Sg h k he hf
theorem Dw {w:World}{v:Value}{e N:Nat}{t:Bool}(h:Fit e N v w)(hz:decide (N=0)=t) :
  Calls Tryz.prog 21 #[v] w fun en w'=>∃x,en=.returned x/\x=.bool t/\Below w.heap.size w w':=by
 subst hz;exact Yq h
def Na (x y:Nat)(v:Value)(w:World):Prop:=∃p n c q m d,v=.tuple #[.agg #[.slice p n c],.agg #[.slice q m d],.int .i64 0]/\Aj w p n c x/\Aj w q m d y
def Dr (x:Nat)(v:Value)(w:World):Prop:=∃p n c,v=.agg #[.slice p n c]/\Aj w p n c x
theorem Na.keep {x y B:Nat}{v:Value}{w w':World}(h:Na x y v w)(k:Ap B w w'):Na x y v w' :=
 let ⟨p,n,c,q,m,d,h1,h2,h3⟩:=h
 ⟨p,n,c,q,m,d,h1,k.nat _ _ _ _ h2,k.nat _ _ _ _ h3⟩
theorem Dr.keep {x B:Nat}{v:Value}{w w':World}(h:Dr x v w)(k:Ap B w w'):Dr x v w' :=
 let ⟨p,n,c,h1,h2⟩:=h
 ⟨p,n,c,h1,k.nat _ _ _ _ h2⟩
theorem Ap.same (B:Nat)(w:World):Ap B w w:=⟨Bb _ _,fun _ _ _ _ k=>k⟩
structure RingAt (w:World) (r M:Nat):Prop where
 ex:∃p n c,w.heap[r]? = some (.cells #[.slice p n c] 156 (0,0))/\Aj w p n c M/\n<800000
theorem RingAt.lt {w:World}{r M:Nat}(h:RingAt w r M):r<w.heap.size:=by
 obtain⟨p,n,c,h1,_⟩:=h.ex;exact(Kv h1).1
theorem RingAt.below {w w':World}{r M:Nat}(h:RingAt w r M)(hb:Below w.heap.size w w'):RingAt w' r M:=by
 have hl:=h.lt;obtain⟨p,n,c,h1,h2,h3⟩:=h.ex;exact⟨p,n,c,by rw[hb.block r hl];exact h1,h2.below hb,h3⟩
theorem Ng {w:World}{r:Nat}{u:Value}(h:w.heap[r]? = some (.cells #[u] 156 (0,0))):w.cell? ⟨r,0,none⟩=some u:=by
 simp[World.cell?,h]
def qL (N:Nat)(w:World)(e:Ending)(w':World):Prop:=∃p n c,e=.returned (.agg #[.slice p n c])/\Aj w' p n c N/\Below w.heap.size w w'
theorem Ud {w:World}{v u:Value}{e f x y:Nat}(h:Fit e x v w)(k:Fit f y u w)(hy:y≠0)(he:e<=800000)(hf:f<=800000) :
  Calls Tryz.prog 93 #[v,u] w fun en w'=>∃z,en=.returned z/\Na (x/y) (x%y) z w'/\Below w.heap.size w w':=by
 refine(Xx h k he hf).mono ?_;rintro en w' ⟨z,rfl,⟨q,r,rfl,⟨p1,n1,c1,rfl,g1,_⟩,⟨p2,n2,c2,rfl,g2,_⟩⟩,hb⟩;rw[if_neg hy]at g2
 rw[if_neg hy];exact⟨_,rfl,⟨_,_,_,_,_,_,rfl,g1,g2⟩,hb⟩
theorem fN (w:World)(r M:Nat)(pa:Option Addr)(na ca N e f:Nat)(hR:RingAt w r M)(hM:M≠0)(hMf:M<Ar f)(hA:Aj w pa na ca N)(hN:N<Ar e)(he:e<=800000)(hf:f<=800000) :
  Calls Tryz.prog 31 #[.pointer (some ⟨r,0,none⟩),.agg #[.slice pa na ca]] w (qL (N%M) w):=by
 have hrl:=hR.lt;obtain⟨pm,nm,cm,hm1,hm2,_⟩:=hR.ex;have hFA:Fit e N (.agg #[.slice pa na ca]) w:=Fit.of hA hN;have hFM:Fit f M (.agg #[.slice pm nm cm]) w:=Fit.of hm2 hMf;have HM:=Ag hM;have HR:=Ag hm1;obtain⟨B0,hB0⟩:∃B0,w.heap.size+2=B0:=⟨_,rfl⟩
 have hbx:=Ig.mk2 w (.slice pa na ca) (.slice none 0 0) 37 37;have hnb:Af ((w.alloc (.cells #[.slice pa na ca] 37)).alloc (.cells #[.slice none 0 0] 37)) (w.heap.size+1) (.slice none 0 0):=by
  have:=Af.made (w.alloc (.cells #[.slice pa na ca] 37)) (.slice none 0 0);simpa using this
 have HB0:=Ag hB0;have hB0':w.heap.size+2<=B0:=Nat.le_of_eq hB0;clear hB0 hM hm1 hR;go_enter Tryz.func31,Tryz.ntmps31;go_wp2;refine Am (by kernel_rfl) (by kernel_rfl)
  [some (.agg #[.slice pa na ca]),some (.pointer (some ⟨r,0,none⟩)),some (.pointer (some ⟨r,0,none⟩)),some (.pointer (some ⟨r,0,none⟩)),some (.agg #[.slice pm nm cm]),none,none,none,none,some (.int .i64 0),none,none,none,none,some (.int .i64 0)]
  [false,false,false,false,false,true,true,true,true,false,true,true,true,true,false] rfl
  (fun w1 w2=>Ap B0 w1 w2)
  (fun D sp w'=>(Ig w w' (.slice pa na ca) (.slice none 0 0)/\Af w' (w.heap.size+1) (.slice none 0 0))/\Ir B0 (N/M) (N%M) (D 10) (D 11) (D 12) (D 13) (sp 10) (sp 11) w')
  (fun i v w'=>match i with
   | 5|6=>Na (N/M) (N%M) v w'
   | 7=>Dr (N/M) v w'
   | 8=>Dr (N%M) v w'
   | _=>True)
  ?_ ⟨⟨hbx.below (Bb _ _).drew (As _),hnb⟩,Ir.start (by simpa using Nat.le_of_eq HB0.out.symm)⟩ ?_ ?_
 .intro i v w1 w2 hf hb;split at hf
  .exact Na.keep hf hb
  .exact Na.keep hf hb
  .exact Dr.keep hf hb
  .exact Dr.keep hf hb
  .trivial
 .simp only[Bf,Nat.reduceAdd];refine⟨?_,?_,?_,?_,?_,?_,?_,?_,?_,?_,?_,?_,?_,?_,?_,trivial⟩
  case refine_6=>
   intro D sp w' hD hW hdp ⟨hbx',hg⟩
   (with_reducible refine Ac (w1:=w') (f := 93) (args:=#[.agg #[.slice pa na ca],.agg #[.slice pm nm cm]]) ?_ ?_ ?_)
   .simp only[Region.wanted]
   .simp[Act.eval,Act.put,go_sem]
   .refine(Ud (hFA.below hbx'.1.bel) (hFM.below hbx'.1.bel) HM.out he hf).mono ?_;rintro e w5 ⟨u,rfl,hu,hb⟩;exact⟨u,rfl,Ap.of hb hg.size,hu,⟨hbx'.1.later hb,hbx'.2.below hb hbx'.2.lt⟩,by simpa [upd]using hg.later hb⟩
  case refine_7=>
   intro D sp w' hD hW hdp ⟨hbx',hg⟩;have k4:Na (N/M) (N%M) (sp 5) w':=(hdp 5 (mq (by kernel_rfl))).2
   (with_reducible refine Ai (w1:=w') (v:=sp 5) ?_ ?_ ?_)
   .simp only[Region.wanted]
   .simp[execOp,Act.eval,Act.put,go_sem]
   .exact⟨Ap.same _ _,k4,hbx',by simpa [upd]using hg⟩
  case refine_8=>
   intro D sp w' hD hW hdp ⟨hbx',hg⟩;have hx:∃p n c q m d,sp 6=.tuple #[.agg #[.slice p n c],.agg #[.slice q m d],.int .i64 0]/\Aj w' p n c (N/M)/\Aj w' q m d (N%M):=(hdp 6 (mq (by kernel_rfl))).2
   (with_reducible refine Ay hx fun p hx1=>Ay hx1 fun n hx2=>Ay hx2 fun c hx3=>Ay hx3 fun q hx4=>Ay hx4 fun m hx5=>Ay hx5 fun d hx6=>?_)
   have h1:=hx6.1
   (with_reducible refine Ai (w1:=w') (v:=.agg #[.slice p n c]) ?_ ?_ ?_)
   .simp only[Region.wanted]
   .simp[execOp,Act.eval,Act.put,go_sem,h1]
   .exact⟨Ap.same _ _,⟨p,n,c,rfl,hx6.2.1⟩,hbx',by simpa [upd]using hg⟩
  case refine_9=>
   intro D sp w' hD hW hdp ⟨hbx',hg⟩;have hx:∃p n c q m d,sp 6=.tuple #[.agg #[.slice p n c],.agg #[.slice q m d],.int .i64 0]/\Aj w' p n c (N/M)/\Aj w' q m d (N%M):=(hdp 6 (mq (by kernel_rfl))).2
   (with_reducible refine Ay hx fun p hx1=>Ay hx1 fun n hx2=>Ay hx2 fun c hx3=>Ay hx3 fun q hx4=>Ay hx4 fun m hx5=>Ay hx5 fun d hx6=>?_)
   have h1:=hx6.1
   (with_reducible refine Ai (w1:=w') (v:=.agg #[.slice q m d]) ?_ ?_ ?_)
   .simp only[Region.wanted]
   .simp[execOp,Act.eval,Act.put,go_sem,h1]
   .exact⟨Ap.same _ _,⟨q,m,d,rfl,hx6.2.2⟩,hbx',by simpa [upd]using hg⟩
  case refine_10=>
   intro D sp w' hD hW hdp ⟨hbx',hg⟩;have hx:∃p n c q m d,sp 6=.tuple #[.agg #[.slice p n c],.agg #[.slice q m d],.int .i64 0]/\Aj w' p n c (N/M)/\Aj w' q m d (N%M):=(hdp 6 (mq (by kernel_rfl))).2
   (with_reducible refine Ay hx fun p hx1=>Ay hx1 fun n hx2=>Ay hx2 fun c hx3=>Ay hx3 fun q hx4=>Ay hx4 fun m hx5=>Ay hx5 fun d hx6=>?_)
   have h1:=hx6.1;simp[asked,Region.wanted,Oper.gives,execOp,Act.eval,Act.put,go_sem,h1]
  case refine_11=>
   intro D sp w' hD hW hdp ⟨hbx',hg⟩;have h9:D 12=false:=hW 12 (mq (by kernel_rfl));rw[hD,h9]at hg
   (with_reducible refine Ai (w1:=w'.alloc (.cells #[.slice none 0 0] 37)) (v:=.pointer (some ⟨w'.heap.size,0,none⟩)) ?_ ?_ ?_)
   .simp only[Region.wanted]
   .simp[execOp,go_sem]
   .have hb:Below w'.heap.size w' (w'.alloc (.cells #[.slice none 0 0] 37)):=Bx;refine⟨Ap.of hb hg.size,trivial,⟨hbx'.1.later hb,hbx'.2.below hb hbx'.2.lt⟩,?_⟩;have h8:=hg.alloc1;simpa [upd,h9]using h8
  case refine_12=>
   intro D sp w' hD hW hdp ⟨hbx',hg⟩;have h9:D 13=false:=hW 13 (mq (by kernel_rfl));rw[hD,h9]at hg
   (with_reducible refine Ai (w1:=w'.alloc (.cells #[.slice none 0 0] 37)) (v:=.pointer (some ⟨w'.heap.size,0,none⟩)) ?_ ?_ ?_)
   .simp only[Region.wanted]
   .simp[execOp,go_sem]
   .have hb:Below w'.heap.size w' (w'.alloc (.cells #[.slice none 0 0] 37)):=Bx;refine⟨Ap.of hb hg.size,trivial,⟨hbx'.1.later hb,hbx'.2.below hb hbx'.2.lt⟩,?_⟩;have h8:=hg.alloc2;simpa [upd,h9]using h8
  case refine_13=>
   intro D sp w' hD hW hdp ⟨hbx',hg⟩;have hx:∃p n c,sp 7=.agg #[.slice p n c]/\Aj w' p n c (N/M):=(hdp 7 (mq (by kernel_rfl))).2;have h9:=(hdp 10 (mq (by kernel_rfl))).1;rw[h9]at hg
   (with_reducible refine Ay hx fun p hx1=>Ay hx1 fun n hx2=>Ay hx2 fun c hx3=>Ay (hg.store1 hx3.2) fun b hy1=>Ay hy1 fun q hy2=>Ay hy2 fun m hy3=>Ay hy3 fun d hy4=>?_)
   have h1:=hx3.1;have h3:=hy4.1;have h4:=hy4.2.1;have h5:=hy4.2.2.1;have h6:=h5.cell;have h7:=h5.free
   (with_reducible refine Aq (w1:=w'.setCell ⟨b,0,none⟩ (.slice p n c)) ?_ ?_ ?_)
   .simp only[Region.wanted]
   .simp[execOp,Act.eval,Act.put,go_sem,h1,h3,h6,h7]
   .refine⟨Ap.store h5 h4 _,trivial,⟨hbx'.1.below (B:=B0) ((Bb _ _).setCell h4 _) hB0',hbx'.2.other (by omega) _⟩,?_⟩;have h8:=hy4.2.2.2;simpa [upd,h9]using h8
  case refine_14=>
   intro D sp w' hD hW hdp ⟨hbx',hg⟩;have hx:∃p n c,sp 8=.agg #[.slice p n c]/\Aj w' p n c (N%M):=(hdp 8 (mq (by kernel_rfl))).2;have h9:=(hdp 11 (mq (by kernel_rfl))).1;rw[h9]at hg
   (with_reducible refine Ay hx fun p hx1=>Ay hx1 fun n hx2=>Ay hx2 fun c hx3=>Ay (hg.store2 hx3.2) fun b hy1=>Ay hy1 fun q hy2=>Ay hy2 fun m hy3=>Ay hy3 fun d hy4=>?_)
   have h1:=hx3.1;have h3:=hy4.1;have h4:=hy4.2.1;have h5:=hy4.2.2.1;have h6:=h5.cell;have h7:=h5.free
   (with_reducible refine Aq (w1:=w'.setCell ⟨b,0,none⟩ (.slice p n c)) ?_ ?_ ?_)
   .simp only[Region.wanted]
   .simp[execOp,Act.eval,Act.put,go_sem,h1,h3,h6,h7]
   .refine⟨Ap.store h5 h4 _,trivial,⟨hbx'.1.below (B:=B0) ((Bb _ _).setCell h4 _) hB0',hbx'.2.other (by omega) _⟩,?_⟩;have h8:=hy4.2.2.2;simpa [upd,h9]using h8
  all_goals
   intro D sp w' hD hW hdp ⟨hbx',hg⟩;have c0:=hbx'.1.c0;have c1:w'.cell? ⟨r,0,none⟩=some (.slice pm nm cm):=by rw[(Ca hbx'.1.bel).1 _ _ hrl];exact Ng HR.out
   simp[asked,Region.wanted,Oper.gives,execOp,Act.eval,Act.put,go_sem,c0,c1]
 .intro sp w7 hsp ⟨⟨hbx2,hbn⟩,hg⟩;obtain⟨b2,e2,hb2,pr,nr,cr,n2,hR1⟩:=hg.two rfl;replace hR1:=hR1 rfl;have n2c:=n2.cell;have hne:b2≠w.heap.size+1:=by omega
  clear hsp hg;simp only[An,Nat.reduceAdd];rw[e2];clear e2;generalize sp 5=u5,sp 6=u6,sp 7=u7,sp 8=u8,sp 10=u10,sp 12=u12,sp 13=u13 at *
  go_simp
  have d1:=hbx2.c1;have f1:=hbx2.f1;go_wp2;refine bodyPost_ret (v:=.agg #[.slice pr nr cr]) (by simp[results,Tryz.results31,go_sem,d1]) rfl ⟨pr,nr,cr,rfl,hR1.store hbn _,hbx2.bel.setCell (by simp) _⟩
structure Yn (w wr:World) (u0 u1 u2:Value):Prop where
 b0:Af wr w.heap.size u0
 b1:Af wr (w.heap.size+1) u1
 b2:Af wr (w.heap.size+1+1) u2
 bel:Below w.heap.size w wr
theorem Yn.later {w wr w1:World}{u0 u1 u2:Value}(h:Yn w wr u0 u1 u2)(hb:Below wr.heap.size wr w1):Yn w w1 u0 u1 u2 :=
 ⟨h.b0.below hb h.b0.lt,h.b1.below hb h.b1.lt,h.b2.below hb h.b2.lt,Ae h.bel hb⟩
theorem Yn.mk3 (w:World)(u0 u1 u2:Value) :
  Yn w (((w.alloc (.cells #[u0] 37)).alloc (.cells #[u1] 37)).alloc (.cells #[u2] 37)) u0 u1 u2:=by
 refine⟨?_,?_,?_,(((Bb _ _).alloc (As _) _).alloc (by simp) _).alloc (by simp;omega) _⟩
 .exact((Af.made w u0).below ((Bb _ _).alloc (As _) _) (by simp)).below ((Bb _ _).alloc (As _) _) (by simp;omega)
 .have:=(Af.made (w.alloc (.cells #[u0] 37)) u1).below ((Bb _ _).alloc (As _) (.cells #[u2] 37)) (by simp);simpa using this
 .have:=Af.made ((w.alloc (.cells #[u0] 37)).alloc (.cells #[u1] 37)) u2;simpa using this
structure eU (w wr:World) (u0 u1:Value):Prop where
 b0:Af wr w.heap.size u0
 b1:Af wr (w.heap.size+1) u1
 bel:Below w.heap.size w wr
theorem eU.later {w wr w1:World}{u0 u1:Value}(h:eU w wr u0 u1)(hb:Below wr.heap.size wr w1):eU w w1 u0 u1 :=
 ⟨h.b0.below hb h.b0.lt,h.b1.below hb h.b1.lt,Ae h.bel hb⟩
theorem eU.mk2 (w:World)(u0 u1:Value) :
  eU w ((w.alloc (.cells #[u0] 37)).alloc (.cells #[u1] 37)) u0 u1:=by
 refine⟨?_,?_,((Bb _ _).alloc (As _) _).alloc (by simp) _⟩
 .exact(Af.made w u0).below ((Bb _ _).alloc (As _) _) (by simp)
 .have:=Af.made (w.alloc (.cells #[u0] 37)) u1;simpa using this
structure Ring (w:World) (r M f:Nat):Prop where
 at_:RingAt w r M
 two:2<=M
 lim:M<Ar f
 few:f<=10000
theorem Ring.below {w w':World}{r M f:Nat}(h:Ring w r M f)(hb:Below w.heap.size w w'):Ring w' r M f:=⟨h.at_.below hb,h.two,h.lim,h.few⟩
theorem Aw {e N:Nat}{v:Value}{w:World}(h:Fit e N v w):∃p n c,v=.agg #[.slice p n c]/\Aj w p n c N/\N<Ar e:=h
theorem Eb {w:World}{r M f e N:Nat}{v:Value}(hR:Ring w r M f)(h:Fit e N v w)(he:e<=800000) :
  Calls Tryz.prog 31 #[.pointer (some ⟨r,0,none⟩),v] w fun en w'=>∃x,en=.returned x/\Fit f (N%M) x w'/\Below w.heap.size w w':=by
 obtain⟨p,n,c,rfl,h1,h2⟩:=h;refine(fN w r M p n c N e f hR.at_ (by have:=hR.two;omega) hR.lim h1 h2 he (by have:=hR.few;omega)).mono ?_;rintro en w' ⟨q,m,d,rfl,h3,hb⟩;exact⟨_,rfl,Fit.of h3 (Nat.lt_trans (Nat.mod_lt _ (by have:=hR.two;omega)) hR.lim),hb⟩
theorem Oc {w:World}{r M f e1 e2 N K:Nat}{v u:Value}(hR:Ring w r M f)(h:Fit e1 N v w)(k:Fit e2 K u w)(he1:e1<=300000)(he2:e2<=300000) :
  Calls Tryz.prog 32 #[.pointer (some ⟨r,0,none⟩),v,u] w fun en w'=>∃x,en=.returned x/\Fit f ((N+K)%M) x w'/\Below w.heap.size w w':=by
 obtain⟨pa,na,ca,rfl,h1,h2⟩:=Aw h;obtain⟨pb,nb,cb,rfl,k1,k2⟩:=Aw k;have hbx:=Yn.mk3 w (.slice pa na ca) (.slice pb nb cb) (.slice none 0 0);go_enter Tryz.func32,Tryz.ntmps32
 go_wp2_with fail
 refine(Nr (h.below hbx.bel) (k.below hbx.bel) (by omega) (by omega)).mono ?_;rintro en w1 ⟨x,rfl,hx,hb⟩;replace hbx:=hbx.later hb
 go_wp2_with fail
 refine(Eb (hR.below hbx.bel) hx (by omega)).mono ?_;rintro en w2 ⟨y,rfl,hy,hb2⟩;replace hbx:=hbx.later hb2;obtain⟨pc,nc,cc,rfl,y1,y2⟩:=hy;have c2:=hbx.b2.cell;have f2:=hbx.b2.free;have z2:=hbx.b2.lt;go_wp2;exact bodyPost_ret (v:=.agg #[.slice pc nc cc]) (by simp[results,Tryz.results32,go_sem,c2]) rfl ⟨_,rfl,Fit.of (y1.store hbx.b2 _) y2,hbx.bel.setCell (by simp;omega) _⟩
theorem Ge {w:World}{r M f e1 e2 N K:Nat}{v u:Value}(hR:Ring w r M f)(h:Fit e1 N v w)(k:Fit e2 K u w)(he1:e1<=300000)(he2:e2<=300000) :
  Calls Tryz.prog 33 #[.pointer (some ⟨r,0,none⟩),v,u] w fun en w'=>∃x,en=.returned x/\Fit f ((N*K)%M) x w'/\Below w.heap.size w w':=by
 obtain⟨pa,na,ca,rfl,h1,h2⟩:=Aw h;obtain⟨pb,nb,cb,rfl,k1,k2⟩:=Aw k;have hbx:=Yn.mk3 w (.slice pa na ca) (.slice pb nb cb) (.slice none 0 0);go_enter Tryz.func33,Tryz.ntmps33
 go_wp2_with fail
 refine(Ni (h.below hbx.bel) (k.below hbx.bel) (by omega) (by omega)).mono ?_;rintro en w1 ⟨x,rfl,hx,hb⟩;replace hbx:=hbx.later hb
 go_wp2_with fail
 refine(Eb (hR.below hbx.bel) hx (by omega)).mono ?_;rintro en w2 ⟨y,rfl,hy,hb2⟩;replace hbx:=hbx.later hb2;obtain⟨pc,nc,cc,rfl,y1,y2⟩:=hy;have c2:=hbx.b2.cell;have f2:=hbx.b2.free;have z2:=hbx.b2.lt;go_wp2;exact bodyPost_ret (v:=.agg #[.slice pc nc cc]) (by simp[results,Tryz.results33,go_sem,c2]) rfl ⟨_,rfl,Fit.of (y1.store hbx.b2 _) y2,hbx.bel.setCell (by simp;omega) _⟩
theorem Uf {w:World}{e N:Nat}{v:Value}(h:Fit e N v w)(he:e<=300000) :
  Calls Tryz.prog 119 #[v] w fun en w'=>∃x,en=.returned x/\Fit e N x w'/\Below w.heap.size w w':=by
 obtain⟨pa,na,ca,rfl,h1,h2⟩:=Aw h;have hbx:=eU.mk2 w (.slice pa na ca) (.slice none 0 0);have hz:∀w',Fit 0 0 (.agg #[.slice none 0 0]) w':=fun w'=>Fit.of (Aj.nil w') (by decide)
 have HZ:=Ag hz;clear hz;go_enter Tryz.func119,Tryz.ntmps119
 go_wp2_with fail
 refine(Nr (h.below hbx.bel) (HZ.out _) (by omega) (by omega)).mono ?_;rintro en w1 ⟨x,rfl,hx,hb⟩;replace hbx:=hbx.later hb;obtain⟨pc,nc,cc,rfl,y1,_⟩:=hx;have c1:=hbx.b1.cell;have f1:=hbx.b1.free;have z1:=hbx.b1.lt;go_wp2;exact bodyPost_ret (v:=.agg #[.slice pc nc cc]) (by simp[results,Tryz.results119,go_sem,c1]) rfl ⟨_,rfl,Fit.of (y1.store hbx.b1 _) h2,hbx.bel.setCell (by simp) _⟩
theorem Fd {w:World}{r M f:Nat}(hR:Ring w r M f) :
  Calls Tryz.prog 57 #[.pointer (some ⟨r,0,none⟩)] w fun en w'=>∃x,en=.returned x/\Fit f M x w'/\Below w.heap.size w w':=by
 have hrl:=hR.at_.lt
 have hfew:=hR.few;obtain⟨pm,nm,cm,hm1,hm2,_⟩:=hR.at_.ex
 have hFM:Fit f M (.agg #[.slice pm nm cm]) w:=Fit.of hm2 hR.lim;have hrc:=Ng hm1;have hb1:=Af.made w (.slice none 0 0);have hbel:Below w.heap.size w (w.alloc (.cells #[.slice none 0 0] 37)):=Bx;have hne:r≠w.heap.size:=by omega
 clear hm1;go_enter Tryz.func57,Tryz.ntmps57
 go_wp2_with fail
 refine(Uf (hFM.below hbel) (by omega)).mono ?_;rintro en w1 ⟨x,rfl,hx,hb⟩;obtain⟨pc,nc,cc,rfl,y1,y2⟩:=hx;have hbn:=hb1.below hb hb1.lt;have c1:=hbn.cell;have f1:=hbn.free;have z1:=hbn.lt;go_wp2;exact bodyPost_ret (v:=.agg #[.slice pc nc cc]) (by simp[results,Tryz.results57,go_sem,c1]) rfl ⟨_,rfl,Fit.of (y1.store hbn _) y2,(Ae hbel hb).setCell (by simp) _⟩
def Hm (x:Nat)(v:Value)(w:World):Prop:=∃p n c,v=.tuple #[.agg #[.slice p n c],.bool true]/\Aj w p n c x
theorem Hm.keep {x B:Nat}{v:Value}{w w':World}(h:Hm x v w)(k:Ap B w w'):Hm x v w' :=
 let ⟨p,n,c,h1,h2⟩:=h
 ⟨p,n,c,h1,k.nat _ _ _ _ h2⟩
theorem Vm {w:World}{v u:Value}{e f N K:Nat}(h:Fit e N v w)(k:Fit f K u w)(hle:K<=N)(he:e<=800000)(hf:f<=800000) :
  Calls Tryz.prog 113 #[v,u] w fun en w'=>∃z,en=.returned z/\Hm (N-K) z w'/\Below w.heap.size w w':=by
 refine(Ww h k (by omega) (by omega)).mono ?_;rintro en w' ⟨x,rfl,⟨p,n,c,rfl,h1,_⟩,hb⟩;rw[decide_eq_true hle];exact⟨_,rfl,⟨p,n,c,rfl,h1⟩,hb⟩
theorem Rh {w:World}{r M f e K:Nat}{v:Value}(hR:Ring w r M f)(h:Fit e K v w)(hle:K<=M)(he:e<=300000) :
  Calls Tryz.prog 112 #[.pointer (some ⟨r,0,none⟩),v] w fun en w'=>∃x,en=.returned x/\Fit f (M-K) x w'/\Below w.heap.size w w':=by
 have hrl:=hR.at_.lt
 have hfew:=hR.few;obtain⟨pm,nm,cm,hm1,hm2,_⟩:=hR.at_.ex
 obtain⟨pa,na,ca,rfl,h1,h2⟩:=Aw h;have hFM:Fit f M (.agg #[.slice pm nm cm]) w:=Fit.of hm2 hR.lim;have hlim:Hid (M-K<Ar f):=Ag (by have:=hR.lim;omega);have HR:=Ag hm1;have HLE:=Ag hle;have hbx:=eU.mk2 w (.slice pa na ca) (.slice none 0 0);obtain⟨B0,hB0⟩:∃B0,w.heap.size+2=B0:=⟨_,rfl⟩
 have HB0:=Ag hB0;have hB0':w.heap.size+2<=B0:=Nat.le_of_eq hB0;clear hB0 hm1 hle;go_enter Tryz.func112,Tryz.ntmps112;go_wp2;refine Am (by kernel_rfl) (by kernel_rfl)
  [some (.pointer (some ⟨r,0,none⟩)),some (.pointer (some ⟨r,0,none⟩)),some (.pointer (some ⟨r,0,none⟩)),some (.agg #[.slice pm nm cm]),some (.agg #[.slice pa na ca]),none,none,none,some (.bool true),none,none,some (.bool true)]
  [false,false,false,false,false,true,true,true,false,true,true,false] rfl
  (fun w1 w2=>Ap B0 w1 w2)
  (fun D sp w'=>eU w w' (.slice pa na ca) (.slice none 0 0)/\Ir B0 (M-K) 0 (D 9) false (D 10) false (sp 9) undef w')
  (fun i v w'=>match i with
   | 5|6=>Hm (M-K) v w'
   | 7=>Dr (M-K) v w'
   | _=>True)
  ?_ ⟨hbx.later ((Bb _ _).drew),Ir.start (by simpa using Nat.le_of_eq HB0.out.symm)⟩ ?_ ?_
 .intro i v w1 w2 hf hb;split at hf
  .exact Hm.keep hf hb
  .exact Hm.keep hf hb
  .exact Dr.keep hf hb
  .trivial
 .simp only[Bf,Nat.reduceAdd];refine⟨?_,?_,?_,?_,?_,?_,?_,?_,?_,?_,?_,?_,trivial⟩
  case refine_6=>
   intro D sp w' hD hW hdp ⟨hbx',hg⟩
   (with_reducible refine Ac (w1:=w') (f := 113) (args:=#[.agg #[.slice pm nm cm],.agg #[.slice pa na ca]]) ?_ ?_ ?_)
   .simp only[Region.wanted]
   .simp[Act.eval,Act.put,go_sem]
   .refine(Vm (hFM.below hbx'.bel) (h.below hbx'.bel) HLE.out (by omega) (by omega)).mono ?_;rintro e w5 ⟨u,rfl,hu,hb⟩;exact⟨u,rfl,Ap.of hb hg.size,hu,hbx'.later hb,by simpa [upd]using hg.later hb⟩
  case refine_7=>
   intro D sp w' hD hW hdp ⟨hbx',hg⟩;have k4:Hm (M-K) (sp 5) w':=(hdp 5 (mq (by kernel_rfl))).2
   (with_reducible refine Ai (w1:=w') (v:=sp 5) ?_ ?_ ?_)
   .simp only[Region.wanted]
   .simp[execOp,Act.eval,Act.put,go_sem]
   .exact⟨Ap.same _ _,k4,hbx',by simpa [upd]using hg⟩
  case refine_8=>
   intro D sp w' hD hW hdp ⟨hbx',hg⟩;have hx:∃p n c,sp 6=.tuple #[.agg #[.slice p n c],.bool true]/\Aj w' p n c (M-K):=(hdp 6 (mq (by kernel_rfl))).2
   (with_reducible refine Ay hx fun p hx1=>Ay hx1 fun n hx2=>Ay hx2 fun c hx3=>?_)
   have h1:=hx3.1
   (with_reducible refine Ai (w1:=w') (v:=.agg #[.slice p n c]) ?_ ?_ ?_)
   .simp only[Region.wanted]
   .simp[execOp,Act.eval,Act.put,go_sem,h1]
   .exact⟨Ap.same _ _,⟨p,n,c,rfl,hx3.2⟩,hbx',by simpa [upd]using hg⟩
  case refine_9=>
   intro D sp w' hD hW hdp ⟨hbx',hg⟩;have hx:∃p n c,sp 6=.tuple #[.agg #[.slice p n c],.bool true]/\Aj w' p n c (M-K):=(hdp 6 (mq (by kernel_rfl))).2
   (with_reducible refine Ay hx fun p hx1=>Ay hx1 fun n hx2=>Ay hx2 fun c hx3=>?_)
   have h1:=hx3.1;simp[asked,Region.wanted,Oper.gives,execOp,Act.eval,Act.put,go_sem,h1]
  case refine_10=>
   intro D sp w' hD hW hdp ⟨hbx',hg⟩;have h9:D 10=false:=hW 10 (mq (by kernel_rfl));rw[hD,h9]at hg
   (with_reducible refine Ai (w1:=w'.alloc (.cells #[.slice none 0 0] 37)) (v:=.pointer (some ⟨w'.heap.size,0,none⟩)) ?_ ?_ ?_)
   .simp only[Region.wanted]
   .simp[execOp,go_sem]
   .have hb:Below w'.heap.size w' (w'.alloc (.cells #[.slice none 0 0] 37)):=Bx;refine⟨Ap.of hb hg.size,trivial,hbx'.later hb,?_⟩;have h8:=hg.alloc1;simpa [upd,h9]using h8
  case refine_11=>
   intro D sp w' hD hW hdp ⟨hbx',hg⟩;have hx:∃p n c,sp 7=.agg #[.slice p n c]/\Aj w' p n c (M-K):=(hdp 7 (mq (by kernel_rfl))).2;have h9:=(hdp 9 (mq (by kernel_rfl))).1;rw[h9]at hg
   (with_reducible refine Ay hx fun p hx1=>Ay hx1 fun n hx2=>Ay hx2 fun c hx3=>Ay (hg.store1 hx3.2) fun b hy1=>Ay hy1 fun q hy2=>Ay hy2 fun m hy3=>Ay hy3 fun d hy4=>?_)
   have h1:=hx3.1;have h3:=hy4.1;have h4:=hy4.2.1;have h5:=hy4.2.2.1;have h6:=h5.cell;have h7:=h5.free
   (with_reducible refine Aq (w1:=w'.setCell ⟨b,0,none⟩ (.slice p n c)) ?_ ?_ ?_)
   .simp only[Region.wanted]
   .simp[execOp,Act.eval,Act.put,go_sem,h1,h3,h6,h7]
   .refine⟨Ap.store h5 h4 _,trivial,⟨hbx'.b0.other (by omega) _,hbx'.b1.other (by omega) _,hbx'.bel.setCell (by have:=h4;simp;omega) _⟩,?_⟩;have h8:=hy4.2.2.2;simpa [upd,h9]using h8
  all_goals
   intro D sp w' hD hW hdp ⟨hbx',hg⟩;have c0:=hbx'.b0.cell;have c1:w'.cell? ⟨r,0,none⟩=some (.slice pm nm cm):=by rw[(Ca hbx'.bel).1 _ _ hrl];exact Ng HR.out
   simp[asked,Region.wanted,Oper.gives,execOp,Act.eval,Act.put,go_sem,c0,c1]
 .intro sp w7 hsp ⟨hbx2,hg⟩;obtain⟨b2,e2,hb2,pr,nr,cr,n2,hR1⟩:=hg.one rfl;replace hR1:=hR1 rfl;have n2c:=n2.cell;have hne:b2≠w.heap.size+1:=by omega
  clear hsp hg;simp only[An,Nat.reduceAdd];rw[e2];clear e2;generalize sp 5=u5,sp 6=u6,sp 7=u7,sp 10=u10 at *
  go_simp
  have d1:=hbx2.b1.cell;have f1:=hbx2.b1.free;go_wp2;exact bodyPost_ret (v:=.agg #[.slice pr nr cr]) (by simp[results,Tryz.results112,go_sem,d1]) rfl ⟨_,rfl,Fit.of (hR1.store hbx2.b1 _) hlim.out,hbx2.bel.setCell (by simp) _⟩
def Cj (w:World)(b N:Nat):Prop:=∃p n c,Af w b (.slice p n c)/\Aj w p n c N
theorem Cj.below {w w':World}{b N:Nat}(h:Cj w b N)(hb:Below w.heap.size w w'):Cj w' b N :=
 let ⟨p,n,c,h1,h2⟩:=h
 ⟨p,n,c,h1.below hb h1.lt,h2.below hb⟩
theorem Cj.other {w:World}{b b' N:Nat}{q:Option Addr}{m d:Nat}(h:Cj w b N)(hb:Af w b' (.slice q m d))(hne:b≠b')(v:Value):Cj (w.setCell ⟨b',0,none⟩ v) b N :=
 let ⟨p,n,c,h1,h2⟩:=h
 ⟨p,n,c,h1.other hne v,h2.store hb v⟩
theorem Hs {e N:Nat}{p:Option Addr}{n c:Nat}{w:World}(h:Fit e N (.agg #[.slice p n c]) w):Aj w p n c N:=by
 obtain⟨q,m,d,he,h1,_⟩:=h;cases he;exact h1
def Ly (N K M:Nat):Nat:=if K%M<=N%M then N%M-K%M else M-K%M+N%M
theorem Wx {N K M:Nat}(hM:2<=M):Ly N K M<M:=by
 have h1:=Nat.mod_lt N (show 0<M by omega);have h2:=Nat.mod_lt K (show 0<M by omega);unfold Ly;split<;>omega
theorem Wy {N K M:Nat}(hM:2<=M):Ly N K M=(N%M+M-K%M)%M:=by
 have h1:=Nat.mod_lt N (show 0<M by omega);have h2:=Nat.mod_lt K (show 0<M by omega);unfold Ly;generalize N%M=a at *;generalize K%M=b at *;split
 .rw[show a+M-b=(a-b)+M by omega,Nat.add_mod_right,Nat.mod_eq_of_lt (by omega)]
 .rw[Nat.mod_eq_of_lt (by omega)];omega
structure Ke (w wr:World) (d6 d7:Bool) (ua ub:Value) (x y:Nat):Prop where
 a0:d6=false->Af wr w.heap.size ua
 a1:d6=true->Cj wr w.heap.size x
 c0:d7=false->Af wr (w.heap.size+1) ub
 c1:d7=true->Cj wr (w.heap.size+1) y
 b2:Af wr (w.heap.size+1+1) (.slice none 0 0)
 bel:Below w.heap.size w wr
theorem Ke.later {w wr w1:World}{d6 d7:Bool}{ua ub:Value}{x y:Nat}(h:Ke w wr d6 d7 ua ub x y)(hb:Below wr.heap.size wr w1):Ke w w1 d6 d7 ua ub x y :=
 ⟨fun a=>(h.a0 a).below hb (h.a0 a).lt,fun a=>(h.a1 a).below hb,fun a=>(h.c0 a).below hb (h.c0 a).lt,fun a=>(h.c1 a).below hb,h.b2.below hb h.b2.lt,Ae h.bel hb⟩
theorem Ke.store6 {w wr:World}{d7:Bool}{qa:Option Addr}{ma da:Nat}{ub:Value}{x y:Nat}{p:Option Addr}{n c:Nat}(h:Ke w wr false d7 (.slice qa ma da) ub x y)(hx:Aj wr p n c x) :
  Ke w (wr.setCell ⟨w.heap.size,0,none⟩ (.slice p n c)) true d7 (.slice qa ma da) ub x y :=
 let hb:=h.a0 rfl
 ⟨(fun a=>by cases a),fun _=>⟨p,n,c,hb.set _,hx.store hb _⟩,fun a=>(h.c0 a).other (by omega) _,fun a=>(h.c1 a).other hb (by omega) _,h.b2.other (by omega) _,h.bel.setCell (As _) _⟩
theorem Ke.store7 {w wr:World}{d6:Bool}{qb:Option Addr}{mb db:Nat}{ua:Value}{x y:Nat}{p:Option Addr}{n c:Nat}(h:Ke w wr d6 false ua (.slice qb mb db) x y)(hy:Aj wr p n c y) :
  Ke w (wr.setCell ⟨w.heap.size+1,0,none⟩ (.slice p n c)) d6 true ua (.slice qb mb db) x y :=
 let hb:=h.c0 rfl
 ⟨fun a=>(h.a0 a).other (by omega) _,fun a=>(h.a1 a).other hb (by omega) _,(fun a=>by cases a),fun _=>⟨p,n,c,hb.set _,hy.store hb _⟩,h.b2.other (by omega) _,h.bel.setCell (by simp) _⟩
theorem cB {w:World}{r M f e1 e2 N K:Nat}{v u:Value}(hR:Ring w r M f)(h:Fit e1 N v w)(k:Fit e2 K u w)(he1:e1<=300000)(he2:e2<=300000) :
  Calls Tryz.prog 55 #[.pointer (some ⟨r,0,none⟩),v,u] w fun en w'=>∃x,en=.returned x/\Fit f (Ly N K M) x w'/\Below w.heap.size w w':=by
 obtain⟨pa,na,ca,rfl,h1,h2⟩:=Aw h;obtain⟨pb,nb,cb,rfl,k1,k2⟩:=Aw k;have hfew:=hR.few;have hlim:Hid (Ly N K M<Ar f):=Ag (Nat.lt_trans (Wx hR.two) hR.lim);have hKM:Hid (K%M<M):=Ag (Nat.mod_lt _ (by have:=hR.two;omega));have hbx:=Yn.mk3 w (.slice pa na ca) (.slice pb nb cb) (.slice none 0 0);go_enter Tryz.func55,Tryz.ntmps55;go_wp2;refine Am (by kernel_rfl) (by kernel_rfl)
  [some (.pointer (some ⟨r,0,none⟩)),some (.agg #[.slice pa na ca]),none,some (.pointer (some ⟨r,0,none⟩)),some (.agg #[.slice pb nb cb]),none,none,none]
  [false,false,true,false,false,true,true,true] rfl
  (fun w1 w2=>Ap w.heap.size w1 w2)
  (fun D _ w'=>Ke w w' (D 6) (D 7) (.slice pa na ca) (.slice pb nb cb) (N%M) (K%M))
  (fun i v w'=>match i with
   | 2=>Dr (N%M) v w'
   | 5=>Dr (K%M) v w'
   | _=>True)
  ?_ ⟨fun _=>hbx.b0,(fun a=>by cases a),fun _=>hbx.b1,(fun a=>by cases a),hbx.b2,hbx.bel.trans (Bb _ _).drew⟩ ?_ ?_
 .intro i v w1 w2 hf hb;split at hf
  .exact Dr.keep hf hb
  .exact Dr.keep hf hb
  .trivial
 .simp only[Bf,Nat.reduceAdd];refine⟨?_,?_,?_,?_,?_,?_,?_,?_,trivial⟩
  case refine_2=>
   intro D sp w' hD hW hdp hg;have h6:D 6=false:=hW 6 (mq (by kernel_rfl));have c0:=(hg.a0 h6).cell;simp[asked,Region.wanted,Oper.gives,execOp,Act.eval,Act.put,go_sem,c0]
  case refine_5=>
   intro D sp w' hD hW hdp hg;have h6:D 7=false:=hW 7 (mq (by kernel_rfl));have c0:=(hg.c0 h6).cell;simp[asked,Region.wanted,Oper.gives,execOp,Act.eval,Act.put,go_sem,c0]
  case refine_3=>
   intro D sp w' hD hW hdp hg
   (with_reducible refine Ac (w1:=w') (f := 31) (args:=#[.pointer (some ⟨r,0,none⟩),.agg #[.slice pa na ca]]) ?_ ?_ ?_)
   .simp only[Region.wanted]
   .simp[Act.eval,Act.put,go_sem]
   .refine(Eb (hR.below hg.bel) (h.below hg.bel) (by omega)).mono ?_;rintro e w5 ⟨u,rfl,⟨p,n,c,hu,hu1,_⟩,hb⟩;exact⟨u,rfl,Ap.of hb hg.bel.size,⟨p,n,c,hu,hu1⟩,by simpa using hg.later hb⟩
  case refine_6=>
   intro D sp w' hD hW hdp hg
   (with_reducible refine Ac (w1:=w') (f := 31) (args:=#[.pointer (some ⟨r,0,none⟩),.agg #[.slice pb nb cb]]) ?_ ?_ ?_)
   .simp only[Region.wanted]
   .simp[Act.eval,Act.put,go_sem]
   .refine(Eb (hR.below hg.bel) (k.below hg.bel) (by omega)).mono ?_;rintro e w5 ⟨u,rfl,⟨p,n,c,hu,hu1,_⟩,hb⟩;exact⟨u,rfl,Ap.of hb hg.bel.size,⟨p,n,c,hu,hu1⟩,by simpa using hg.later hb⟩
  case refine_7=>
   intro D sp w' hD hW hdp hg;have hx:∃p n c,sp 2=.agg #[.slice p n c]/\Aj w' p n c (N%M):=(hdp 2 (mq (by kernel_rfl))).2;rw[hD]at hg
   (with_reducible refine Ay hx fun p hx1=>Ay hx1 fun n hx2=>Ay hx2 fun c hx3=>?_)
   have g1:=hx3.1;have hbx0:=hg.a0 rfl;have g2:=hbx0.cell;have g3:=hbx0.free
   (with_reducible refine Aq (w1:=w'.setCell ⟨w.heap.size,0,none⟩ (.slice p n c)) ?_ ?_ ?_)
   .simp only[Region.wanted]
   .simp[execOp,Act.eval,Act.put,go_sem,g1,g2,g3]
   .exact⟨Ap.store hbx0 (As _) _,trivial,by simpa using hg.store6 hx3.2⟩
  case refine_8=>
   intro D sp w' hD hW hdp hg;have hx:∃p n c,sp 5=.agg #[.slice p n c]/\Aj w' p n c (K%M):=(hdp 5 (mq (by kernel_rfl))).2;rw[hD]at hg
   (with_reducible refine Ay hx fun p hx1=>Ay hx1 fun n hx2=>Ay hx2 fun c hx3=>?_)
   have g1:=hx3.1;have hbx0:=hg.c0 rfl;have g2:=hbx0.cell;have g3:=hbx0.free
   (with_reducible refine Aq (w1:=w'.setCell ⟨w.heap.size+1,0,none⟩ (.slice p n c)) ?_ ?_ ?_)
   .simp only[Region.wanted]
   .simp[execOp,Act.eval,Act.put,go_sem,g1,g2,g3]
   .exact⟨Ap.store hbx0 (by simp) _,trivial,by simpa using hg.store7 hx3.2⟩
  all_goals
   intro D sp w' hD hW hdp hg;simp[asked,Region.wanted,Oper.gives,execOp,Act.eval,Act.put,go_sem]
 .intro sp w7 hsp hg;obtain⟨p1,n1,c1,x1,x2⟩:=hg.a1 rfl;obtain⟨p2,n2,c2,y1,y2⟩:=hg.c1 rfl;have hb2:=hg.b2;have hbel:=hg.bel;clear hsp hg;simp only[An,Nat.reduceAdd];generalize sp 2=u2,sp 5=u5,sp 6=u6,sp 7=u7 at *
  go_simp
  have hMf:=hR.lim;have hF1:Fit f (N%M) (.agg #[.slice p1 n1 c1]) w7:=Fit.of x2 (Nat.lt_trans (Nat.mod_lt _ (by have:=hR.two;omega)) hMf);have hF2:Fit f (K%M) (.agg #[.slice p2 n2 c2]) w7:=Fit.of y2 (Nat.lt_trans (Nat.mod_lt _ (by have:=hR.two;omega)) hMf);have a0:=x1.cell;have a1:=y1.cell;clear x2 y2 hMf
  go_wp2_with fail
  refine(Ww hF1 hF2 (by omega) (by omega)).mono ?_;rintro en w8 ⟨z,rfl,hZ,hb⟩;obtain⟨p3,n3,c3,rfl,z1,z2⟩:=hZ;have hZF:Fit f (N%M-K%M) (.agg #[.slice p3 n3 c3]) w8:=⟨_,_,_,rfl,z1,z2⟩
  replace hbel:=Ae hbel hb;have hRb:=hR.below hbel;have nb3:=Af.made w8 (.slice p3 n3 c3);have hb3:Below w8.heap.size w8 (w8.alloc (.cells #[.slice p3 n3 c3] 37)):=Bx;replace x1:=(x1.below hb x1.lt).below hb3 (Ej x1.lt hb.size);replace y1:=(y1.below hb y1.lt).below hb3 (Ej y1.lt hb.size);have hb8:=hb2.below hb hb2.lt;replace hb2:=hb8.below hb3 hb8.lt;have hs8:=hb8.lt;clear a0 a1
  by_cases hle:K%M<=N%M
  .rw[decide_eq_true hle];have hv:Hid (Ly N K M=N%M-K%M):=Ag (by unfold Ly;rw[if_pos hle]);have d0:=nb3.cell;have d1:=hb2.cell;have d2:=hb2.free;clear hle;go_wp2;have hb9:=(hb8.set (.slice p3 n3 c3)).below ((Bb _ _).alloc (As _) (.cells #[.slice p3 n3 c3] 37)) (by simpa using hb8.lt);have d3:=hb9.cell;refine bodyPost_ret (v:=.agg #[.slice p3 n3 c3]) (by simp[results,Tryz.results55,go_sem,d3]) rfl ⟨_,rfl,Fit.of ?_ hlim.out,(hbel.setCell (by simp;omega) _).alloc (by simpa using hbel.size) _⟩;rw[hv.out];exact(z1.store hb8 _).below ((Bb _ _).alloc (As _) _)
  .rw[decide_eq_false hle];have hv:Hid (Ly N K M=M-K%M+N%M):=Ag (by unfold Ly;rw[if_neg hle]);clear hle;obtain⟨w9,hw9⟩:∃w9,w8.alloc (.cells #[.slice p3 n3 c3] 37)=w9:=⟨_,rfl⟩
   rw[hw9]at hb3 x1 y1 hb2
   have hn1:=((Hs hF1).below hb).below hb3;have hn2:=((Hs hF2).below hb).below hb3;have hbel9:=Ae hbel hb3;have hM2:=hR.two;have hMl:=Ag hR.lim;go_wp2
   try rw[hw9]
   clear hw9 nb3 hRb hbel hb hb8;refine Ah (by kernel_rfl) (by kernel_rfl)
    [some (.pointer (some ⟨r,0,none⟩)),some (.agg #[.slice p2 n2 c2]),none,some (.agg #[.slice p1 n1 c1]),none,none]
    [false,false,true,false,true,true] rfl
    (fun w1 w2=>Ap w.heap.size w1 w2)
    (fun D w'=>(Af w' w.heap.size (.slice p1 n1 c1)/\Af w' (w.heap.size+1) (.slice p2 n2 c2)/\Aj w' p1 n1 c1 (N%M)/\Aj w' p2 n2 c2 (K%M)/\Below w.heap.size w w')/\(D 5=false->Af w' (w.heap.size+1+1) (.slice none 0 0))/\(D 5=true->Cj w' (w.heap.size+1+1) (M-K%M+N%M)))
    (fun i v w'=>match i with
     | 2=>Fit f (M-K%M) v w'
     | 4=>Dr (M-K%M+N%M) v w'
     | _=>True)
    ?_ ⟨⟨x1,y1,hn1.below (Bb _ _).drew,hn2.below (Bb _ _).drew,hbel9.trans (Bb _ _).drew⟩,fun _=>hb2,(fun a=>by cases a)⟩ ?_ ?_
   .intro i v w1 w2 hf hb;split at hf
    .exact Fit.keep hf hb
    .exact Dr.keep hf hb
    .trivial
   .simp only[Ba,Nat.reduceAdd];refine⟨?_,?_,?_,?_,?_,?_,trivial⟩
    case refine_3=>
     intro D sp w' hD hW hdp hg
     (with_reducible refine Ac (w1:=w') (f := 112) (args:=#[.pointer (some ⟨r,0,none⟩),.agg #[.slice p2 n2 c2]]) ?_ ?_ ?_)
     .simp only[Region.wanted]
     .simp[Act.eval,Act.put,go_sem]
     .refine(Rh (hR.below hg.1.2.2.2.2) (Fit.of (e:=f) hg.1.2.2.2.1 (Nat.lt_trans hKM.out hMl.out)) (Nat.le_of_lt hKM.out) (by omega)).mono ?_;rintro e w5 ⟨u,rfl,hu,hb⟩;exact⟨u,rfl,Ap.of hb hg.1.2.2.2.2.size,hu,⟨hg.1.1.below hb hg.1.1.lt,hg.1.2.1.below hb hg.1.2.1.lt,hg.1.2.2.1.below hb,hg.1.2.2.2.1.below hb,Ae hg.1.2.2.2.2 hb⟩,by simpa using fun a=>(hg.2.1 a).below hb (hg.2.1 a).lt,by simpa using fun a=>(hg.2.2 a).below hb⟩
    case refine_5=>
     intro D sp w' hD hW hdp hg;have k2:Fit f (M-K%M) (sp 2) w':=(hdp 2 (mq (by kernel_rfl))).2
     (with_reducible refine Ac (w1:=w') (f := 94) (args:=#[sp 2,.agg #[.slice p1 n1 c1]]) ?_ ?_ ?_)
     .simp only[Region.wanted]
     .simp[Act.eval,Act.put,go_sem]
     .refine(Nr k2 (Fit.of (e:=f) hg.1.2.2.1 (Nat.lt_trans (Nat.mod_lt _ (by omega)) hMl.out)) (by omega) (by omega)).mono ?_;rintro e w5 ⟨u,rfl,⟨p,n,c,hu,hu1,_⟩,hb⟩;exact⟨u,rfl,Ap.of hb hg.1.2.2.2.2.size,⟨p,n,c,hu,hu1⟩,⟨hg.1.1.below hb hg.1.1.lt,hg.1.2.1.below hb hg.1.2.1.lt,hg.1.2.2.1.below hb,hg.1.2.2.2.1.below hb,Ae hg.1.2.2.2.2 hb⟩,by simpa using fun a=>(hg.2.1 a).below hb (hg.2.1 a).lt,by simpa using fun a=>(hg.2.2 a).below hb⟩
    case refine_6=>
     intro D sp w' hD hW hdp hg;have hx:∃p n c,sp 4=.agg #[.slice p n c]/\Aj w' p n c (M-K%M+N%M):=(hdp 4 (mq (by kernel_rfl))).2
     (with_reducible refine Ay hx fun p hx1=>Ay hx1 fun n hx2=>Ay hx2 fun c hx3=>?_)
     have g1:=hx3.1;have hbx0:=hg.2.1 hD;have g2:=hbx0.cell;have g3:=hbx0.free;have o1:=hg.1.1.other (b':=w.heap.size+1+1) (by omega) (.slice p n c);have o2:=hg.1.2.1.other (b':=w.heap.size+1+1) (by omega) (.slice p n c)
     (with_reducible refine Aq (w1:=w'.setCell ⟨w.heap.size+1+1,0,none⟩ (.slice p n c)) ?_ ?_ ?_)
     .simp only[Region.wanted]
     .simp[execOp,Act.eval,Act.put,go_sem,g1,g2,g3]
     .exact⟨Ap.store hbx0 (by omega) _,trivial,⟨o1,o2,hg.1.2.2.1.store hbx0 _,hg.1.2.2.2.1.store hbx0 _,hg.1.2.2.2.2.setCell (by simp;omega) _⟩,(fun a=>by simp at a),fun _=>⟨p,n,c,hbx0.set _,hx3.2.store hbx0 _⟩⟩
    all_goals
     intro D sp w' hD hW hdp hg;have c0:=hg.1.1.cell;have c1:=hg.1.2.1.cell;simp[asked,Region.wanted,Oper.gives,execOp,Act.eval,Act.put,go_sem,c0,c1]
   .intro sp w10 hsp hg;obtain⟨p4,n4,c4,q1,q2⟩:=hg.2.2 rfl;have hbel10:=hg.1.2.2.2.2;have d3:=q1.cell;clear hsp hg;simp only[An,Nat.reduceAdd];generalize sp 2=u2' at *;generalize sp 4=u4' at *;generalize sp 5=u5' at *
    go_simp
    go_wp2;refine bodyPost_ret (v:=.agg #[.slice p4 n4 c4]) (by simp[results,Tryz.results55,go_sem,d3]) rfl ⟨_,rfl,Fit.of ?_ hlim.out,hbel10⟩;rw[hv.out];exact q2
theorem Wt (w:World) :
  Calls Tryz.prog 17 #[.int .u64 2] w fun en w'=>∃x,en=.returned x/\Fit 1 2 x w'/\Below w.heap.size w w':=by
 refine(Do 2 w (by decide)).mono ?_;rintro en w' ⟨p,n,c,rfl,hn,hb,_⟩;exact⟨_,rfl,Fit.of hn (by decide),hb⟩
def iZ (N e:Nat)(w:World)(en:Ending)(w':World):Prop :=
 Below w.heap.size w w'/\((N<2/\en=.returned (.tuple #[.pointer none,.int .i64 1])) ∨ (2<=N/\∃r,en=.returned (.tuple #[.pointer (some ⟨r,0,none⟩),.int .i64 0])/\Ring w' r N e/\w.heap.size<=r))
theorem Ix {w:World}{e N:Nat}{v:Value}(h:Fit e N v w)(he:e<=10000) :
  Calls Tryz.prog 92 #[v] w (iZ N e w):=by
 obtain⟨pa,na,ca,rfl,h1,h2⟩:=Aw h;have hbx:=Ef.mk1 w (.slice pa na ca) 37;obtain⟨K,hK⟩:∃K,Bo N 2=K:=⟨_,rfl⟩
 obtain⟨E,hE⟩:∃E,decide (K<0)=E:=⟨_,rfl⟩
 have HK:=Ag hK;have HE:=Ag hE;have H2:=Ag h2;clear hK hE h2;go_enter Tryz.func92,Tryz.ntmps92;go_wp2;have hE:=HE.out;refine Ah (by kernel_rfl) (by kernel_rfl)
  [some (.agg #[.slice pa na ca]),none,none,some (.bool E)]
  [false,true,true,false] rfl
  (fun w1 w2=>Below w1.heap.size w1 w2)
  (fun _ w'=>Ef w w' (.slice pa na ca))
  (fun i v w'=>match i with
   | 1=>Fit 1 2 v w'
   | 2=>v=.int .i64 K
   | _=>True)
  ?_ (hbx.below (Bb _ _).drew (As _)) ?_ ?_
 .intro i v w1 w2 hf hb;split at hf
  .exact hf.below hb
  .exact hf
  .trivial
 .simp only[Ba,Nat.reduceAdd];refine⟨?_,?_,?_,?_,trivial⟩
  case refine_2=>
   intro D sp w' hD hW hdp hbx'
   (with_reducible refine Ac (w1:=w') (f := 17) (args:=#[.int .u64 2]) ?_ ?_ ?_)
   .simp only[Region.wanted]
   .simp[Act.eval,Act.put,go_sem]
   .refine(Wt w').mono ?_;rintro e w5 ⟨u,rfl,hu,hb⟩;exact⟨u,rfl,hb,hu,hbx'.later hb⟩
  case refine_3=>
   intro D sp w' hD hW hdp hbx';have k1:Fit 1 2 (sp 1) w':=(hdp 1 (mq (by kernel_rfl))).2
   (with_reducible refine Ac (w1:=w') (f := 24) (args:=#[.agg #[.slice pa na ca],sp 1]) ?_ ?_ ?_)
   .simp only[Region.wanted]
   .simp[Act.eval,Act.put,go_sem]
   .refine(Bu (h.below hbx'.bel) k1 (by omega) (by omega) HK.out).mono ?_;rintro e w5 ⟨u,rfl,hu,hb⟩;exact⟨u,rfl,hb,hu,hbx'.later hb⟩
  case refine_4=>
   intro D sp w' hD hW hdp hbx';have k2:sp 2=.int .i64 K:=(hdp 2 (mq (by kernel_rfl))).2;simp[asked,Region.wanted,Oper.gives,execOp,Act.eval,Act.put,go_sem,k2,hE]
  all_goals
   intro D sp w' hD hW hdp hbx';have c0:=hbx'.c0;simp[asked,Region.wanted,Oper.gives,execOp,Act.eval,go_sem,c0]
 .intro sp w2 hsp hbx';clear hsp hE;simp only[An,Nat.reduceAdd];generalize sp 1=u1,sp 2=u2 at *
  go_simp
  by_cases h2:N<2
  .have hEt:E=true:=by rw[<-HE.out,<-HK.out,Dl h2];rfl
   have HN:=Ag h2;clear h2;subst hEt;go_wp2
   go_ret2
   exact⟨hbx'.bel,.inl ⟨HN.out,rfl⟩⟩
  .have hEf:E=false:=by
    rw[<-HE.out,<-HK.out,decide_eq_false_iff_not];unfold Bo;rw[if_neg h2];split<;>omega
   have HN:Hid (2<=N):=Ag (by omega);have c0:=hbx'.c0;clear h2;subst hEf
   go_wp2_with fail
   refine(Uf (h.below hbx'.bel) (by omega)).mono ?_;rintro en w3 ⟨x,rfl,hx,hb⟩;obtain⟨pc,nc,cc,rfl,x1,x2⟩:=hx;have hbel:=Ae hbx'.bel hb;have hl:=x1.len_le x2;go_wp2
   go_ret2
   refine⟨hbel.alloc hbel.size _,.inr ⟨HN.out,w3.heap.size,rfl,⟨⟨pc,nc,cc,heap_alloc_new w3 _,x1.below ((Bb _ _).alloc (As _) _),by omega⟩,HN.out,x2,he⟩,hbel.size⟩⟩
theorem bE (a b:Nat):Ao (a+b)<=Ao a+Ao b+1:=by
 refine(Bg _ _).2 ?_;have h1:=Ec a;have h2:=Ec b;have h3:2^Ao a<=2^(Ao a+Ao b):=Nat.pow_le_pow_right (by omega) (by omega);have h4:2^Ao b<=2^(Ao a+Ao b):=Nat.pow_le_pow_right (by omega) (by omega);rw[Nat.pow_succ];omega
theorem mG {a b:Nat}(h:a<=2*b):Ao a<=Ao b+1:=by
 refine(Bg _ _).2 ?_;have h1:=Ec b;rw[Nat.pow_succ];omega
theorem Gv {w:World}{v u:Value}{N M:Nat}(h:Al N v w)(k:Al M u w)(hN:Ao N<=900000)(hM:Ao M<=900000)(hM0:0<M) :
  Calls Tryz.prog 71 #[v,u] w fun en w'=>∃x,en=.returned x/\Al (N%M) x w'/\Below w.heap.size w w':=by
 obtain⟨p,n,c,rfl,h⟩:=h;obtain⟨q,m,d,rfl,k⟩:=k;go_enter Tryz.func71,Tryz.ntmps71
 go_wp2_with fail
 refine(Zf (Al.of h) (Al.of k) hN hM hM0).mono ?_;rintro en w' ⟨p1,n1,c1,p2,n2,c2,rfl,g1,g2,hb⟩;go_wp2;go_ret;exact⟨_,rfl,Al.of g2,hb⟩
theorem aT {w:World}{v u t:Value}{N K M:Nat}(h:Al N v w)(k:Al K u w)(l:Al M t w)(hN:Ao N<=100000)(hK:Ao K<=100000)(hM:Ao M<=100000)(hM0:0<M) :
  Calls Tryz.prog 75 #[v,u,t] w fun en w'=>∃x,en=.returned x/\Al ((N+K)%M) x w'/\Below w.heap.size w w':=by
 have hs:Hid (Ao (N+K)<=900000):=Ag (by have:=bE N K;omega);obtain⟨p,n,c,rfl,h⟩:=h;obtain⟨q,m,d,rfl,k⟩:=k;obtain⟨r,s,e,rfl,l⟩:=l;go_enter Tryz.func75,Tryz.ntmps75
 go_wp2_with fail
 refine(Zg (Al.of h) (Al.of k) (by omega) (by omega)).mono ?_;rintro en w1 ⟨x,rfl,hx,hb⟩
 go_wp2_with fail
 refine(Gv hx (Al.of (l.below hb)) hs.out (by omega) hM0).mono ?_;rintro en w2 ⟨y,rfl,hy,hb2⟩;go_wp2;go_ret;exact⟨_,rfl,hy,Ae hb hb2⟩
theorem Kp {w:World}{v u t:Value}{N K M:Nat}(h:Al N v w)(k:Al K u w)(l:Al M t w)(hN:Ao N<=100000)(hK:Ao K<=100000)(hM:Ao M<=100000)(hM0:0<M) :
  Calls Tryz.prog 76 #[v,u,t] w fun en w'=>∃x,en=.returned x/\Al ((N*K)%M) x w'/\Below w.heap.size w w':=by
 have hs:Hid (Ao (N*K)<=900000):=Ag (by have:=Rr N K;omega);obtain⟨p,n,c,rfl,h⟩:=h;obtain⟨q,m,d,rfl,k⟩:=k;obtain⟨r,s,e,rfl,l⟩:=l;go_enter Tryz.func76,Tryz.ntmps76
 go_wp2_with fail
 refine(jX (Al.of h) (Al.of k) (by omega) (by omega)).mono ?_;rintro en w1 ⟨x,rfl,hx,hb⟩
 go_wp2_with fail
 refine(Gv hx (Al.of (l.below hb)) hs.out (by omega) hM0).mono ?_;rintro en w2 ⟨y,rfl,hy,hb2⟩;go_wp2;go_ret;exact⟨_,rfl,hy,Ae hb hb2⟩
theorem nS {N K M:Nat}(hM:2<=M):(N%M+M-K%M)%M=Ly N K M:=(Wy hM).symm
theorem lO {w:World}{v u t:Value}{N K M:Nat}(h:Al N v w)(k:Al K u w)(l:Al M t w)(hN:Ao N<=100000)(hK:Ao K<=100000)(hM:Ao M<=100000)(hM0:2<=M) :
  Calls Tryz.prog 198 #[v,u,t] w fun en w'=>∃x,en=.returned x/\Al (Ly N K M) x w'/\Below w.heap.size w w':=by
 have hm1:=Nat.mod_lt N (show 0<M by omega);have hm2:=Nat.mod_lt K (show 0<M by omega);have hs:Hid (Ao (N%M+M)<=100001):=Ag (by have:=mG (show N%M+M<=2*M by omega);omega);have hs2:Hid (Ao (N%M)<=100000):=Ag (Dn (Ee (Nat.le_of_lt hm1)) hM);have hs3:Hid (Ao (N%M+M-K%M)<=100001):=Ag (Dn (Ee (Nat.sub_le _ _)) hs.out);have hle:Hid (K%M<=N%M+M):=Ag (by omega);have hSM:=Ag (nS (N:=N) (K:=K) hM0);have hMp:Hid (0<M):=Ag (by omega);clear hm1 hm2;obtain⟨p,n,c,rfl,h⟩:=h;obtain⟨q,m,d,rfl,k⟩:=k;obtain⟨r,s,e,rfl,l⟩:=l;go_enter Tryz.func198,Tryz.ntmps198
 go_wp2_with fail
 refine(Gv (Al.of h) (Al.of l) (by omega) (by omega) hMp.out).mono ?_;rintro en w1 ⟨x1,rfl,hx1,hb1⟩
 go_wp2_with fail
 refine(Zg hx1 (Al.of (l.below hb1)) (by have:=hs2.out;omega) (by omega)).mono ?_;rintro en w2 ⟨x2,rfl,hx2,hb2⟩;have hb12:=Ae hb1 hb2
 go_wp2_with fail
 refine(Gv (Al.of (k.below hb12)) (Al.of (l.below hb12)) (by omega) (by omega) hMp.out).mono ?_;rintro en w3 ⟨x3,rfl,hx3,hb3⟩;have hb13:=Ae hb12 hb3
 go_wp2_with fail
 refine(jW (hx2.below hb3) hx3 (by have:=hs.out;omega) hle.out).mono ?_;rintro en w4 ⟨x4,rfl,hx4,hb4⟩;have hb14:=Ae hb13 hb4
 go_wp2_with fail
 refine(Gv hx4 (Al.of (l.below hb14)) (by have:=hs3.out;omega) (by omega) hMp.out).mono ?_;rintro en w5 ⟨x5,rfl,hx5,hb5⟩;rw[hSM.out]at hx5
 go_wp2;go_ret;exact⟨_,rfl,hx5,Ae hb14 hb5⟩
end Go.Proofs.YtokhckjemidbpaaGreatDoor
