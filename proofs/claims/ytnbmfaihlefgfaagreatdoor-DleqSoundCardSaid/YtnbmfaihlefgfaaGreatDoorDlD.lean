/- Does a proof verify (dleq.Verify)? A claim's challenge as it is asked for (Answer). -/
import Derived.Test.YtnbmfaihlefgfaaGreatDoorDlC
import Derived.Test.YtnbmfaihlefgfaaGreatDoorSgD
set_option maxRecDepth 1000000
set_option maxHeartbeats 16000000
set_option linter.all false
namespace Go.Proofs.YtnbmfaihlefgfaaGreatDoor
open Go Go.RowKit Go.Proofs.YtnbmfaihlefgfaaGreatDoor.Flow
def aP (N M:Nat)(v:Value)(w:World):Prop:=∃(g:Nat) (x y:Option Addr×Nat×Nat),v=.slice (some ⟨g,0,none⟩) 2 2/\w.heap[g]? = some (.cells #[.slice x.1 x.2.1 x.2.2,.slice y.1 y.2.1 y.2.2] 36 (0,0))/\Dh w x N/\Dh w y M/\N<Ap 33/\M<Ap 33
theorem aP.kn {N M B:Nat}{v:Value}{w w':World}(h:aP N M v w)(k:KN B w w'):aP N M v w' :=
 let ⟨g,x,y,h1,h2,h3,h4,h5,h6⟩:=h
 ⟨g,x,y,h1,k.blk _ _ h2 (fun _ _ _=>by simp),k.k.nat _ _ _ _ h3,k.k.nat _ _ _ _ h4,h5,h6⟩
theorem aP.plist {N M g:Nat}{x y:Option Addr×Nat×Nat}{w:World}(h2:w.heap[g]? = some (.cells #[.slice x.1 x.2.1 x.2.2,.slice y.1 y.2.1 y.2.2] 36 (0,0)))(h3:Dh w x N)(h4:Dh w y M)(h5:N<Ap 33)(h6:M<Ap 33):Cd w 33 (some ⟨g,0,none⟩) 2 2 [N,M]:=by
 refine⟨rfl,As _,by decide,(fun e=>by cases e),fun _=>⟨g,0,rfl,(Gn h2).1,fun i K hK=>?_⟩⟩
 match i,hK with
 | 0,hK=>cases hK;exact⟨x.1,x.2.1,x.2.2,by simp[World.cell?,h2],h3,h5⟩
 | 1,hK=>cases hK;exact⟨y.1,y.2.1,y.2.2,by simp[World.cell?,h2],h4,h6⟩
theorem fJ {P G S Z C:Nat}:Lc P 1 ([G,Z].zip [S,C])=(1*(G^S%P)%P)*(Z^C%P)%P:=rfl
theorem Vg {w:World}{b P Q G H ea ey A Y CC SS:Nat}{va vy:Value}{x y:Option Addr×Nat×Nat}(hg:Bb w b P Q G H)(ha:Fit ea A va w)(hv:Fit ey Y vy w)(hea:ea<=33)(hey:ey<=33)(hC:Dh w x CC)(hS:Dh w y SS)(lC:CC<Ap 33)(lS:SS<Ap 33) :
  Calls Tryz.prog 117 #[.agg #[.slice x.1 x.2.1 x.2.2,.slice y.1 y.2.1 y.2.2],.pointer (some ⟨b,0,none⟩),va,vy] w fun en w'=>∃u,en=.returned u/\Fit 33 (Ph P A Y CC SS) u w'/\Below w.heap.size w w':=by
 obtain⟨pa,na,ca,rfl,h1,h2⟩:=Aw (ha.wide hea);obtain⟨py,ny,cy,rfl,h3,h4⟩:=Aw (hv.wide hey);have hs:=Ee.made w (.slice x.1 x.2.1 x.2.2) (.slice y.1 y.2.1 y.2.2);have hb0:Below w.heap.size w (w.alloc (.cells #[.slice x.1 x.2.1 x.2.2,.slice y.1 y.2.1 y.2.2] 153)):=By;have hz0:(w.alloc (.cells #[.slice x.1 x.2.1 x.2.2,.slice y.1 y.2.1 y.2.2] 153)).heap.size=w.heap.size+1:=by simp
 have hbx:=Vr.mk3 (w.alloc (.cells #[.slice x.1 x.2.1 x.2.2,.slice y.1 y.2.1 y.2.2] 153)) (.slice pa na ca) (.slice py ny cy) (.slice none 0 0);have q0:=hbx.b0;have q1:=hbx.b1;have q2:=hbx.b2;have hbl:=Ae hb0 hbx.bel;have hs2:=hs.below hbx.bel hs.lt;rw[hz0]at q0 q1 q2
 obtain⟨wa,hwa⟩:∃wa,((((w.alloc (.cells #[.slice x.1 x.2.1 x.2.2,.slice y.1 y.2.1 y.2.2] 153)).alloc (.cells #[.slice pa na ca] 36)).alloc (.cells #[.slice py ny cy] 36)).alloc (.cells #[.slice none 0 0] 36))=wa:=⟨_,rfl⟩
 rw[hwa]at q0 q1 q2 hbl hs2
 have HS9:=Aa hs2;have HXA:=Aa q0;have HXY:=Aa q1;have HZ0:=Aa q2;have HB3:=Aa hbl;have HA:=Aa ((Fit.of h1 h2).below hbl);have HAb:=Aa h2;have HY:=Aa ((Fit.of h3 h4).below hbl);have HCN:Ad (Dh wa x CC):=⟨hC.below hbl⟩
 have HSN:Ad (Dh wa y SS):=⟨hS.below hbl⟩
 have HCL:=Aa lC;have HSL:=Aa lS;have HG:=Aa (hg.below hbl);have HL:=Aa hg.lims;obtain⟨ZZ,hZZ⟩:∃Z,cJ P Y=Z:=⟨_,rfl⟩
 obtain⟨AA,hAA⟩:∃K,Lc P 1 ([A,ZZ].zip [SS,CC])=K:=⟨_,rfl⟩
 have HZZ:=Aa hZZ;have HAA:=Aa hAA;have hAE:Ph P A Y CC SS=AA:=by
  unfold Ph;rw[hZZ,<-hAA,fJ,Nat.one_mul,Nat.mod_mod]
 have hAAl:AA<P:=by rw[<-hAE];exact Nat.mod_lt _ (by have:=HL.out.1;omega)
 have HAAb:Ad (AA<Ap 33):=⟨Nat.lt_trans hAAl HL.out.2.1⟩
 rw[hAE];clear hAE hAAl hZZ hAA h1 h2 h3 h4 hs hb0 hz0 hbx q0 q1 q2 hbl hs2 hg ha hv hC hS;go_enter Tryz.func117,Tryz.ntmps117;go_wp2;refine Ak (by kernel_rfl) (by kernel_rfl)
  [some (.pointer (some ⟨b,0,none⟩)),some (.agg #[.slice pa na ca]),some (.pointer (some ⟨b,0,none⟩)),some (.agg #[.slice py ny cy]),none,none,some (.pointer (some ⟨w.heap.size,1,none⟩)),some (.agg #[.slice y.1 y.2.1 y.2.2]),some (.pointer (some ⟨w.heap.size,0,none⟩)),some (.agg #[.slice x.1 x.2.1 x.2.2]),none,none,none,none,some (.int .i64 0),none,none,some (.int .i64 0)]
  [false,false,false,false,true,true,false,false,false,false,true,true,true,true,false,true,true,false] rfl
  (fun wA wB=>KN (wa.heap.size) wA wB)
  (fun D sp w'=>RG (wa.heap.size) wa [] w'/\Pa (D 15) (D 16) (sp 15) (wa.heap.size) (AA) w')
  (fun i v w'=>match i with
   | 4=>Fit 33 (ZZ) v w'
   | 5=>aP A ZZ v w'
   | 10=>aP SS CC v w'
   | 11=>Fm 33 AA (.int .i64 0) v w'
   | 12=>Fm 33 AA (.int .i64 0) v w'
   | 13=>Fit (33) (AA) v w'
   | _=>True)
  ?_ ⟨RG.start (As _) (fun x hx=>by cases hx),Pa.start (As _)⟩ ?_ ?_
 .intro i v wA wB hf hb;split at hf
  .exact hf.kn hb
  .exact hf.kn hb
  .exact hf.kn hb
  .exact hf.kn hb
  .exact hf.kn hb
  .exact hf.kn hb
  .trivial
 .simp only[Az,Nat.reduceAdd];refine⟨?_,?_,?_,?_,?_,?_,?_,?_,?_,?_,?_,?_,?_,?_,?_,?_,?_,?_,trivial⟩
  all_goals intro D sp w' hD hW hdp hg
  case refine_2=>
   have c0:=(HXA.out.below hg.1.keep.bel HXA.out.lt).cell
   with_reducible refine Ac ?_ ?_
   all_goals simp[Region.wanted,yielded,execOp,Act.eval,Act.put,go_sem,c0]
  case refine_4=>
   have c0:=(HXY.out.below hg.1.keep.bel HXY.out.lt).cell
   with_reducible refine Ac ?_ ?_
   all_goals simp[Region.wanted,yielded,execOp,Act.eval,Act.put,go_sem,c0]
  case refine_5=>
   (with_reducible refine Ab (w1:=w') (f := 174) (args:=#[.pointer (some ⟨b,0,none⟩),.agg #[.slice py ny cy]]) ?_ ?_ ?_)
   .simp[Region.wanted,yielded,Act.put,go_sem]
   .simp[Act.eval,Act.put,go_sem]
   .refine(kN (HG.out.below hg.1.keep.bel) (HY.out.below hg.1.keep.bel) (by omega)).mono ?_;rintro en w9 ⟨u,rfl,hu,hb⟩;rw[HZZ.out]at hu
    exact⟨u,rfl,KN.of hb hg.1.base,hu,hg.1.later hb,by simpa [upd]using hg.2.later hb⟩
  case refine_6=>
   have hxb:∃p n c,sp 4=.agg #[.slice p n c]/\Aj w' p n c (ZZ)/\ZZ<Ap (33):=(hdp 4 (mq (by kernel_rfl))).2
   (with_reducible refine Aq hxb fun pb hxb1=>Aq hxb1 fun nb hxb2=>Aq hxb2 fun cb hxb3=>?_)
   have hb:=hxb3.1
   (with_reducible refine Ag (w1:=w'.alloc (.cells #[.slice pa na ca,.slice pb nb cb] 36)) (v:=.slice (some ⟨w'.heap.size,0,none⟩) 2 2) ?_ ?_ ?_)
   .simp only[Region.wanted]
   .simp[execOp,Act.eval,Act.put,go_sem,hb]
   .have hbl:Below w'.heap.size w' (w'.alloc (.cells #[.slice pa na ca,.slice pb nb cb] 36)):=By;exact⟨KN.of hbl hg.1.base,⟨w'.heap.size,(pa,na,ca),(pb,nb,cb),rfl,heap_alloc_new w' _,Ef ((HA.out.below hg.1.keep.bel).below hbl),hxb3.2.1.below hbl,HAb.out,hxb3.2.2⟩,hg.1.later hbl,by simpa [upd]using hg.2.later hbl⟩
  case refine_8=>
   have c0:=(HS9.out.below hg.1.keep.bel HS9.out.lt).cells.2
   with_reducible refine Ac ?_ ?_
   all_goals simp[Region.wanted,yielded,execOp,Act.eval,Act.put,go_sem,c0]
  case refine_10=>
   have c0:=(HS9.out.below hg.1.keep.bel HS9.out.lt).cells.1
   with_reducible refine Ac ?_ ?_
   all_goals simp[Region.wanted,yielded,execOp,Act.eval,Act.put,go_sem,c0]
  case refine_11=>
   (with_reducible refine Ag (w1:=w'.alloc (.cells #[.slice y.1 y.2.1 y.2.2,.slice x.1 x.2.1 x.2.2] 36)) (v:=.slice (some ⟨w'.heap.size,0,none⟩) 2 2) ?_ ?_ ?_)
   .simp only[Region.wanted]
   .simp[execOp,Act.eval,Act.put,go_sem]
   .have hbl:Below w'.heap.size w' (w'.alloc (.cells #[.slice y.1 y.2.1 y.2.2,.slice x.1 x.2.1 x.2.2] 36)):=By;exact⟨KN.of hbl hg.1.base,⟨w'.heap.size,y,x,rfl,heap_alloc_new w' _,(HSN.out.below hg.1.keep.bel).below hbl,(HCN.out.below hg.1.keep.bel).below hbl,HSL.out,HCL.out⟩,hg.1.later hbl,by simpa [upd]using hg.2.later hbl⟩
  case refine_12=>
   have hr:∃(g:Nat) (x y:Option Addr×Nat×Nat),sp 5=.slice (some ⟨g,0,none⟩) 2 2/\w'.heap[g]? = some (.cells #[.slice x.1 x.2.1 x.2.2,.slice y.1 y.2.1 y.2.2] 36 (0,0))/\Dh w' x A/\Dh w' y ZZ/\A<Ap 33/\ZZ<Ap 33:=(hdp 5 (mq (by kernel_rfl))).2
   (with_reducible refine Aq hr fun ga ha1=>Aq ha1 fun ua ha2=>Aq ha2 fun ta ha3=>?_)
   have hr:∃(g:Nat) (x y:Option Addr×Nat×Nat),sp 10=.slice (some ⟨g,0,none⟩) 2 2/\w'.heap[g]? = some (.cells #[.slice x.1 x.2.1 x.2.2,.slice y.1 y.2.1 y.2.2] 36 (0,0))/\Dh w' x SS/\Dh w' y CC/\SS<Ap 33/\CC<Ap 33:=(hdp 10 (mq (by kernel_rfl))).2
   (with_reducible refine Aq hr fun gb hb1=>Aq hb1 fun ub hb2=>Aq hb2 fun tb hb3=>?_)
   have ea:=ha3.1;have eb:=hb3.1
   (with_reducible refine Ab (w1:=w') (f := 139) (args:=#[.pointer (some ⟨b,0,none⟩),.slice (some ⟨ga,0,none⟩) 2 2,.slice (some ⟨gb,0,none⟩) 2 2]) ?_ ?_ ?_)
   .simp only[Region.wanted]
   .simp[Act.eval,Act.put,go_sem,ea,eb]
   .refine(fN (HG.out.below hg.1.keep.bel) (aP.plist ha3.2.1 ha3.2.2.1 ha3.2.2.2.1 ha3.2.2.2.2.1 ha3.2.2.2.2.2) (aP.plist hb3.2.1 hb3.2.2.1 hb3.2.2.2.1 hb3.2.2.2.2.1 hb3.2.2.2.2.2) (by decide) (by decide) (by decide) (by decide)).mono ?_;rintro en w9 ⟨_,rfl,⟨p9,n9,c9,rfl,u1,u2⟩,hb⟩;rw[if_pos rfl,HAA.out]at u1 u2
    exact⟨_,rfl,KN.of hb hg.1.base,⟨p9,n9,c9,rfl,u1,u2⟩,hg.1.later hb,by simpa [upd]using hg.2.later hb⟩
  case refine_13=>
   have k11:Fm 33 AA (.int .i64 0) (sp 11) w':=(hdp 11 (mq (by kernel_rfl))).2
   (with_reducible refine Ag (w1:=w') (v:=sp 11) ?_ ?_ ?_)
   .simp[Region.wanted,yielded,Act.put,go_sem]
   .simp[execOp,Act.eval,Act.put,go_sem]
   .exact⟨KN.same _ _,k11,hg.1,by simpa [upd]using hg.2⟩
  case refine_14=>
   have hx:∃p n c,sp 12=.tuple #[.agg #[.slice p n c],.int .i64 0]/\Aj w' p n c (AA)/\AA<Ap (33):=(hdp 12 (mq (by kernel_rfl))).2
   (with_reducible refine Aq hx fun p hx1=>Aq hx1 fun n hx2=>Aq hx2 fun c hx3=>?_)
   have h1:=hx3.1
   (with_reducible refine Ag (w1:=w') (v:=.agg #[.slice p n c]) ?_ ?_ ?_)
   .simp[Region.wanted,yielded,Act.put,go_sem]
   .simp[execOp,Act.eval,Act.put,go_sem,h1]
   .exact⟨KN.same _ _,⟨p,n,c,rfl,hx3.2⟩,hg.1,by simpa [upd]using hg.2⟩
  case refine_15=>
   have hx:∃p n c,sp 12=.tuple #[.agg #[.slice p n c],.int .i64 0]/\Aj w' p n c (AA)/\AA<Ap (33):=(hdp 12 (mq (by kernel_rfl))).2
   (with_reducible refine Aq hx fun p hx1=>Aq hx1 fun n hx2=>Aq hx2 fun c hx3=>?_)
   have h1:=hx3.1
   with_reducible refine Ac ?_ ?_
   all_goals simp[Region.wanted,yielded,execOp,Act.eval,Act.put,go_sem,h1]
  case refine_16=>
   have h9:D 16=false:=hW 16 (mq (by kernel_rfl));rw[hD,h9]at hg
   (with_reducible refine Ag (w1:=w'.alloc (.cells #[.slice none 0 0] 36)) (v:=.pointer (some ⟨w'.heap.size,0,none⟩)) ?_ ?_ ?_)
   .simp[Region.wanted,yielded,Act.put,go_sem]
   .simp[execOp,go_sem]
   .have hb:Below w'.heap.size w' (w'.alloc (.cells #[.slice none 0 0] 36)):=By;refine⟨KN.of hb hg.1.base,trivial,hg.1.later hb,?_⟩;have h8:=hg.2.made;simpa [upd,h9]using h8
  case refine_17=>
   have hx:∃p n c,sp 13=.agg #[.slice p n c]/\Aj w' p n c (AA)/\AA<Ap (33):=(hdp 13 (mq (by kernel_rfl))).2
   (with_reducible refine Aq hx fun p hx1=>Aq hx1 fun n hx2=>Aq hx2 fun c hx3=>?_)
   have h1:=hx3.1;have h9:D 15=true:=(hdp 15 (mq (by kernel_rfl))).1;rw[h9]at hg
   have hp:=hg.2.put (hx3.2.1)
   (with_reducible refine Aq hp fun b hy0=>Aq hy0 fun q hy1=>Aq hy1 fun m hy2=>Aq hy2 fun k hy3=>?_)
   have h3:=hy3.1;have h6:=hy3.2.2.1.cell;have h7:=hy3.2.2.1.free
   (with_reducible refine An (w1:=w'.setCell ⟨b,0,none⟩ (.slice p n c)) ?_ ?_ ?_)
   .simp[Region.wanted,yielded,Act.put,go_sem]
   .simp[execOp,Act.eval,Act.put,go_sem,h1,h3,h6,h7]
   .refine⟨KN.store hy3.2.2.1 (Ec (As _) hy3.2.1) _,trivial,hg.1.store_over hy3.2.2.1 (As _) hy3.2.1 (fun x hx=>by cases hx) _,?_⟩;have h8:=hy3.2.2.2;simpa [upd,h9]using h8
  all_goals ((with_reducible refine Ac ?_ ?_);all_goals first|(simp only[Region.wanted];done)|simp[Region.wanted,yielded,execOp,Act.eval,Act.put,go_sem])
 .intro sp w4 hsp hg;obtain⟨hg1,_,hmk⟩:=hg;obtain⟨b11,e11,hb11,pz,nz,cz,hxz,hnz⟩:=hmk rfl;replace hnz:=hnz rfl;have hbel:=hg1.keep.bel;have hz:=HZ0.out.below hbel HZ0.out.lt;have kx:=hxz.cell;have fz:=hz.free;have k8:=hz.cell;have kz:=(hz.set (.slice pz nz cz)).cell;have HN:=Aa (Fit.of (hnz.store hz (.slice pz nz cz)) HAAb.out);have HBf:Ad (Below w.heap.size w (w4.setCell ⟨w.heap.size+1+1+1,0,none⟩ (.slice pz nz cz))):=⟨(Ae HB3.out hbel).setCell (show w.heap.size<=w.heap.size+1+1+1 by omega) _⟩
  clear hsp hg1 hmk hxz hnz hb11 hbel hz hwa;simp only[Am,Nat.reduceAdd];rw[e11];clear e11;generalize sp 4=y4,sp 5=y5,sp 10=y10,sp 11=y11,sp 12=y12,sp 13=y13,sp 16=y16 at *
  go_simp
  go_wp2;exact bodyPost_ret (v:=.agg #[.slice pz nz cz]) (by simp[results,Tryz.results117,go_sem,kz]) rfl ⟨_,rfl,HN.out,HBf.out⟩
theorem pC {w:World}{e A B Y Z:Nat}{xa xb xy xz:Option Addr×Nat×Nat}(h:AtC A B Y Z xa xb xy xz w)(lA:A<Ap e)(lB:B<Ap e)(lY:Y<Ap e)(lZ:Z<Ap e):Pt w e [xa,xb,xy,xz] [A,B,Y,Z] :=
 (((((Pt.nil w e).snoc h.1 lA)).snoc h.2.1 lB).snoc h.2.2.1 lY).snoc h.2.2.2 lZ
theorem rD {P Q A B Y Z:Nat}:[A,B,Y,Z].all (Tw P Q)=true ↔ Zx P Q A B Y Z:=by
 simp only[List.all_cons,List.all_nil,Bool.and_true,Bool.and_eq_true,Og];exact Iff.rfl
theorem Kf {w:World}{b P Q G H A B Y Z nm cm ns cs:Nat}{xa xb xy xz:Option Addr×Nat×Nat}{pm ps:Option Addr}{msg sig:List Nat}(hg:Bb w b P Q G H)(hT:Tabs w)(hC:AtC A B Y Z xa xb xy xz w)(lA:A<Ap 33)(lB:B<Ap 33)(lY:Y<Ap 33)(lZ:Z<Ap 33)(hP:Al P<=16)(hQ:Al Q<=16)(hm:Au w ⟨pm,nm,cm,msg⟩)(hs:Au w ⟨ps,ns,cs,sig⟩) :
  Calls Tryz.prog 56 #[.pointer (some ⟨b,0,none⟩),.agg #[.slice xa.1 xa.2.1 xa.2.2,.slice xb.1 xb.2.1 xb.2.2,.slice xy.1 xy.2.1 xy.2.2,.slice xz.1 xz.2.1 xz.2.2],.slice pm nm cm,.slice ps ns cs] w fun en w'=>∃X,en=.returned (.bool X)/\(X=true ↔ Op P Q A B Y Z msg sig)/\Below w.heap.size w w':=by
 have hb0:Below w.heap.size w (w.alloc (.cells #[.slice xa.1 xa.2.1 xa.2.2,.slice xb.1 xb.2.1 xb.2.2,.slice xy.1 xy.2.1 xy.2.2,.slice xz.1 xz.2.1 xz.2.2] 82)):=By;have hx0:=Cm.made 82 w (.slice xa.1 xa.2.1 xa.2.2) (.slice xb.1 xb.2.1 xb.2.2) (.slice xy.1 xy.2.1 xy.2.2) (.slice xz.1 xz.2.1 xz.2.2);obtain⟨wa,hwa⟩:∃wa,w.alloc (.cells #[.slice xa.1 xa.2.1 xa.2.2,.slice xb.1 xb.2.1 xb.2.2,.slice xy.1 xy.2.1 xy.2.2,.slice xz.1 xz.2.1 xz.2.2] 82)=wa:=⟨_,rfl⟩
 rw[hwa]at hb0 hx0
 have HC0:=Aa hx0;have HBL:=Aa hb0;have HCA0:=Aa (hC.below hb0);have HLA:=Aa lA;have HLB:=Aa lB;have HLY:=Aa lY;have HLZ:=Aa lZ;have HGA:=Aa hg;have HT:=Aa hT;have HM:=Aa hm;have HPs:=Aa hP;have HSG:=Aa (eR (Xv.of (hg.below hb0)) hQ (hs.below hb0));have HL:=Aa hg.lims;clear hb0 hx0 hC lA lB lY lZ hg hT hm hP hs;go_enter Tryz.func56,Tryz.ntmps56
 go_wp2_with fail
 refine HSG.out.mono ?_;rintro en w1 ⟨x,y,X,rfl,hX,hN,hb1⟩;have hb2:Below w1.heap.size w1 (w1.alloc (.cells #[.slice x.1 x.2.1 x.2.2,.slice y.1 y.2.1 y.2.2] 153)):=By;have hS2:=Ee.made w1 (.slice x.1 x.2.1 x.2.2) (.slice y.1 y.2.1 y.2.2);obtain⟨b9,hb9⟩:∃b,w1.heap.size=b:=⟨_,rfl⟩
 obtain⟨w2,hw2⟩:∃W,w1.alloc (.cells #[.slice x.1 x.2.1 x.2.2,.slice y.1 y.2.1 y.2.2] 153)=W:=⟨_,rfl⟩
 rw[hw2]at hb2 hS2
 rw[hb9]at hS2
 have hb12:=Ae hb1 hb2;have HS2:=Aa hS2;have HN2:Ad (Gs Q sig->Dh w2 x (be (sig.take (Al Q)))/\Dh w2 y (be (sig.drop (Al Q)))):=⟨fun h=>⟨(hN h).1.below hb2,(hN h).2.below hb2⟩⟩
 have HC2:=Aa (HC0.out.below hb12 HC0.out.lt);have HCA2:=Aa (HCA0.out.below hb12);have HB2:=Aa (Ae HBL.out hb12);have HXI:=Aa hX;clear hX hN hb1 hb2 hS2 hb12 HC0 HCA0 HBL HSG hwa
 cases X with
 | false=>
  have HF:Ad (false=true ↔ Op P Q A B Y Z msg sig):=⟨⟨(fun h=>by cases h),fun h=>HXI.out.2 h.1⟩⟩
  go_wp2;go_ret;exact⟨false,rfl,HF.out,HB2.out⟩
 | true=>
  have hin:=HXI.out.1 rfl;have HIN:=Aa hin;have hn:=HN2.out hin;have HCN2:=Aa hn.1;have HSN2:=Aa hn.2;obtain⟨g0,g1,g2,g3⟩:=(cells4 HC2.out.at_).1;obtain⟨CC,hCC⟩:∃C,be (sig.take (Al Q))=C:=⟨_,rfl⟩
  obtain⟨SS,hSS⟩:∃C,be (sig.drop (Al Q))=C:=⟨_,rfl⟩
  rw[hCC]at HCN2
  rw[hSS]at HSN2
  have HCL:Ad (CC<Ap 33):=⟨by rw[<-hCC];exact Nat.lt_trans hin.2.1 HL.out.2.2.2⟩
  have HSL:Ad (SS<Ap 33):=⟨by rw[<-hSS];exact Nat.lt_trans hin.2.2 HL.out.2.2.2⟩
  have HOK:Ad (Op P Q A B Y Z msg sig ↔ Zx P Q A B Y Z/\Nk P Q A B Y Z (Ph P A Y CC SS) (Ph P B Z CC SS) msg=CC):=⟨by
   unfold Op;rw[hCC,hSS];exact⟨fun h=>h.2,fun h=>⟨hin,h⟩⟩⟩
  have hb3:Below w2.heap.size w2 (w2.alloc (.cells #[.slice xa.1 xa.2.1 xa.2.2,.slice xb.1 xb.2.1 xb.2.2,.slice xy.1 xy.2.1 xy.2.2,.slice xz.1 xz.2.1 xz.2.2] 36)):=By;have hr3:(w2.alloc (.cells #[.slice xa.1 xa.2.1 xa.2.2,.slice xb.1 xb.2.1 xb.2.2,.slice xy.1 xy.2.1 xy.2.2,.slice xz.1 xz.2.1 xz.2.2] 36)).heap[w2.heap.size]? = some (.cells #[.slice xa.1 xa.2.1 xa.2.2,.slice xb.1 xb.2.1 xb.2.2,.slice xy.1 xy.2.1 xy.2.2,.slice xz.1 xz.2.1 xz.2.2] 36 (0,0)):=heap_alloc_new w2 _;obtain⟨w3,hw3⟩:∃W,w2.alloc (.cells #[.slice xa.1 xa.2.1 xa.2.2,.slice xb.1 xb.2.1 xb.2.2,.slice xy.1 xy.2.1 xy.2.2,.slice xz.1 xz.2.1 xz.2.2] 36)=W:=⟨_,rfl⟩
  rw[hw3]at hb3 hr3
  have HB3:=Aa (Ae HB2.out hb3);have HPL:=Aa (Pi (us:=[xa,xb,xy,xz]) (Ns:=[A,B,Y,Z]) hr3 (pC (HCA2.out.below hb3) HLA.out HLB.out HLY.out HLZ.out) (show 4<=1000000 by decide));have HC3:=Aa (HC2.out.below hb3 HC2.out.lt);have HCA3:=Aa (HCA2.out.below hb3);have HS3:=Aa (HS2.out.below hb3 HS2.out.lt);have HCN3:Ad (Dh w3 x CC):=⟨HCN2.out.below hb3⟩
  have HSN3:Ad (Dh w3 y SS):=⟨HSN2.out.below hb3⟩
  clear hCC hSS hin hn HN2 HXI hb3 hr3 HC2 HCA2 HS2 HCN2 HSN2 HB2
  by_cases hmm:Zx P Q A B Y Z
  .have HMT:Ad _:=⟨rD.2 hmm⟩
   have HMM:=Aa hmm;clear hmm
   go_wp2_with fail
   refine(Ki (HGA.out.below HB3.out) HPL.out (by decide)).mono ?_;rintro en w4 ⟨rfl,hb4⟩;rw[HMT.out];have HB4:=Aa (Ae HB3.out hb4);have HC4:=Aa (HC3.out.below hb4 HC3.out.lt);have HCA:=Aa (HCA3.out.below hb4);have HS9:=Aa (HS3.out.below hb4 HS3.out.lt);have HCN:Ad (Dh w4 x CC):=⟨HCN3.out.below hb4⟩
   have HSN:Ad (Dh w4 y SS):=⟨HSN3.out.below hb4⟩
   have HG:=Aa (HGA.out.below HB4.out);obtain⟨UU,hUU⟩:∃C,Ph P A Y CC SS=C:=⟨_,rfl⟩
   obtain⟨VV,hVV⟩:∃C,Ph P B Z CC SS=C:=⟨_,rfl⟩
   have HUE:=Aa hUU;have HVE:=Aa hVV;have HUl:Ad (UU<P):=⟨by rw[<-hUU];exact Nat.mod_lt _ (by have:=HL.out.1;omega)⟩
   have HVl:Ad (VV<P):=⟨by rw[<-hVV];exact Nat.mod_lt _ (by have:=HL.out.1;omega)⟩
   clear hUU hVV hb4 g0 g1 g2 g3 HC3 HCA3 HS3 HCN3 HSN3 HB3 HPL;go_wp2;clear hw2 hw3 hb9;refine Ak (by kernel_rfl) (by kernel_rfl)
    [some (.agg #[.slice x.1 x.2.1 x.2.2,.slice y.1 y.2.1 y.2.2]),some (.pointer (some ⟨b,0,none⟩)),some (.pointer (some ⟨w.heap.size,0,none⟩)),some (.agg #[.slice xa.1 xa.2.1 xa.2.2]),some (.pointer (some ⟨w.heap.size,2,none⟩)),some (.agg #[.slice xy.1 xy.2.1 xy.2.2]),none,some (.agg #[.slice x.1 x.2.1 x.2.2,.slice y.1 y.2.1 y.2.2]),some (.pointer (some ⟨b,0,none⟩)),some (.pointer (some ⟨w.heap.size,1,none⟩)),some (.agg #[.slice xb.1 xb.2.1 xb.2.2]),some (.pointer (some ⟨w.heap.size,3,none⟩)),some (.agg #[.slice xz.1 xz.2.1 xz.2.2]),none,none,none,none,none]
    [false,false,false,false,false,false,true,false,false,false,false,false,false,true,true,true,true,true] rfl
    (fun _ _=>True) (fun D sp w'=>TB w4 UU VV (D 6) (D 13) (D 14) (D 15) (D 16) (D 17) (sp 6) (sp 13) (sp 14) (sp 15) w') (fun _ _ _=>True) (fun _ _ _ _ _ _=>trivial)
    TB.start ?_ ?_
   .simp only[Az,Nat.reduceAdd];refine⟨?_,?_,?_,?_,?_,?_,?_,?_,?_,?_,?_,?_,?_,?_,?_,?_,?_,?_,trivial⟩
    case refine_7=>
     intro D sp w' hD hW hdp hg;rw[hD]at hg
     (with_reducible refine Ab (w1:=w') (f := 117) (args:=#[.agg #[.slice x.1 x.2.1 x.2.2,.slice y.1 y.2.1 y.2.2],.pointer (some ⟨b,0,none⟩),.agg #[.slice xa.1 xa.2.1 xa.2.2],.agg #[.slice xy.1 xy.2.1 xy.2.2]]) ?_ ?_ ?_)
     .simp only[Region.wanted]
     .simp[Act.eval,Act.put,go_sem]
     .refine(Vg (HG.out.below hg.bel) (Fit.of (HCA.out.below hg.bel).1 HLA.out) (Fit.of (HCA.out.below hg.bel).2.2.1 HLY.out) (by decide) (by decide) (HCN.out.below hg.bel) (HSN.out.below hg.bel) HCL.out HSL.out).mono ?_;rintro en w9 ⟨u,rfl,hu,hb⟩;rw[HUE.out]at hu
      exact⟨u,rfl,trivial,trivial,by simpa [upd]using(hg.later hb).put3 hu⟩
    case refine_14=>
     intro D sp w' hD hW hdp hg;rw[hD]at hg
     (with_reducible refine Ab (w1:=w') (f := 117) (args:=#[.agg #[.slice x.1 x.2.1 x.2.2,.slice y.1 y.2.1 y.2.2],.pointer (some ⟨b,0,none⟩),.agg #[.slice xb.1 xb.2.1 xb.2.2],.agg #[.slice xz.1 xz.2.1 xz.2.2]]) ?_ ?_ ?_)
     .simp only[Region.wanted]
     .simp[Act.eval,Act.put,go_sem]
     .refine(Vg (HG.out.below hg.bel) (Fit.of (HCA.out.below hg.bel).2.1 HLB.out) (Fit.of (HCA.out.below hg.bel).2.2.2 HLZ.out) (by decide) (by decide) (HCN.out.below hg.bel) (HSN.out.below hg.bel) HCL.out HSL.out).mono ?_;rintro en w9 ⟨u,rfl,hu,hb⟩;rw[HVE.out]at hu
      exact⟨u,rfl,trivial,trivial,by simpa [upd]using(hg.later hb).put7 hu⟩
    case refine_15=>
     intro D sp w' hD hW hdp hg;rw[hD]at hg
     have d0:=hg.no10;rw[d0]at hg
     (with_reducible refine Ag (w1:=w'.alloc (.cells #[.slice none 0 0] 36)) (v:=.pointer (some ⟨w'.heap.size,0,none⟩)) ?_ ?_ ?_)
     .simp only[Region.wanted]
     .simp[execOp,go_sem]
     .exact⟨trivial,trivial,by simpa [upd,d0]using hg.put8⟩
    case refine_16=>
     intro D sp w' hD hW hdp hg;rw[hD]at hg
     have d0:=hg.no11;rw[d0]at hg
     (with_reducible refine Ag (w1:=w'.alloc (.cells #[.slice none 0 0] 36)) (v:=.pointer (some ⟨w'.heap.size,0,none⟩)) ?_ ?_ ?_)
     .simp only[Region.wanted]
     .simp[execOp,go_sem]
     .exact⟨trivial,trivial,by simpa [upd,d0]using hg.put9⟩
    case refine_17=>
     intro D sp w' hD hW hdp hg;have d3:D 6=true:=(hdp 6 (mq (by kernel_rfl))).1;have d8:D 14=true:=(hdp 14 (mq (by kernel_rfl))).1;rw[hD,d3,d8]at hg
     (with_reducible refine Aq (hg.put10) fun b g0=>Aq (g0) fun m g1=>Aq (g1) fun d g2=>Aq (g2) fun q g3=>Aq (g3) fun p g4=>Aq (g4) fun n9 g5=>Aq (g5) fun c9 g6=>?_)
     have e8:=g6.1;have e3:=g6.2.1;have h6:=g6.2.2.1.cell;have h7:=g6.2.2.1.free
     (with_reducible refine An (w1:=w'.setCell ⟨b,0,none⟩ (.slice p n9 c9)) ?_ ?_ ?_)
     .simp only[Region.wanted]
     .simp[execOp,Act.eval,Act.put,go_sem,e8,e3,h6,h7]
     .exact⟨trivial,trivial,by simpa [upd,d3,d8]using g6.2.2.2⟩
    case refine_18=>
     intro D sp w' hD hW hdp hg;have d3:D 13=true:=(hdp 13 (mq (by kernel_rfl))).1;have d8:D 15=true:=(hdp 15 (mq (by kernel_rfl))).1;rw[hD,d3,d8]at hg
     (with_reducible refine Aq (hg.put11) fun b g0=>Aq (g0) fun m g1=>Aq (g1) fun d g2=>Aq (g2) fun q g3=>Aq (g3) fun p g4=>Aq (g4) fun n9 g5=>Aq (g5) fun c9 g6=>?_)
     have e8:=g6.1;have e3:=g6.2.1;have h6:=g6.2.2.1.cell;have h7:=g6.2.2.1.free
     (with_reducible refine An (w1:=w'.setCell ⟨b,0,none⟩ (.slice p n9 c9)) ?_ ?_ ?_)
     .simp only[Region.wanted]
     .simp[execOp,Act.eval,Act.put,go_sem,e8,e3,h6,h7]
     .exact⟨trivial,trivial,by simpa [upd,d3,d8]using g6.2.2.2⟩
    all_goals
     intro D sp w' hD hW hdp hg;have g0:=(cells4 (HC4.out.below hg.bel HC4.out.lt).at_).1;have s0:=(HS9.out.below hg.bel HS9.out.lt).cells;simp[asked,Region.wanted,Oper.gives,execOp,Act.eval,Act.put,go_sem,g0.1,g0.2.1,g0.2.2.1,g0.2.2.2,s0.1,s0.2]
   .intro sp w5 hsp hg;obtain⟨b11,e14,_,⟨pu,nu,cu,hxu,hnu⟩,_⟩:=hg.b8 rfl;obtain⟨b12,e15,_,⟨pv,nv,cv,hxv,hnv⟩,_⟩:=hg.b9 rfl;replace hnu:=hnu rfl;replace hnv:=hnv rfl;have hbel:=hg.bel;have HXU:=Aa hxu;have HXV:=Aa hxv;have HNU:Ad (Dh w5 (pu,nu,cu) UU):=⟨hnu⟩
    have HNV:Ad (Dh w5 (pv,nv,cv) VV):=⟨hnv⟩
    have HB5:=Aa (Ae HB4.out hbel);have HC5:=Aa (HC4.out.below hbel HC4.out.lt);have HCA5:=Aa (HCA.out.below hbel);have HS5:=Aa (HS9.out.below hbel HS9.out.lt);have HCN5:=Aa (HCN.out.below hbel);have HG5:=Aa (HGA.out.below HB5.out);have HT5:=Aa (HT.out.below HB5.out HT.out.size);have HM5:=Aa (HM.out.below HB5.out);obtain⟨CH,hCH⟩:∃C,Nk P Q A B Y Z UU VV msg=C:=⟨_,rfl⟩
    obtain⟨KC,hKC⟩:∃K,Bm CH CC=K:=⟨_,rfl⟩
    obtain⟨ANS,hANS⟩:∃A,((KC:Int)==0)=A:=⟨_,rfl⟩
    have hE:=hANS;have HCH:=Aa hCH;have HKc:=Aa hKC;have HF:Ad (ANS=true ↔ Op P Q A B Y Z msg sig):=⟨by
     rw[HOK.out,HUE.out,HVE.out,hCH,<-hANS,<-hKC,beq_iff_eq,Bw];exact⟨fun h=>⟨HMM.out,h⟩,fun h=>h.2⟩⟩
    clear hsp hg hxu hnu hxv hnv hbel hCH hKC hANS HC4 HCA HS9 HCN HSN HG;simp only[Am,Nat.reduceAdd];rw[e14,e15];clear e14 e15;generalize sp 6=y6,sp 13=y13,sp 16=y16,sp 17=y17 at *
    go_simp
    go_wp2;refine Ai (by kernel_rfl) (by kernel_rfl)
     [some (.agg #[.slice xa.1 xa.2.1 xa.2.2,.slice xb.1 xb.2.1 xb.2.2,.slice xy.1 xy.2.1 xy.2.2,.slice xz.1 xz.2.1 xz.2.2]),some (.pointer (some ⟨b,0,none⟩)),some (.agg #[.slice pu nu cu]),some (.agg #[.slice pv nv cv]),some (.slice pm nm cm),none,some (.pointer (some ⟨b9,0,none⟩)),some (.agg #[.slice x.1 x.2.1 x.2.2]),none,some (.bool ANS),some (.bool ANS)]
     [false,false,false,false,false,true,false,false,true,false,false] rfl
     (fun w1 w2=>Below w1.heap.size w1 w2)
     (fun _ w'=>Below w5.heap.size w5 w')
     (fun i v w'=>match i with
      | 5=>Fit 33 (CH) v w'
      | 8=>v=.int .i64 KC
      | _=>True)
     ?_ (Bd _ _).drew ?_ ?_
    .intro i v w1 w2 hf hb;split at hf
     .exact hf.below hb
     .exact hf
     .trivial
    .simp only[Ba,Nat.reduceAdd];refine⟨?_,?_,?_,?_,?_,?_,?_,?_,?_,?_,?_,trivial⟩
     all_goals intro D sp w' hD hW hdp hbx'
     case refine_1=>
      have g0:=(cells4 (HC5.out.below hbx' HC5.out.lt).at_).1
      with_reducible refine Ac ?_ ?_
      all_goals simp[Region.wanted,yielded,execOp,Act.eval,Act.put,go_sem,g0.1,g0.2.1,g0.2.2.1,g0.2.2.2]
     case refine_3=>
      have c0:=(HXU.out.below hbx' HXU.out.lt).cell
      with_reducible refine Ac ?_ ?_
      all_goals simp[Region.wanted,yielded,execOp,Act.eval,Act.put,go_sem,c0]
     case refine_4=>
      have c0:=(HXV.out.below hbx' HXV.out.lt).cell
      with_reducible refine Ac ?_ ?_
      all_goals simp[Region.wanted,yielded,execOp,Act.eval,Act.put,go_sem,c0]
     case refine_6=>
      (with_reducible refine Ab (w1:=w') (f := 127) (args:=#[.agg #[.slice xa.1 xa.2.1 xa.2.2,.slice xb.1 xb.2.1 xb.2.2,.slice xy.1 xy.2.1 xy.2.2,.slice xz.1 xz.2.1 xz.2.2],.pointer (some ⟨b,0,none⟩),.agg #[.slice pu nu cu],.agg #[.slice pv nv cv],.slice pm nm cm]) ?_ ?_ ?_)
      .simp[Region.wanted,yielded,Act.put,go_sem]
      .simp[Act.eval,Act.put,go_sem]
      .refine(Nj (HG5.out.below hbx') (HT5.out.below hbx' HT5.out.size) (HCA5.out.below hbx') (xu:=(pu,nu,cu)) (xv:=(pv,nv,cv)) (HNU.out.below hbx') (HNV.out.below hbx') HMM.out.1.2.1 HMM.out.2.1.2.1 HMM.out.2.2.1.2.1 HMM.out.2.2.2.2.1 HUl.out HVl.out HPs.out (HM5.out.below hbx')).mono ?_;rintro en w9 ⟨u,rfl,hu,hb⟩;rw[HCH.out]at hu
       exact⟨u,rfl,hb,hu,Ae hbx' hb⟩
     case refine_8=>
      have c0:=(HS5.out.below hbx' HS5.out.lt).cells.1
      with_reducible refine Ac ?_ ?_
      all_goals simp[Region.wanted,yielded,execOp,Act.eval,Act.put,go_sem,c0]
     case refine_9=>
      have k5:Fit 33 (CH) (sp 5) w':=(hdp 5 (mq (by kernel_rfl))).2
      (with_reducible refine Ab (w1:=w') (f := 34) (args:=#[sp 5,.agg #[.slice x.1 x.2.1 x.2.2]]) ?_ ?_ ?_)
      .simp[Region.wanted,yielded,Act.put,go_sem]
      .simp[Act.eval,Act.put,go_sem]
      .refine(Be k5 (Fit.of (HCN5.out.below hbx') HCL.out) (by decide) (by decide) HKc.out).mono ?_;rintro en w9 ⟨u,rfl,rfl,hb⟩;exact⟨_,rfl,hb,rfl,Ae hbx' hb⟩
     case refine_10=>
      have k8:(sp 8)=.int .i64 KC:=(hdp 8 (mq (by kernel_rfl))).2
      with_reducible refine Ac ?_ ?_
      all_goals simp[Region.wanted,yielded,execOp,Act.eval,Act.put,go_sem,k8,hE]
     all_goals ((with_reducible refine Ac ?_ ?_);all_goals first|(simp only[Region.wanted];done)|simp[Region.wanted,yielded,execOp,Act.eval,Act.put,go_sem])
    .intro sp w8 hsp hb8;have HBf:=Aa (Ae HB5.out hb8);clear hsp hb8 hE;simp only[Am,Nat.reduceAdd];generalize sp 5=y5,sp 8=y8 at *
     go_simp
     go_wp2;go_ret;exact⟨ANS,rfl,HF.out,HBf.out⟩
  .have HMT:Ad ([A,B,Y,Z].all (Tw P Q)=false):=⟨Bool.eq_false_iff.2 fun h=>hmm (rD.1 h)⟩
   have HF:Ad (false=true ↔ Op P Q A B Y Z msg sig):=⟨⟨(fun h=>by cases h),fun h=>absurd (HOK.out.1 h).1 hmm⟩⟩
   clear hmm
   go_wp2_with fail
   refine(Ki (HGA.out.below HB3.out) HPL.out (by decide)).mono ?_;rintro en w4 ⟨rfl,hb4⟩;rw[HMT.out];have HB4:=Aa (Ae HB3.out hb4);clear hb4 g0 g1 g2 g3;go_wp2;go_ret;exact⟨false,rfl,HF.out,HB4.out⟩
end Go.Proofs.YtnbmfaihlefgfaaGreatDoor
