/- Pledges: of one, and of a polynomial (pledge.Of, All, Bare). -/
import Derived.Test.YtokhckjemidbpaaGreatDoorDeR
set_option maxRecDepth 1000000
set_option maxHeartbeats 16000000
set_option linter.all false
namespace Go.Proofs.YtokhckjemidbpaaGreatDoor
open Go Go.RowKit Go.Proofs.YtokhckjemidbpaaGreatDoor.Flow
theorem Zc {w:World}{b P Q GG HH es er S R:Nat}{vs vr:Value}(hg:Au w b P Q GG HH)(hs:Fit es S vs w)(hr:Fit er R vr w)(hes:es<=200)(her:er<=200) :
  Calls Tryz.prog 162 #[.pointer (some ⟨b,0,none⟩),vs,vr] w fun en w'=>∃u,en=.returned u/\Fit 33 (Du P Q GG HH S R) u w'/\Below w.heap.size w w':=by
 obtain⟨ps,ns,cs,rfl,h1,h2⟩:=Ao hs;obtain⟨pr,nr,cr,rfl,h3,h4⟩:=Ao hr;have hbx:=Xz.mk3 w (.slice ps ns cs) (.slice pr nr cr) (.slice none 0 0);have q0:=hbx.b0;have q1:=hbx.b1;have q2:=hbx.b2;have hbl:=hbx.bel;obtain⟨wa,hwa⟩:∃wa,(((w.alloc (.cells #[.slice ps ns cs] 37)).alloc (.cells #[.slice pr nr cr] 37)).alloc (.cells #[.slice none 0 0] 37))=wa:=⟨_,rfl⟩
 rw[hwa]at q0 q1 q2 hbl
 have HXS0:=Ab q0;have HXR0:=Ab q1;have HZ00:=Ab q2;have HB0:=Ab hbl;have HS0:=Ab ((Fit.of h1 h2).below hbl);have HR0:=Ab ((Fit.of h3 h4).below hbl);have HG0:=Ab (hg.below hbl);have HL:=Ab hg.lims;obtain⟨SQ,hSQ⟩:∃K,S%Q=K:=⟨_,rfl⟩
 obtain⟨RQ,hRQ⟩:∃K,R%Q=K:=⟨_,rfl⟩
 obtain⟨AA,hAA⟩:∃K,Kl P 1 ([GG,HH].zip [SQ,RQ])=K:=⟨_,rfl⟩
 have HSQ:=Ab hSQ;have HRQ:=Ab hRQ;have HAA:=Ab hAA;have hAE:Du P Q GG HH S R=AA:=by rw[<-hAA,<-hSQ,<-hRQ,cM]
 have hAAl:AA<P:=by rw[<-hAE];exact Wr (by have:=HL.out.1;omega)
 have HAAb:Aa (AA<An 33):=⟨Nat.lt_trans hAAl HL.out.2.1⟩
 rw[hAE];clear hAE hAAl hSQ hRQ hAA h1 h2 h3 h4 hbx q0 q1 q2 hbl hg hs hr;go_enter Tryz.func162,Tryz.ntmps162
 go_wp2_with fail
 refine(Ez HG0.out).mono ?_;rintro en w1 ⟨r,rfl,hr,hb1⟩;have HR:=Ab hr;have HXS:=Ab (HXS0.out.below hb1 HXS0.out.lt);have HXR:=Ab (HXR0.out.below hb1 HXR0.out.lt);have HZ0:=Ab (HZ00.out.below hb1 HZ00.out.lt);have HB3:=Ab (Af HB0.out hb1);have HS:=Ab (HS0.out.below hb1);have HRr:=Ab (HR0.out.below hb1);have HG:=Ab (HG0.out.below hb1);clear hr hb1 HXS0 HXR0 HZ00 HB0 HS0 HR0 HG0 hwa;go_wp2;refine Aj (by kernel_rfl) (by kernel_rfl)
  [some (.pointer (some ⟨b,0,none⟩)),some (.pointer (some ⟨b,0,none⟩)),none,some (.pointer (some ⟨b,0,none⟩)),none,none,some (.pointer (some ⟨r,0,none⟩)),some (.agg #[.slice ps ns cs]),none,some (.pointer (some ⟨r,0,none⟩)),some (.agg #[.slice pr nr cr]),none,none,none,none,none,some (.int .i64 0),none,none,some (.int .i64 0)]
  [false,false,true,false,true,true,false,false,true,false,false,true,true,true,true,true,false,true,true,false] rfl
  (fun wA wB=>KN (w1.heap.size) wA wB)
  (fun D sp w'=>RG (w1.heap.size) w1 [] w'/\bI (D 17) (D 18) (sp 17) (w1.heap.size) (AA) w')
  (fun i v w'=>match i with
   | 2=>Fit 33 (GG) v w'
   | 4=>Fit 33 (HH) v w'
   | 5=>bF GG HH v w'
   | 8=>Fit 33 (SQ) v w'
   | 11=>Fit 33 (RQ) v w'
   | 12=>bF SQ RQ v w'
   | 13=>Gm 33 AA (.int .i64 0) v w'
   | 14=>Gm 33 AA (.int .i64 0) v w'
   | 15=>Fit (33) (AA) v w'
   | _=>True)
  ?_ ⟨RG.start (Aw _) (fun x hx=>by cases hx),bI.start (Aw _)⟩ ?_ ?_
 .intro i v wA wB hf hb;split at hf
  .exact hf.kn hb
  .exact hf.kn hb
  .exact hf.kn hb
  .exact hf.kn hb
  .exact hf.kn hb
  .exact hf.kn hb
  .exact hf.kn hb
  .exact hf.kn hb
  .exact hf.kn hb
  .trivial
 .simp only[Az,Nat.reduceAdd];refine⟨?_,?_,?_,?_,?_,?_,?_,?_,?_,?_,?_,?_,?_,?_,?_,?_,?_,?_,?_,?_,trivial⟩
  all_goals intro D sp w' hD hW hdp hg
  case refine_3=>
   (with_reducible refine Ac (w1:=w') (f := 26) (args:=#[.pointer (some ⟨b,0,none⟩)]) ?_ ?_ ?_)
   .simp[Region.wanted,yielded,Act.put,go_sem]
   .simp[Act.eval,Act.put,go_sem]
   .refine(pP (HG.out.below hg.1.keep.bel)).mono ?_;rintro en w9 ⟨u,rfl,hu,hb⟩;exact⟨u,rfl,KN.of hb hg.1.base,hu,hg.1.later hb,by simpa [upd]using hg.2.later hb⟩
  case refine_5=>
   (with_reducible refine Ac (w1:=w') (f := 53) (args:=#[.pointer (some ⟨b,0,none⟩)]) ?_ ?_ ?_)
   .simp[Region.wanted,yielded,Act.put,go_sem]
   .simp[Act.eval,Act.put,go_sem]
   .refine(pO (HG.out.below hg.1.keep.bel)).mono ?_;rintro en w9 ⟨u,rfl,hu,hb⟩;exact⟨u,rfl,KN.of hb hg.1.base,hu,hg.1.later hb,by simpa [upd]using hg.2.later hb⟩
  case refine_6=>
   have hxa:∃p n c,sp 2=.agg #[.slice p n c]/\Ag w' p n c (GG)/\GG<An (33):=(hdp 2 (mq (by kernel_rfl))).2
   (with_reducible refine Av hxa fun pa hxa1=>Av hxa1 fun na hxa2=>Av hxa2 fun ca hxa3=>?_)
   have ha:=hxa3.1;have hxb:∃p n c,sp 4=.agg #[.slice p n c]/\Ag w' p n c (HH)/\HH<An (33):=(hdp 4 (mq (by kernel_rfl))).2
   (with_reducible refine Av hxb fun pb hxb1=>Av hxb1 fun nb hxb2=>Av hxb2 fun cb hxb3=>?_)
   have hb:=hxb3.1
   (with_reducible refine Ah (w1:=w'.alloc (.cells #[.slice pa na ca,.slice pb nb cb] 37)) (v:=.slice (some ⟨w'.heap.size,0,none⟩) 2 2) ?_ ?_ ?_)
   .simp only[Region.wanted]
   .simp[execOp,Act.eval,Act.put,go_sem,ha,hb]
   .have hbl:Below w'.heap.size w' (w'.alloc (.cells #[.slice pa na ca,.slice pb nb cb] 37)):=Bt;exact⟨KN.of hbl hg.1.base,⟨w'.heap.size,(pa,na,ca),(pb,nb,cb),rfl,heap_alloc_new w' _,hxa3.2.1.below hbl,hxb3.2.1.below hbl,hxa3.2.2,hxb3.2.2⟩,hg.1.later hbl,by simpa [upd]using hg.2.later hbl⟩
  case refine_8=>
   have c0:=(HXS.out.below hg.1.keep.bel HXS.out.lt).cell
   with_reducible refine Ad ?_ ?_
   all_goals simp[Region.wanted,yielded,execOp,Act.eval,Act.put,go_sem,c0]
  case refine_9=>
   (with_reducible refine Ac (w1:=w') (f := 31) (args:=#[.pointer (some ⟨r,0,none⟩),.agg #[.slice ps ns cs]]) ?_ ?_ ?_)
   .simp[Region.wanted,yielded,Act.put,go_sem]
   .simp[Act.eval,Act.put,go_sem]
   .refine(Cv (HR.out.below hg.1.keep.bel) (HS.out.below hg.1.keep.bel) (by omega)).mono ?_;rintro en w9 ⟨u,rfl,hu,hb⟩;rw[HSQ.out]at hu
    exact⟨u,rfl,KN.of hb hg.1.base,hu,hg.1.later hb,by simpa [upd]using hg.2.later hb⟩
  case refine_11=>
   have c0:=(HXR.out.below hg.1.keep.bel HXR.out.lt).cell
   with_reducible refine Ad ?_ ?_
   all_goals simp[Region.wanted,yielded,execOp,Act.eval,Act.put,go_sem,c0]
  case refine_12=>
   (with_reducible refine Ac (w1:=w') (f := 31) (args:=#[.pointer (some ⟨r,0,none⟩),.agg #[.slice pr nr cr]]) ?_ ?_ ?_)
   .simp[Region.wanted,yielded,Act.put,go_sem]
   .simp[Act.eval,Act.put,go_sem]
   .refine(Cv (HR.out.below hg.1.keep.bel) (HRr.out.below hg.1.keep.bel) (by omega)).mono ?_;rintro en w9 ⟨u,rfl,hu,hb⟩;rw[HRQ.out]at hu
    exact⟨u,rfl,KN.of hb hg.1.base,hu,hg.1.later hb,by simpa [upd]using hg.2.later hb⟩
  case refine_13=>
   have hxa:∃p n c,sp 8=.agg #[.slice p n c]/\Ag w' p n c (SQ)/\SQ<An (33):=(hdp 8 (mq (by kernel_rfl))).2
   (with_reducible refine Av hxa fun pa hxa1=>Av hxa1 fun na hxa2=>Av hxa2 fun ca hxa3=>?_)
   have ha:=hxa3.1;have hxb:∃p n c,sp 11=.agg #[.slice p n c]/\Ag w' p n c (RQ)/\RQ<An (33):=(hdp 11 (mq (by kernel_rfl))).2
   (with_reducible refine Av hxb fun pb hxb1=>Av hxb1 fun nb hxb2=>Av hxb2 fun cb hxb3=>?_)
   have hb:=hxb3.1
   (with_reducible refine Ah (w1:=w'.alloc (.cells #[.slice pa na ca,.slice pb nb cb] 37)) (v:=.slice (some ⟨w'.heap.size,0,none⟩) 2 2) ?_ ?_ ?_)
   .simp only[Region.wanted]
   .simp[execOp,Act.eval,Act.put,go_sem,ha,hb]
   .have hbl:Below w'.heap.size w' (w'.alloc (.cells #[.slice pa na ca,.slice pb nb cb] 37)):=Bt;exact⟨KN.of hbl hg.1.base,⟨w'.heap.size,(pa,na,ca),(pb,nb,cb),rfl,heap_alloc_new w' _,hxa3.2.1.below hbl,hxb3.2.1.below hbl,hxa3.2.2,hxb3.2.2⟩,hg.1.later hbl,by simpa [upd]using hg.2.later hbl⟩
  case refine_14=>
   have hr:∃(g:Nat) (x y:Option Addr×Nat×Nat),sp 5=.slice (some ⟨g,0,none⟩) 2 2/\w'.heap[g]? = some (.cells #[.slice x.1 x.2.1 x.2.2,.slice y.1 y.2.1 y.2.2] 37 (0,0))/\Cw w' x GG/\Cw w' y HH/\GG<An 33/\HH<An 33:=(hdp 5 (mq (by kernel_rfl))).2
   (with_reducible refine Av hr fun ga ha1=>Av ha1 fun ua ha2=>Av ha2 fun ta ha3=>?_)
   have hr:∃(g:Nat) (x y:Option Addr×Nat×Nat),sp 12=.slice (some ⟨g,0,none⟩) 2 2/\w'.heap[g]? = some (.cells #[.slice x.1 x.2.1 x.2.2,.slice y.1 y.2.1 y.2.2] 37 (0,0))/\Cw w' x SQ/\Cw w' y RQ/\SQ<An 33/\RQ<An 33:=(hdp 12 (mq (by kernel_rfl))).2
   (with_reducible refine Av hr fun gb hb1=>Av hb1 fun ub hb2=>Av hb2 fun tb hb3=>?_)
   have ea:=ha3.1;have eb:=hb3.1
   (with_reducible refine Ac (w1:=w') (f := 149) (args:=#[.pointer (some ⟨b,0,none⟩),.slice (some ⟨ga,0,none⟩) 2 2,.slice (some ⟨gb,0,none⟩) 2 2]) ?_ ?_ ?_)
   .simp only[Region.wanted]
   .simp[Act.eval,Act.put,go_sem,ea,eb]
   .refine(fZ (HG.out.below hg.1.keep.bel) (bF.plist ha3.2.1 ha3.2.2.1 ha3.2.2.2.1 ha3.2.2.2.2.1 ha3.2.2.2.2.2) (bF.plist hb3.2.1 hb3.2.2.1 hb3.2.2.2.1 hb3.2.2.2.2.1 hb3.2.2.2.2.2) (by decide) (by decide) (by decide) (by decide)).mono ?_;rintro en w9 ⟨_,rfl,⟨p9,n9,c9,rfl,u1,u2⟩,hb⟩;rw[if_pos rfl,HAA.out]at u1 u2
    exact⟨_,rfl,KN.of hb hg.1.base,⟨p9,n9,c9,rfl,u1,u2⟩,hg.1.later hb,by simpa [upd]using hg.2.later hb⟩
  case refine_15=>
   have k13:Gm 33 AA (.int .i64 0) (sp 13) w':=(hdp 13 (mq (by kernel_rfl))).2
   (with_reducible refine Ah (w1:=w') (v:=sp 13) ?_ ?_ ?_)
   .simp[Region.wanted,yielded,Act.put,go_sem]
   .simp[execOp,Act.eval,Act.put,go_sem]
   .exact⟨KN.same _ _,k13,hg.1,by simpa [upd]using hg.2⟩
  case refine_16=>
   have hx:∃p n c,sp 14=.tuple #[.agg #[.slice p n c],.int .i64 0]/\Ag w' p n c (AA)/\AA<An (33):=(hdp 14 (mq (by kernel_rfl))).2
   (with_reducible refine Av hx fun p hx1=>Av hx1 fun n hx2=>Av hx2 fun c hx3=>?_)
   have h1:=hx3.1
   (with_reducible refine Ah (w1:=w') (v:=.agg #[.slice p n c]) ?_ ?_ ?_)
   .simp[Region.wanted,yielded,Act.put,go_sem]
   .simp[execOp,Act.eval,Act.put,go_sem,h1]
   .exact⟨KN.same _ _,⟨p,n,c,rfl,hx3.2⟩,hg.1,by simpa [upd]using hg.2⟩
  case refine_17=>
   have hx:∃p n c,sp 14=.tuple #[.agg #[.slice p n c],.int .i64 0]/\Ag w' p n c (AA)/\AA<An (33):=(hdp 14 (mq (by kernel_rfl))).2
   (with_reducible refine Av hx fun p hx1=>Av hx1 fun n hx2=>Av hx2 fun c hx3=>?_)
   have h1:=hx3.1
   with_reducible refine Ad ?_ ?_
   all_goals simp[Region.wanted,yielded,execOp,Act.eval,Act.put,go_sem,h1]
  case refine_18=>
   have h9:D 18=false:=hW 18 (mq (by kernel_rfl));rw[hD,h9]at hg
   (with_reducible refine Ah (w1:=w'.alloc (.cells #[.slice none 0 0] 37)) (v:=.pointer (some ⟨w'.heap.size,0,none⟩)) ?_ ?_ ?_)
   .simp[Region.wanted,yielded,Act.put,go_sem]
   .simp[execOp,go_sem]
   .have hb:Below w'.heap.size w' (w'.alloc (.cells #[.slice none 0 0] 37)):=Bt;refine⟨KN.of hb hg.1.base,trivial,hg.1.later hb,?_⟩;have h8:=hg.2.made;simpa [upd,h9]using h8
  case refine_19=>
   have hx:∃p n c,sp 15=.agg #[.slice p n c]/\Ag w' p n c (AA)/\AA<An (33):=(hdp 15 (mq (by kernel_rfl))).2
   (with_reducible refine Av hx fun p hx1=>Av hx1 fun n hx2=>Av hx2 fun c hx3=>?_)
   have h1:=hx3.1;have h9:D 17=true:=(hdp 17 (mq (by kernel_rfl))).1;rw[h9]at hg
   have hp:=hg.2.put (hx3.2.1)
   (with_reducible refine Av hp fun b hy0=>Av hy0 fun q hy1=>Av hy1 fun m hy2=>Av hy2 fun k hy3=>?_)
   have h3:=hy3.1;have h6:=hy3.2.2.1.cell;have h7:=hy3.2.2.1.free
   (with_reducible refine Ap (w1:=w'.setCell ⟨b,0,none⟩ (.slice p n c)) ?_ ?_ ?_)
   .simp[Region.wanted,yielded,Act.put,go_sem]
   .simp[execOp,Act.eval,Act.put,go_sem,h1,h3,h6,h7]
   .refine⟨KN.store hy3.2.2.1 (Er (Aw _) hy3.2.1) _,trivial,hg.1.store_over hy3.2.2.1 (Aw _) hy3.2.1 (fun x hx=>by cases hx) _,?_⟩;have h8:=hy3.2.2.2;simpa [upd,h9]using h8
  all_goals ((with_reducible refine Ad ?_ ?_);all_goals first|(simp only[Region.wanted];done)|simp[Region.wanted,yielded,execOp,Act.eval,Act.put,go_sem])
 .intro sp w4 hsp hg;obtain⟨hg1,_,hmk⟩:=hg;obtain⟨b11,e11,hb11,pz,nz,cz,hxz,hnz⟩:=hmk rfl;replace hnz:=hnz rfl;have hbel:=hg1.keep.bel;have hz:=HZ0.out.below hbel HZ0.out.lt;have kx:=hxz.cell;have fz:=hz.free;have k8:=hz.cell;have kz:=(hz.set (.slice pz nz cz)).cell;have HN:=Ab (Fit.of (hnz.store hz (.slice pz nz cz)) HAAb.out);have HBf:Aa (Below w.heap.size w (w4.setCell ⟨w.heap.size+1+1,0,none⟩ (.slice pz nz cz))):=⟨(Af HB3.out hbel).setCell (show w.heap.size<=w.heap.size+1+1 by omega) _⟩
  clear hsp hg1 hmk hxz hnz hb11 hbel hz;simp only[Al,Nat.reduceAdd];rw[e11];clear e11;generalize sp 2=y2,sp 4=y4,sp 5=y5,sp 8=y8,sp 11=y11,sp 12=y12,sp 13=y13,sp 14=y14,sp 15=y15,sp 18=y18 at *
  go_simp
  go_wp2;exact bodyPost_ret (v:=.agg #[.slice pz nz cz]) (by simp[results,Tryz.results162,go_sem,kz]) rfl ⟨_,rfl,HN.out,HBf.out⟩
theorem Ux {w:World}{e n c:Nat}{p:Option Addr}{As:List Nat}(h:Aq w e p n c As)(i:Nat)(hn:n<=1000000) :
  Calls Tryz.prog 163 #[.slice p n c,.int .i64 i] w fun en w'=>∃x,en=.returned x/\Fit e (As.getD i 0) x w'/\Below w.heap.size w w':=by
 have hbx:=Ae.made w (.slice none 0 0);have hbw:Below w.heap.size w (w.alloc (.cells #[.slice none 0 0] 37)):=Bt;obtain⟨wa,hwa⟩:∃x,w.alloc (.cells #[.slice none 0 0] 37)=x:=⟨_,rfl⟩
 rw[hwa]at hbx hbw
 have k1:=hbx.cell;have f1:=hbx.free;have hlen:=h.len;obtain⟨X0,hX0⟩:∃X,As.getD i 0=X:=⟨_,rfl⟩
 rw[hX0]
 by_cases hi:i<n
 .obtain⟨A,hA⟩:∃X,As[i]? = some X:=⟨As[i]'(by omega),List.getElem?_eq_getElem _⟩
  obtain⟨b,off,rfl,hb,hc⟩:=h.at_ (by omega)
  obtain⟨q,m,d,h1,h2,h3⟩:=hc i A hA;have hcell:wa.cell? ⟨b,off+i,none⟩=some (.slice q m d):=(hbw.cell (p:=⟨b,off+i,none⟩) hb).trans h1;have hg:As.getD i 0=A:=by rw[Dn,hA];rfl
  have HF:Aa (Fit e X0 (.agg #[.slice q m d]) (wa.setCell ⟨w.heap.size,0,none⟩ (.slice q m d))):=⟨by rw[<-hX0,hg];exact Fit.of ((h2.below hbw).store hbx _) h3⟩
  have HB:Aa (Below w.heap.size w (wa.setCell ⟨w.heap.size,0,none⟩ (.slice q m d))):=⟨hbw.setCell (Aw _) _⟩
  have kz:(wa.setCell ⟨w.heap.size,0,none⟩ (.slice q m d)).cell? ⟨w.heap.size,0,none⟩=some (.slice q m d):=(hbx.set _).cell;have hi':(i:Int)<n:=by omega
  have hni:¬n<=i:=by omega
  clear h hc h1 h2 hb hA hg hbx hbw hX0;go_enter Tryz.func163,Tryz.ntmps163;go_wp2;exact bodyPost_ret (v:=.agg #[.slice q m d]) (by simp[results,Tryz.results163,go_sem,k1]) rfl ⟨_,rfl,HF.out,HB.out⟩
 .have hg:As.getD i 0=0:=by rw[Dn,List.getElem?_eq_none (by omega)];rfl
  have HF:Aa (Fit e X0 (.agg #[.slice none 0 0]) (wa.setCell ⟨w.heap.size,0,none⟩ (.slice none 0 0))):=⟨by rw[<-hX0,hg];exact Fit.of (Ag.nil _) (Fo e)⟩
  have HB:Aa (Below w.heap.size w (wa.setCell ⟨w.heap.size,0,none⟩ (.slice none 0 0))):=⟨hbw.setCell (Aw _) _⟩
  have hi':¬(i:Int)<n:=by omega
  clear h hg hbx hbw hX0;go_enter Tryz.func163,Tryz.ntmps163;go_wp2;exact bodyPost_ret (v:=.agg #[.slice none 0 0]) (by simp[results,Tryz.results163,go_sem,k1]) rfl ⟨_,rfl,HF.out,HB.out⟩
theorem jZ {w:World}{b P Q GG HH e1 e2 n c m d:Nat}{p p2:Option Addr}{As Bs:List Nat}(hG:Au w b P Q GG HH)(hA:Aq w e1 p n c As)(hB:Aq w e2 p2 m d Bs)(h1:e1<=200)(h2:e2<=200)(hn:n<=1000)(hm:m<=1000) :
  Calls Tryz.prog 103 #[.pointer (some ⟨b,0,none⟩),.slice p n c,.slice p2 m d] w fun en w'=>en=.returned (.slice (some ⟨w.heap.size,0,none⟩) (max n m) (max n m))/\Aq w' 33 (some ⟨w.heap.size,0,none⟩) (max n m) (max n m) (Bj P Q GG HH As Bs)/\Below w.heap.size w w':=by
 have HLA:=Ab hA.len;have HLB:=Ab hB.len;have HA:=Ab hA;have HB:=Ab hB;have HG:=Ab hG;obtain⟨L,hL⟩:∃L,max n m=L:=⟨_,rfl⟩
 have HLL:Aa ((Bj P Q GG HH As Bs).length=L):=⟨by rw[Ek,<-HLA.out,<-HLB.out,hL]⟩
 have hL1:L<=1000:=by omega
 rw[hL];have hmk:=fun w=>Nu L (by omega) w
 obtain⟨w0,hw0⟩:∃w0,w.alloc (.cells (madeCells #[.slice none 0 0] L) 37)=w0:=⟨_,rfl⟩
 have hb0:Below w.heap.size w w0:=by rw[<-hw0];exact(Ba _ _).alloc (Aw _) _
 have HS0:Aa (Cr w0 w.heap.size (List.replicate L (none,0,0))):=⟨by rw[<-hw0];exact Cr.made w L⟩
 have HB0:=Ab hb0;clear hG hA hB hb0;have main:max (n:Int) (m:Int)=(L:Int):=by omega
 have hcase:((m:Int)=L/\(n:Int)<L/\(n:Int)<=L/\¬(L:Int)<n/\¬(L:Int)<=n/\max (n:Int) (L:Int)=L) ∨ ((n:Int)=L/\(m:Int)<=L/\¬(L:Int)<m/\max (L:Int) (m:Int)=L/\((L:Int)<=m ↔ m=L)/\((m:Int)<L ↔ m<L)):=by omega
 rcases hcase with ⟨hx1,hx2,hx3,hx4,hx5,hx6⟩|⟨hx1,hx2,hx3,hx4,hx5,hx6⟩
 all_goals
  go_enter Tryz.func103,Tryz.ntmps103;go_wp2;clear hx1 hx2 hx3 hx4 hx5 hx6
  go_loopw [8,19] (fun _ iv wr=>∃(k:Nat) (us:List (Option Addr×Nat×Nat)),k<=L/\iv=.int .i64 k/\us.length=L/\Aa (Cr wr w.heap.size us)/\Aa (Ra wr 33 us (Bj P Q GG HH As Bs) k)/\Aa (Below w.heap.size w wr)) (fun _ iv _=>L-(intOf iv).toNat)
  case atStart=>exact⟨0,List.replicate L (none,0,0),by omega,rfl,by simp,HS0,⟨fun j N hj=>by omega⟩,HB0⟩
  case round=>
   obtain⟨k,us,hk,rfl,hus,HSr,HVr,HBr⟩:=hrel
   by_cases hkn:k<L
   .have HUK:Aa (us[k]? = some (us[k]'(by omega))):=⟨List.getElem?_eq_getElem _⟩
    have HNk:Aa ((Bj P Q GG HH As Bs)[k]? = some (Du P Q GG HH (As.getD k 0) (Bs.getD k 0))):=⟨Lq P Q GG HH As Bs k (by rw[<-HLA.out,<-HLB.out,hL];exact hkn)⟩
    have hkn':(k:Int)<L:=by omega
    have hnk:¬L<=k:=by omega
    clear hmk
    go_wp2_with fail
    refine(Ux (HA.out.below HBr.out) k (by omega)).mono ?_;rintro en w1 ⟨x1,rfl,f1,b1⟩;have F1:=Ab f1;have B1:=Ab (Af HBr.out b1);have S1:=Ab (HSr.out.below b1 HSr.out.lt);have V1:=Ab (HVr.out.keep (B:=w.heap.size) (Am.of b1 HBr.out.size));clear f1 b1
    go_wp2_with fail
    refine(Ux (HB.out.below B1.out) k (by omega)).mono ?_;rintro en w2 ⟨x2,rfl,f2,b2⟩;have F2:=Ab f2;have F1':=Ab (F1.out.below b2);have B2:=Ab (Af B1.out b2);have S2:=Ab (S1.out.below b2 S1.out.lt);have V2:=Ab (V1.out.keep (B:=w.heap.size) (Am.of b2 B1.out.size));clear f2 b2
    go_wp2_with fail
    refine(Zc (HG.out.below B2.out) F1'.out F2.out (by omega) (by omega)).mono ?_;rintro en w3 ⟨_,rfl,⟨pz,nz,cz,rfl,z1,z2⟩,b3⟩;have hs1:=S2.out.below b3 S2.out.lt;have c1:=hs1.cell HUK.out;have f1:=hs1.free k;have HS8:=Ab (hs1.set k pz nz cz);have HV8:=Ab (((V2.out.keep (Am.of (B:=w.heap.size) b3 B2.out.size)).keep (Am.store_row hs1 (Aw _) k (.slice pz nz cz))).step (by omega) HNk.out (hs1.nat z1 k _) z2);have HB8:Aa (Below w.heap.size w (w3.setCell ⟨w.heap.size,k,none⟩ (.slice pz nz cz))):=⟨(Af B2.out b3).setCell (Aw _) _⟩
    have HLEN:Aa ((us.set k (pz,nz,cz)).length=L):=⟨by rw[List.length_set];exact hus⟩
    clear z1 b3 hs1;go_wp2;go_roundw
    case rel=>exact⟨k+1,us.set k (pz,nz,cz),by omega,by go_num,HLEN.out,HS8,HV8,HB8⟩
    case measure=>simp[intOf];omega
   .obtain rfl:k=L:=by omega
    have hkn':¬(k:Int)<k:=by omega
    have HPL:=Ab (HVr.out.plist HSr.out HLL.out (by omega));clear hmk;go_wp2;go_ret;exact⟨rfl,HPL.out,HBr.out⟩
theorem mF {w:World}{b P Q GG HH e1 e2 n c m d:Nat}{p p2:Option Addr}{As Bs:List Nat}(hG:Au w b P Q GG HH)(hA:Aq w e1 p n c As)(hB:Aq w e2 p2 m d Bs)(h1:e1<=200)(h2:e2<=200)(hn:n<=1000)(hm:m<=1000) :
  Calls Tryz.prog 103 #[.pointer (some ⟨b,0,none⟩),.slice p n c,.slice p2 m d] w fun en w'=>∃u,en=.returned u/\oW (max n m) (Bj P Q GG HH As Bs) u w'/\Below w.heap.size w w':=by
 refine(jZ hG hA hB h1 h2 hn hm).mono ?_;rintro en w9 ⟨rfl,h,hb⟩;exact⟨_,rfl,⟨_,rfl,h⟩,hb⟩
end Go.Proofs.YtokhckjemidbpaaGreatDoor
