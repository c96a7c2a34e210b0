/- What a proof says the base was taken as often as was drawn ((schnorr.Proof).Drawn). -/
import Derived.Test.YthgoeiegdhphjaaGreatDoorSgC
set_option maxRecDepth 1000000
set_option maxHeartbeats 16000000
set_option linter.all false
namespace Go.Proofs.YthgoeiegdhphjaaGreatDoor
open Go Go.RowKit Go.Proofs.YthgoeiegdhphjaaGreatDoor.Flow
def Ux (N M:Nat)(v:Value)(w:World):Prop:=∃(g:Nat) (x y:Option Addr×Nat×Nat),v=.slice (some ⟨g,0,none⟩) 2 2/\w.heap[g]? = some (.cells #[.slice x.1 x.2.1 x.2.2,.slice y.1 y.2.1 y.2.2] 36 (0,0))/\Eb w x N/\Eb w y M/\N<Ao 33/\M<Ao 33
theorem Ux.kn {N M B:Nat}{v:Value}{w w':World}(h:Ux N M v w)(k:KN B w w'):Ux N M v w' :=
 let ⟨g,x,y,h1,h2,h3,h4,h5,h6⟩:=h
 ⟨g,x,y,h1,k.blk _ _ h2 (fun _ _ _=>by simp),k.k.nat _ _ _ _ h3,k.k.nat _ _ _ _ h4,h5,h6⟩
theorem Ux.plist {N M g:Nat}{x y:Option Addr×Nat×Nat}{w:World}(h2:w.heap[g]? = some (.cells #[.slice x.1 x.2.1 x.2.2,.slice y.1 y.2.1 y.2.2] 36 (0,0)))(h3:Eb w x N)(h4:Eb w y M)(h5:N<Ao 33)(h6:M<Ao 33):Bq w 33 (some ⟨g,0,none⟩) 2 2 [N,M]:=by
 refine⟨rfl,Av _,by decide,(fun e=>by cases e),fun _=>⟨g,0,rfl,(Ll h2).1,fun i K hK=>?_⟩⟩
 match i,hK with
 | 0,hK=>cases hK;exact⟨x.1,x.2.1,x.2.2,by simp[World.cell?,h2],h3,h5⟩
 | 1,hK=>cases hK;exact⟨y.1,y.2.1,y.2.2,by simp[World.cell?,h2],h4,h6⟩
theorem Yq {P G S Z C:Nat}:Hv P 1 ([G,Z].zip [S,C])=(1*(G^S%P)%P)*(Z^C%P)%P:=rfl
theorem Zo {w:World}{b P Q G H ea ey A Y CC SS:Nat}{va vy:Value}{x y:Option Addr×Nat×Nat}(hg:Ay w b P Q G H)(ha:Fit ea A va w)(hv:Fit ey Y vy w)(hea:ea<=33)(hey:ey<=33)(hC:Eb w x CC)(hS:Eb w y SS)(lC:CC<Ao 33)(lS:SS<Ao 33) :
  Calls Tryz.prog 103 #[.agg #[.slice x.1 x.2.1 x.2.2,.slice y.1 y.2.1 y.2.2],.pointer (some ⟨b,0,none⟩),va,vy] w fun en w'=>∃u,en=.returned u/\Fit 33 (To P A Y CC SS) u w'/\Below w.heap.size w w':=by
 obtain⟨pa,na,ca,rfl,h1,h2⟩:=Aq (ha.wide hea);obtain⟨py,ny,cy,rfl,h3,h4⟩:=Aq (hv.wide hey);have hs:=Da.made w (.slice x.1 x.2.1 x.2.2) (.slice y.1 y.2.1 y.2.2);have hb0:Below w.heap.size w (w.alloc (.cells #[.slice x.1 x.2.1 x.2.2,.slice y.1 y.2.1 y.2.2] 142)):=Cf;have hz0:(w.alloc (.cells #[.slice x.1 x.2.1 x.2.2,.slice y.1 y.2.1 y.2.2] 142)).heap.size=w.heap.size+1:=by simp
 have hbx:=Ta.mk3 (w.alloc (.cells #[.slice x.1 x.2.1 x.2.2,.slice y.1 y.2.1 y.2.2] 142)) (.slice pa na ca) (.slice py ny cy) (.slice none 0 0);have q0:=hbx.b0;have q1:=hbx.b1;have q2:=hbx.b2;have hbl:=Af hb0 hbx.bel;have hs2:=hs.below hbx.bel hs.lt;rw[hz0]at q0 q1 q2
 obtain⟨wa,hwa⟩:∃wa,((((w.alloc (.cells #[.slice x.1 x.2.1 x.2.2,.slice y.1 y.2.1 y.2.2] 142)).alloc (.cells #[.slice pa na ca] 36)).alloc (.cells #[.slice py ny cy] 36)).alloc (.cells #[.slice none 0 0] 36))=wa:=⟨_,rfl⟩
 rw[hwa]at q0 q1 q2 hbl hs2
 have HS9:=Aa hs2;have HXA:=Aa q0;have HXY:=Aa q1;have HZ0:=Aa q2;have HB3:=Aa hbl;have HA:=Aa ((Fit.of h1 h2).below hbl);have HAb:=Aa h2;have HY:=Aa ((Fit.of h3 h4).below hbl);have HCN:Ad (Eb wa x CC):=⟨hC.below hbl⟩
 have HSN:Ad (Eb wa y SS):=⟨hS.below hbl⟩
 have HCL:=Aa lC;have HSL:=Aa lS;have HG:=Aa (hg.below hbl);have HL:=Aa hg.lims;obtain⟨ZZ,hZZ⟩:∃Z,Wl P Y=Z:=⟨_,rfl⟩
 obtain⟨AA,hAA⟩:∃K,Hv P 1 ([A,ZZ].zip [SS,CC])=K:=⟨_,rfl⟩
 have HZZ:=Aa hZZ;have HAA:=Aa hAA;have hAE:To P A Y CC SS=AA:=by
  unfold To;rw[hZZ,<-hAA,Yq,Nat.one_mul,Nat.mod_mod]
 have hAAl:AA<P:=by rw[<-hAE];exact Nat.mod_lt _ (by have:=HL.out.1;omega)
 have HAAb:Ad (AA<Ao 33):=⟨Nat.lt_trans hAAl HL.out.2.1⟩
 rw[hAE];clear hAE hAAl hZZ hAA h1 h2 h3 h4 hs hb0 hz0 hbx q0 q1 q2 hbl hs2 hg ha hv hC hS;go_enter Tryz.func103,Tryz.ntmps103;go_wp2;refine Aj (by kernel_rfl) (by kernel_rfl)
  [some (.pointer (some ⟨b,0,none⟩)),some (.agg #[.slice pa na ca]),some (.pointer (some ⟨b,0,none⟩)),some (.agg #[.slice py ny cy]),none,none,some (.pointer (some ⟨w.heap.size,1,none⟩)),some (.agg #[.slice y.1 y.2.1 y.2.2]),some (.pointer (some ⟨w.heap.size,0,none⟩)),some (.agg #[.slice x.1 x.2.1 x.2.2]),none,none,none,none,some (.int .i64 0),none,none,some (.int .i64 0)]
  [false,false,false,false,true,true,false,false,false,false,true,true,true,true,false,true,true,false] rfl
  (fun wA wB=>KN (wa.heap.size) wA wB)
  (fun D sp w'=>RG (wa.heap.size) wa [] w'/\Pn (D 15) (D 16) (sp 15) (wa.heap.size) (AA) w')
  (fun i v w'=>match i with
   | 4=>Fit 33 (ZZ) v w'
   | 5=>Ux A ZZ v w'
   | 10=>Ux SS CC v w'
   | 11=>Dw 33 AA (.int .i64 0) v w'
   | 12=>Dw 33 AA (.int .i64 0) v w'
   | 13=>Fit (33) (AA) v w'
   | _=>True)
  ?_ ⟨RG.start (Av _) (fun x hx=>by cases hx),Pn.start (Av _)⟩ ?_ ?_
 .intro i v wA wB hf hb;split at hf
  .exact hf.kn hb
  .exact hf.kn hb
  .exact hf.kn hb
  .exact hf.kn hb
  .exact hf.kn hb
  .exact hf.kn hb
  .trivial
 .simp only[Ax,Nat.reduceAdd];refine⟨?_,?_,?_,?_,?_,?_,?_,?_,?_,?_,?_,?_,?_,?_,?_,?_,?_,?_,trivial⟩
  all_goals intro D sp w' hD hW hdp hg
  case refine_2=>
   have c0:=(HXA.out.below hg.1.keep.bel HXA.out.lt).cell
   with_reducible refine Ac ?_ ?_
   all_goals simp[Region.wanted,yielded,execOp,Act.eval,Act.put,go_sem,c0]
  case refine_4=>
   have c0:=(HXY.out.below hg.1.keep.bel HXY.out.lt).cell
   with_reducible refine Ac ?_ ?_
   all_goals simp[Region.wanted,yielded,execOp,Act.eval,Act.put,go_sem,c0]
  case refine_5=>
   (with_reducible refine Ab (w1:=w') (f := 156) (args:=#[.pointer (some ⟨b,0,none⟩),.agg #[.slice py ny cy]]) ?_ ?_ ?_)
   .simp[Region.wanted,yielded,Act.put,go_sem]
   .simp[Act.eval,Act.put,go_sem]
   .refine(cE (HG.out.below hg.1.keep.bel) (HY.out.below hg.1.keep.bel) (by omega)).mono ?_;rintro en w9 ⟨u,rfl,hu,hb⟩;rw[HZZ.out]at hu
    exact⟨u,rfl,KN.of hb hg.1.base,hu,hg.1.later hb,by simpa [upd]using hg.2.later hb⟩
  case refine_6=>
   have hxb:∃p n c,sp 4=.agg #[.slice p n c]/\Ag w' p n c (ZZ)/\ZZ<Ao (33):=(hdp 4 (mq (by kernel_rfl))).2
   (with_reducible refine Au hxb fun pb hxb1=>Au hxb1 fun nb hxb2=>Au hxb2 fun cb hxb3=>?_)
   have hb:=hxb3.1
   (with_reducible refine Ai (w1:=w'.alloc (.cells #[.slice pa na ca,.slice pb nb cb] 36)) (v:=.slice (some ⟨w'.heap.size,0,none⟩) 2 2) ?_ ?_ ?_)
   .simp only[Region.wanted]
   .simp[execOp,Act.eval,Act.put,go_sem,hb]
   .have hbl:Below w'.heap.size w' (w'.alloc (.cells #[.slice pa na ca,.slice pb nb cb] 36)):=Cf;exact⟨KN.of hbl hg.1.base,⟨w'.heap.size,(pa,na,ca),(pb,nb,cb),rfl,heap_alloc_new w' _,Ex ((HA.out.below hg.1.keep.bel).below hbl),hxb3.2.1.below hbl,HAb.out,hxb3.2.2⟩,hg.1.later hbl,by simpa [upd]using hg.2.later hbl⟩
  case refine_8=>
   have c0:=(HS9.out.below hg.1.keep.bel HS9.out.lt).cells.2
   with_reducible refine Ac ?_ ?_
   all_goals simp[Region.wanted,yielded,execOp,Act.eval,Act.put,go_sem,c0]
  case refine_10=>
   have c0:=(HS9.out.below hg.1.keep.bel HS9.out.lt).cells.1
   with_reducible refine Ac ?_ ?_
   all_goals simp[Region.wanted,yielded,execOp,Act.eval,Act.put,go_sem,c0]
  case refine_11=>
   (with_reducible refine Ai (w1:=w'.alloc (.cells #[.slice y.1 y.2.1 y.2.2,.slice x.1 x.2.1 x.2.2] 36)) (v:=.slice (some ⟨w'.heap.size,0,none⟩) 2 2) ?_ ?_ ?_)
   .simp only[Region.wanted]
   .simp[execOp,Act.eval,Act.put,go_sem]
   .have hbl:Below w'.heap.size w' (w'.alloc (.cells #[.slice y.1 y.2.1 y.2.2,.slice x.1 x.2.1 x.2.2] 36)):=Cf;exact⟨KN.of hbl hg.1.base,⟨w'.heap.size,y,x,rfl,heap_alloc_new w' _,(HSN.out.below hg.1.keep.bel).below hbl,(HCN.out.below hg.1.keep.bel).below hbl,HSL.out,HCL.out⟩,hg.1.later hbl,by simpa [upd]using hg.2.later hbl⟩
  case refine_12=>
   have hr:∃(g:Nat) (x y:Option Addr×Nat×Nat),sp 5=.slice (some ⟨g,0,none⟩) 2 2/\w'.heap[g]? = some (.cells #[.slice x.1 x.2.1 x.2.2,.slice y.1 y.2.1 y.2.2] 36 (0,0))/\Eb w' x A/\Eb w' y ZZ/\A<Ao 33/\ZZ<Ao 33:=(hdp 5 (mq (by kernel_rfl))).2
   (with_reducible refine Au hr fun ga ha1=>Au ha1 fun ua ha2=>Au ha2 fun ta ha3=>?_)
   have hr:∃(g:Nat) (x y:Option Addr×Nat×Nat),sp 10=.slice (some ⟨g,0,none⟩) 2 2/\w'.heap[g]? = some (.cells #[.slice x.1 x.2.1 x.2.2,.slice y.1 y.2.1 y.2.2] 36 (0,0))/\Eb w' x SS/\Eb w' y CC/\SS<Ao 33/\CC<Ao 33:=(hdp 10 (mq (by kernel_rfl))).2
   (with_reducible refine Au hr fun gb hb1=>Au hb1 fun ub hb2=>Au hb2 fun tb hb3=>?_)
   have ea:=ha3.1;have eb:=hb3.1
   (with_reducible refine Ab (w1:=w') (f := 155) (args:=#[.pointer (some ⟨b,0,none⟩),.slice (some ⟨ga,0,none⟩) 2 2,.slice (some ⟨gb,0,none⟩) 2 2]) ?_ ?_ ?_)
   .simp only[Region.wanted]
   .simp[Act.eval,Act.put,go_sem,ea,eb]
   .refine(Yu (HG.out.below hg.1.keep.bel) (Ux.plist ha3.2.1 ha3.2.2.1 ha3.2.2.2.1 ha3.2.2.2.2.1 ha3.2.2.2.2.2) (Ux.plist hb3.2.1 hb3.2.2.1 hb3.2.2.2.1 hb3.2.2.2.2.1 hb3.2.2.2.2.2) (by decide) (by decide) (by decide) (by decide)).mono ?_;rintro en w9 ⟨_,rfl,⟨p9,n9,c9,rfl,u1,u2⟩,hb⟩;rw[if_pos rfl,HAA.out]at u1 u2
    exact⟨_,rfl,KN.of hb hg.1.base,⟨p9,n9,c9,rfl,u1,u2⟩,hg.1.later hb,by simpa [upd]using hg.2.later hb⟩
  case refine_13=>
   have k11:Dw 33 AA (.int .i64 0) (sp 11) w':=(hdp 11 (mq (by kernel_rfl))).2
   (with_reducible refine Ai (w1:=w') (v:=sp 11) ?_ ?_ ?_)
   .simp[Region.wanted,yielded,Act.put,go_sem]
   .simp[execOp,Act.eval,Act.put,go_sem]
   .exact⟨KN.same _ _,k11,hg.1,by simpa [upd]using hg.2⟩
  case refine_14=>
   have hx:∃p n c,sp 12=.tuple #[.agg #[.slice p n c],.int .i64 0]/\Ag w' p n c (AA)/\AA<Ao (33):=(hdp 12 (mq (by kernel_rfl))).2
   (with_reducible refine Au hx fun p hx1=>Au hx1 fun n hx2=>Au hx2 fun c hx3=>?_)
   have h1:=hx3.1
   (with_reducible refine Ai (w1:=w') (v:=.agg #[.slice p n c]) ?_ ?_ ?_)
   .simp[Region.wanted,yielded,Act.put,go_sem]
   .simp[execOp,Act.eval,Act.put,go_sem,h1]
   .exact⟨KN.same _ _,⟨p,n,c,rfl,hx3.2⟩,hg.1,by simpa [upd]using hg.2⟩
  case refine_15=>
   have hx:∃p n c,sp 12=.tuple #[.agg #[.slice p n c],.int .i64 0]/\Ag w' p n c (AA)/\AA<Ao (33):=(hdp 12 (mq (by kernel_rfl))).2
   (with_reducible refine Au hx fun p hx1=>Au hx1 fun n hx2=>Au hx2 fun c hx3=>?_)
   have h1:=hx3.1
   with_reducible refine Ac ?_ ?_
   all_goals simp[Region.wanted,yielded,execOp,Act.eval,Act.put,go_sem,h1]
  case refine_16=>
   have h9:D 16=false:=hW 16 (mq (by kernel_rfl));rw[hD,h9]at hg
   (with_reducible refine Ai (w1:=w'.alloc (.cells #[.slice none 0 0] 36)) (v:=.pointer (some ⟨w'.heap.size,0,none⟩)) ?_ ?_ ?_)
   .simp[Region.wanted,yielded,Act.put,go_sem]
   .simp[execOp,go_sem]
   .have hb:Below w'.heap.size w' (w'.alloc (.cells #[.slice none 0 0] 36)):=Cf;refine⟨KN.of hb hg.1.base,trivial,hg.1.later hb,?_⟩;have h8:=hg.2.made;simpa [upd,h9]using h8
  case refine_17=>
   have hx:∃p n c,sp 13=.agg #[.slice p n c]/\Ag w' p n c (AA)/\AA<Ao (33):=(hdp 13 (mq (by kernel_rfl))).2
   (with_reducible refine Au hx fun p hx1=>Au hx1 fun n hx2=>Au hx2 fun c hx3=>?_)
   have h1:=hx3.1;have h9:D 15=true:=(hdp 15 (mq (by kernel_rfl))).1;rw[h9]at hg
   have hp:=hg.2.put (hx3.2.1)
   (with_reducible refine Au hp fun b hy0=>Au hy0 fun q hy1=>Au hy1 fun m hy2=>Au hy2 fun k hy3=>?_)
   have h3:=hy3.1;have h6:=hy3.2.2.1.cell;have h7:=hy3.2.2.1.free
   (with_reducible refine An (w1:=w'.setCell ⟨b,0,none⟩ (.slice p n c)) ?_ ?_ ?_)
   .simp[Region.wanted,yielded,Act.put,go_sem]
   .simp[execOp,Act.eval,Act.put,go_sem,h1,h3,h6,h7]
   .refine⟨KN.store hy3.2.2.1 (Ep (Av _) hy3.2.1) _,trivial,hg.1.store_over hy3.2.2.1 (Av _) hy3.2.1 (fun x hx=>by cases hx) _,?_⟩;have h8:=hy3.2.2.2;simpa [upd,h9]using h8
  all_goals ((with_reducible refine Ac ?_ ?_);all_goals first|(simp only[Region.wanted];done)|simp[Region.wanted,yielded,execOp,Act.eval,Act.put,go_sem])
 .intro sp w4 hsp hg;obtain⟨hg1,_,hmk⟩:=hg;obtain⟨b11,e11,hb11,pz,nz,cz,hxz,hnz⟩:=hmk rfl;replace hnz:=hnz rfl;have hbel:=hg1.keep.bel;have hz:=HZ0.out.below hbel HZ0.out.lt;have kx:=hxz.cell;have fz:=hz.free;have k8:=hz.cell;have kz:=(hz.set (.slice pz nz cz)).cell;have HN:=Aa (Fit.of (hnz.store hz (.slice pz nz cz)) HAAb.out);have HBf:Ad (Below w.heap.size w (w4.setCell ⟨w.heap.size+1+1+1,0,none⟩ (.slice pz nz cz))):=⟨(Af HB3.out hbel).setCell (show w.heap.size<=w.heap.size+1+1+1 by omega) _⟩
  clear hsp hg1 hmk hxz hnz hb11 hbel hz hwa;simp only[Am,Nat.reduceAdd];rw[e11];clear e11;generalize sp 4=y4,sp 5=y5,sp 10=y10,sp 11=y11,sp 12=y12,sp 13=y13,sp 16=y16 at *
  go_simp
  go_wp2;exact bodyPost_ret (v:=.agg #[.slice pz nz cz]) (by simp[results,Tryz.results103,go_sem,kz]) rfl ⟨_,rfl,HN.out,HBf.out⟩
end Go.Proofs.YthgoeiegdhphjaaGreatDoor
