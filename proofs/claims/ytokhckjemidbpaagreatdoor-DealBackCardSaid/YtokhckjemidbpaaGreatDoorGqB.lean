/- A group's product, its power, its members. -/
import Derived.Test.YtokhckjemidbpaaGreatDoorGqA
set_option maxRecDepth 1000000
set_option maxHeartbeats 16000000
set_option linter.all false
namespace Go.Proofs.YtokhckjemidbpaaGreatDoor
open Go Go.RowKit Go.Proofs.YtokhckjemidbpaaGreatDoor.Flow
theorem Uy {w:World}{e N:Nat}{v:Value}(h:Fit e N v w)(he:e<=900000) :
  Calls Tryz.prog 148 #[v] w fun en w'=>en=.returned (.bool (decide (N=1)))/\Below w.heap.size w w':=by
 obtain⟨p,n,c,rfl,h1,h2⟩:=h;have hb1:=Af.made w (.slice p n c);have hbel:Below w.heap.size w (w.alloc (.cells #[.slice p n c] 37)):=Bq;obtain⟨wa,hwa⟩:∃wa,w.alloc (.cells #[.slice p n c] 37)=wa:=⟨_,rfl⟩
 rw[hwa]at hb1 hbel
 have HF:=Ab ((Fit.of h1 h2).below hbel);have HBX:=Ab hb1;have HB:=Ab hbel;obtain⟨K,hK⟩:∃K,Bk N 1=K:=⟨_,rfl⟩
 have HK:=Ab hK;obtain⟨X,hX⟩:∃X,decide (N=1)=X:=⟨_,rfl⟩
 have hE:((K:Int)==0)=X:=by
  rw[<-hK,<-hX]
  by_cases hn:N=1
  .simp[hn,Bn.2]
  .have:Bk N 1≠0:=fun h0=>hn (Bn.1 h0)
   simp[hn,this]
 rw[hX];clear hK hX h1 h2 hb1 hbel;go_enter Tryz.func148,Tryz.ntmps148;go_wp2;refine Aj (by kernel_rfl) (by kernel_rfl)
  [some (.agg #[.slice p n c]),none,none,some (.bool X),some (.bool X)]
  [false,true,true,false,false] rfl
  (fun w1 w2=>Am (w.heap.size) w1 w2)
  (fun D sp w'=>RG (w.heap.size) wa [(w.heap.size,.cells #[.slice p n c] 37 (0,0))] w'/\True)
  (fun i v w'=>match i with
   | 1=>Fit 1 1 v w'
   | 2=>v=.int .i64 K
   | _=>True)
  ?_ ⟨RG.start HB.out.size (List.forall_mem_cons.2 ⟨HBX.out,fun x hx=>by cases hx⟩),trivial⟩ ?_ ?_
 .intro i v w1 w2 hf hb;split at hf
  .exact hf.keep hb
  .exact hf
  .trivial
 .simp only[Az,Nat.reduceAdd];refine⟨?_,?_,?_,?_,?_,trivial⟩
  all_goals intro D sp w' hD hW hdp hg
  case refine_1=>
   have c0:w'.cell? ⟨w.heap.size,0,none⟩=some (.slice p n c):=Af.cell (hg.1.of List.mem_cons_self)
   with_reducible refine Ad ?_ ?_
   all_goals simp[Region.wanted,yielded,execOp,Act.eval,Act.put,go_sem,c0]
  case refine_2=>
   (with_reducible refine Ac (w1:=w') (f := 17) (args:=#[.int .u64 1]) ?_ ?_ ?_)
   .simp[Region.wanted,yielded,Act.put,go_sem]
   .simp[Act.eval,Act.put,go_sem]
   .refine(Ed w').mono ?_;rintro en w9 ⟨u,rfl,hu,hb⟩;exact⟨u,rfl,Am.of hb hg.1.base,hu,hg.1.later hb,trivial⟩
  case refine_3=>
   have k1:Fit 1 1 (sp 1) w':=(hdp 1 (mq (by kernel_rfl))).2
   (with_reducible refine Ac (w1:=w') (f := 24) (args:=#[.agg #[.slice p n c],sp 1]) ?_ ?_ ?_)
   .simp[Region.wanted,yielded,Act.put,go_sem]
   .simp[Act.eval,Act.put,go_sem]
   .refine(Bc (HF.out.keep hg.1.keep) k1 he (by decide) HK.out).mono ?_;rintro en w9 ⟨u,rfl,rfl,hb⟩;exact⟨_,rfl,Am.of hb hg.1.base,rfl,hg.1.later hb,trivial⟩
  case refine_4=>
   have k2:(sp 2)=.int .i64 K:=(hdp 2 (mq (by kernel_rfl))).2
   with_reducible refine Ad ?_ ?_
   all_goals simp[Region.wanted,yielded,execOp,Act.eval,Act.put,go_sem,k2,hE]
  all_goals ((with_reducible refine Ad ?_ ?_);all_goals first|(simp only[Region.wanted];done)|simp[Region.wanted,yielded,execOp,Act.eval,Act.put,go_sem])
 .intro sp w7 hsp hg;have HB7:=Ab (HB.out.trans hg.1.keep.bel);clear hsp hg;simp only[Al,Nat.reduceAdd];generalize sp 1=y1,sp 2=y2 at *
  go_simp
  go_wp2;go_ret;exact⟨rfl,HB7.out⟩
theorem Se {w:World}{b P Q G H e1 e2 A E:Nat}{v u:Value}(h:Au w b P Q G H)(hv:Fit e1 A v w)(hu:Fit e2 E u w)(he1:e1<=30000)(he2:e2<=30000) :
  Calls Tryz.prog 124 #[.pointer (some ⟨b,0,none⟩),v,u] w fun e w'=>∃x,e=.returned x/\Fit 33 (A*E%P) x w'/\Below w.heap.size w w':=by
 obtain⟨pa,na,ca,rfl,h1,h2⟩:=Ao hv;obtain⟨pb,nb,cb,rfl,k1,k2⟩:=Ao hu;have hbx:=Xs.mk3 w (.slice pa na ca) (.slice pb nb cb) (.slice none 0 0);have hbl:=h.lt;obtain⟨wa,hwa⟩:∃wa,((w.alloc (.cells #[.slice pa na ca] 37)).alloc (.cells #[.slice pb nb cb] 37)).alloc (.cells #[.slice none 0 0] 37)=wa:=⟨_,rfl⟩
 rw[hwa]at hbx
 obtain⟨X,hX⟩:∃X,A*E%P=X:=⟨_,rfl⟩
 have HX:=Ab hX;have HLX:Aa (X<An 33):=⟨by rw[<-hX];exact Nat.lt_trans (Nat.mod_lt _ (by have:=h.lims.1;omega)) h.lims.2.1⟩
 rw[hX];obtain⟨rp,rq,pg,ng,cg,ph,nh,ch,g1,g2,_⟩:=h.ex;have HL:Aa (b<w.heap.size/\rp<w.heap.size):=⟨hbl,g2.at_.lt⟩
 have HG:=Ab ((hbx.bel.block b hbl).trans g1);have HR:=Ab (g2.below hbx.bel);have HA:=Ab ((Fit.of h1 h2).below hbx.bel);have HE:=Ab ((Fit.of k1 k2).below hbx.bel);have HB0:Aa (w.heap.size<=w.heap.size+1+1):=⟨by omega⟩
 have HNE:Aa (∀x∈[((w.heap.size,.cells #[.slice pa na ca] 37 (0,0)):Nat×Obj),(w.heap.size+1,.cells #[.slice pb nb cb] 37 (0,0))],x.1≠w.heap.size+1+1):=⟨List.forall_mem_cons.2 ⟨by simp only;omega,List.forall_mem_cons.2 ⟨by simp only;omega,fun x hx=>by cases hx⟩⟩⟩
 have HBX:=Ab hbx;clear hX g1 g2 h1 h2 k1 k2 hbx hbl h hv hu;go_enter Tryz.func124,Tryz.ntmps124;go_wp2;refine Aj (by kernel_rfl) (by kernel_rfl)
  [some (.pointer (some ⟨b,0,none⟩)),none,some (.pointer (some ⟨b,0,none⟩)),some (.pointer (some ⟨b,0,none⟩)),some (.pointer (some ⟨rp,0,none⟩)),some (.agg #[.slice pa na ca]),some (.agg #[.slice pb nb cb]),none,none]
  [false,true,false,false,false,false,false,true,true] rfl
  (fun w1 w2=>Am (w.heap.size) w1 w2)
  (fun D sp w'=>RG (w.heap.size) wa [(w.heap.size,.cells #[.slice pa na ca] 37 (0,0)),(w.heap.size+1,.cells #[.slice pb nb cb] 37 (0,0))] w'/\Xu (D 8) (w.heap.size+1+1) (X) w')
  (fun i v w'=>match i with
   | 1=>v=.pointer (some ⟨b,0,none⟩)
   | 7=>Fit 33 (X) v w'
   | _=>True)
  ?_ ⟨RG.start HBX.out.bel.size (List.forall_mem_cons.2 ⟨HBX.out.b0,List.forall_mem_cons.2 ⟨HBX.out.b1,fun x hx=>by cases hx⟩⟩),Xu.fresh HBX.out.b2⟩ ?_ ?_
 .intro i v w1 w2 hf hb;split at hf
  .exact hf
  .exact hf.keep hb
  .trivial
 .simp only[Az,Nat.reduceAdd];refine⟨?_,?_,?_,?_,?_,?_,?_,?_,?_,trivial⟩
  all_goals intro D sp w' hD hW hdp hg
  case refine_2=>
   (with_reducible refine Ac (w1:=w') (f := 81) (args:=#[.pointer (some ⟨b,0,none⟩)]) ?_ ?_ ?_)
   .simp[Region.wanted,yielded,Act.put,go_sem]
   .simp[Act.eval,Act.put,go_sem]
   .refine(Ep w' b).mono ?_;rintro en w9 ⟨rfl,rfl⟩;exact⟨_,rfl,Am.same _ _,rfl,hg.1,by simpa [upd]using hg.2⟩
  case refine_3=>
   have k1:(sp 1)=.pointer (some ⟨b,0,none⟩):=(hdp 1 (mq (by kernel_rfl))).2
   with_reducible refine Ad ?_ ?_
   all_goals simp[Region.wanted,yielded,execOp,Act.eval,Act.put,go_sem,k1]
  case refine_5=>
   have c0:=(Cy ((hg.1.keep.bel.block b HL.out.1).trans HG.out)).1
   with_reducible refine Ad ?_ ?_
   all_goals simp[Region.wanted,yielded,execOp,Act.eval,Act.put,go_sem,c0]
  case refine_6=>
   have c0:w'.cell? ⟨w.heap.size,0,none⟩=some (.slice pa na ca):=Af.cell (hg.1.of List.mem_cons_self)
   with_reducible refine Ad ?_ ?_
   all_goals simp[Region.wanted,yielded,execOp,Act.eval,Act.put,go_sem,c0]
  case refine_7=>
   have c0:w'.cell? ⟨w.heap.size+1,0,none⟩=some (.slice pb nb cb):=Af.cell (hg.1.of (List.mem_cons_of_mem _ List.mem_cons_self))
   with_reducible refine Ad ?_ ?_
   all_goals simp[Region.wanted,yielded,execOp,Act.eval,Act.put,go_sem,c0]
  case refine_8=>
   (with_reducible refine Ac (w1:=w') (f := 33) (args:=#[.pointer (some ⟨rp,0,none⟩),.agg #[.slice pa na ca],.agg #[.slice pb nb cb]]) ?_ ?_ ?_)
   .simp[Region.wanted,yielded,Act.put,go_sem]
   .simp[Act.eval,Act.put,go_sem]
   .refine(Dk (HR.out.keep HL.out.2 hg.1.keep) (HA.out.keep hg.1.keep) (HE.out.keep hg.1.keep) (by omega) (by omega)).mono ?_;rintro en w9 ⟨u,rfl,hu,hb⟩;rw[HX.out]at hu
    exact⟨u,rfl,Am.of hb hg.1.base,hu,hg.1.later hb,by simpa [upd]using hg.2.later hb⟩
  case refine_9=>
   have hx:∃p n c,sp 7=.agg #[.slice p n c]/\Ag w' p n c (X)/\X<An (33):=(hdp 7 (mq (by kernel_rfl))).2
   (with_reducible refine Aw hx fun p hx1=>Aw hx1 fun n hx2=>Aw hx2 fun c hx3=>?_)
   have h1:=hx3.1;have hp:=hg.2.put (hx3.2.1)
   (with_reducible refine Aw hp fun q hy1=>Aw hy1 fun m hy2=>Aw hy2 fun k hy3=>?_)
   have h6:=hy3.1.cell;have h7:=hy3.1.free
   (with_reducible refine Ap (w1:=w'.setCell ⟨w.heap.size+1+1,0,none⟩ (.slice p n c)) ?_ ?_ ?_)
   .simp[Region.wanted,yielded,Act.put,go_sem]
   .simp[execOp,Act.eval,Act.put,go_sem,h1,h6,h7]
   .refine⟨Am.store hy3.1 HB0.out _,trivial,hg.1.store hy3.1 HB0.out HNE.out _,?_⟩;have h8:=hy3.2;simpa [upd]using h8
  all_goals ((with_reducible refine Ad ?_ ?_);all_goals first|(simp only[Region.wanted];done)|simp[Region.wanted,yielded,execOp,Act.eval,Act.put,go_sem])
 .intro sp w7 hsp hg;obtain⟨hg1,pz,nz,cz,hz1,hz2⟩:=hg;have kz:=hz1.cell;have HZ:=Ab (hz2 rfl);have HB7:=Ab (HBX.out.bel.trans hg1.keep.bel);clear hsp hg1 hz1 hz2;simp only[Al,Nat.reduceAdd];generalize sp 1=y1,sp 7=y7,sp 8=y8 at *
  go_simp
  go_wp2;exact bodyPost_ret (v:=.agg #[.slice pz nz cz]) (by simp[results,Tryz.results124,go_sem,kz]) rfl ⟨_,rfl,Fit.of HZ.out HLX.out,HB7.out⟩
theorem Zz {w:World}{b P Q G H e1 e2 A E:Nat}{v u:Value}(h:Au w b P Q G H)(hv:Fit e1 A v w)(hu:Fit e2 E u w)(he1:e1<=30000)(he2:e2<=30000) :
  Calls Tryz.prog 25 #[.pointer (some ⟨b,0,none⟩),v,u] w fun e w'=>∃x,e=.returned x/\Fit 33 (A^E%P) x w'/\Below w.heap.size w w':=by
 obtain⟨pa,na,ca,rfl,h1,h2⟩:=Ao hv;obtain⟨pb,nb,cb,rfl,k1,k2⟩:=Ao hu;have hbx:=Xs.mk3 w (.slice pa na ca) (.slice pb nb cb) (.slice none 0 0);have hbl:=h.lt;obtain⟨wa,hwa⟩:∃wa,((w.alloc (.cells #[.slice pa na ca] 37)).alloc (.cells #[.slice pb nb cb] 37)).alloc (.cells #[.slice none 0 0] 37)=wa:=⟨_,rfl⟩
 rw[hwa]at hbx
 obtain⟨X,hX⟩:∃X,A^E%P=X:=⟨_,rfl⟩
 have HX:=Ab hX;have HLX:Aa (X<An 33):=⟨by rw[<-hX];exact Nat.lt_trans (Nat.mod_lt _ (by have:=h.lims.1;omega)) h.lims.2.1⟩
 rw[hX];obtain⟨rp,rq,pg,ng,cg,ph,nh,ch,g1,g2,_⟩:=h.ex;have HL:Aa (b<w.heap.size/\rp<w.heap.size):=⟨hbl,g2.at_.lt⟩
 have HG:=Ab ((hbx.bel.block b hbl).trans g1);have HR:=Ab (g2.below hbx.bel);have HA:=Ab ((Fit.of h1 h2).below hbx.bel);have HE:=Ab ((Fit.of k1 k2).below hbx.bel);have HB0:Aa (w.heap.size<=w.heap.size+1+1):=⟨by omega⟩
 have HNE:Aa (∀x∈[((w.heap.size,.cells #[.slice pa na ca] 37 (0,0)):Nat×Obj),(w.heap.size+1,.cells #[.slice pb nb cb] 37 (0,0))],x.1≠w.heap.size+1+1):=⟨List.forall_mem_cons.2 ⟨by simp only;omega,List.forall_mem_cons.2 ⟨by simp only;omega,fun x hx=>by cases hx⟩⟩⟩
 have HBX:=Ab hbx;clear hX g1 g2 h1 h2 k1 k2 hbx hbl h hv hu;go_enter Tryz.func25,Tryz.ntmps25;go_wp2;refine Aj (by kernel_rfl) (by kernel_rfl)
  [some (.pointer (some ⟨b,0,none⟩)),none,some (.pointer (some ⟨b,0,none⟩)),some (.pointer (some ⟨b,0,none⟩)),some (.pointer (some ⟨rp,0,none⟩)),some (.agg #[.slice pa na ca]),some (.agg #[.slice pb nb cb]),none,none]
  [false,true,false,false,false,false,false,true,true] rfl
  (fun w1 w2=>Am (w.heap.size) w1 w2)
  (fun D sp w'=>RG (w.heap.size) wa [(w.heap.size,.cells #[.slice pa na ca] 37 (0,0)),(w.heap.size+1,.cells #[.slice pb nb cb] 37 (0,0))] w'/\Xu (D 8) (w.heap.size+1+1) (X) w')
  (fun i v w'=>match i with
   | 1=>v=.pointer (some ⟨b,0,none⟩)
   | 7=>Fit 33 (X) v w'
   | _=>True)
  ?_ ⟨RG.start HBX.out.bel.size (List.forall_mem_cons.2 ⟨HBX.out.b0,List.forall_mem_cons.2 ⟨HBX.out.b1,fun x hx=>by cases hx⟩⟩),Xu.fresh HBX.out.b2⟩ ?_ ?_
 .intro i v w1 w2 hf hb;split at hf
  .exact hf
  .exact hf.keep hb
  .trivial
 .simp only[Az,Nat.reduceAdd];refine⟨?_,?_,?_,?_,?_,?_,?_,?_,?_,trivial⟩
  all_goals intro D sp w' hD hW hdp hg
  case refine_2=>
   (with_reducible refine Ac (w1:=w') (f := 81) (args:=#[.pointer (some ⟨b,0,none⟩)]) ?_ ?_ ?_)
   .simp[Region.wanted,yielded,Act.put,go_sem]
   .simp[Act.eval,Act.put,go_sem]
   .refine(Ep w' b).mono ?_;rintro en w9 ⟨rfl,rfl⟩;exact⟨_,rfl,Am.same _ _,rfl,hg.1,by simpa [upd]using hg.2⟩
  case refine_3=>
   have k1:(sp 1)=.pointer (some ⟨b,0,none⟩):=(hdp 1 (mq (by kernel_rfl))).2
   with_reducible refine Ad ?_ ?_
   all_goals simp[Region.wanted,yielded,execOp,Act.eval,Act.put,go_sem,k1]
  case refine_5=>
   have c0:=(Cy ((hg.1.keep.bel.block b HL.out.1).trans HG.out)).1
   with_reducible refine Ad ?_ ?_
   all_goals simp[Region.wanted,yielded,execOp,Act.eval,Act.put,go_sem,c0]
  case refine_6=>
   have c0:w'.cell? ⟨w.heap.size,0,none⟩=some (.slice pa na ca):=Af.cell (hg.1.of List.mem_cons_self)
   with_reducible refine Ad ?_ ?_
   all_goals simp[Region.wanted,yielded,execOp,Act.eval,Act.put,go_sem,c0]
  case refine_7=>
   have c0:w'.cell? ⟨w.heap.size+1,0,none⟩=some (.slice pb nb cb):=Af.cell (hg.1.of (List.mem_cons_of_mem _ List.mem_cons_self))
   with_reducible refine Ad ?_ ?_
   all_goals simp[Region.wanted,yielded,execOp,Act.eval,Act.put,go_sem,c0]
  case refine_8=>
   (with_reducible refine Ac (w1:=w') (f := 82) (args:=#[.pointer (some ⟨rp,0,none⟩),.agg #[.slice pa na ca],.agg #[.slice pb nb cb]]) ?_ ?_ ?_)
   .simp[Region.wanted,yielded,Act.put,go_sem]
   .simp[Act.eval,Act.put,go_sem]
   .refine(Ib (HR.out.keep HL.out.2 hg.1.keep) (HA.out.keep hg.1.keep) (HE.out.keep hg.1.keep) (by omega) (by omega)).mono ?_;rintro en w9 ⟨u,rfl,hu,hb⟩;rw[HX.out]at hu
    exact⟨u,rfl,Am.of hb hg.1.base,hu,hg.1.later hb,by simpa [upd]using hg.2.later hb⟩
  case refine_9=>
   have hx:∃p n c,sp 7=.agg #[.slice p n c]/\Ag w' p n c (X)/\X<An (33):=(hdp 7 (mq (by kernel_rfl))).2
   (with_reducible refine Aw hx fun p hx1=>Aw hx1 fun n hx2=>Aw hx2 fun c hx3=>?_)
   have h1:=hx3.1;have hp:=hg.2.put (hx3.2.1)
   (with_reducible refine Aw hp fun q hy1=>Aw hy1 fun m hy2=>Aw hy2 fun k hy3=>?_)
   have h6:=hy3.1.cell;have h7:=hy3.1.free
   (with_reducible refine Ap (w1:=w'.setCell ⟨w.heap.size+1+1,0,none⟩ (.slice p n c)) ?_ ?_ ?_)
   .simp[Region.wanted,yielded,Act.put,go_sem]
   .simp[execOp,Act.eval,Act.put,go_sem,h1,h6,h7]
   .refine⟨Am.store hy3.1 HB0.out _,trivial,hg.1.store hy3.1 HB0.out HNE.out _,?_⟩;have h8:=hy3.2;simpa [upd]using h8
  all_goals ((with_reducible refine Ad ?_ ?_);all_goals first|(simp only[Region.wanted];done)|simp[Region.wanted,yielded,execOp,Act.eval,Act.put,go_sem])
 .intro sp w7 hsp hg;obtain⟨hg1,pz,nz,cz,hz1,hz2⟩:=hg;have kz:=hz1.cell;have HZ:=Ab (hz2 rfl);have HB7:=Ab (HBX.out.bel.trans hg1.keep.bel);clear hsp hg1 hz1 hz2;simp only[Al,Nat.reduceAdd];generalize sp 1=y1,sp 7=y7,sp 8=y8 at *
  go_simp
  go_wp2;exact bodyPost_ret (v:=.agg #[.slice pz nz cz]) (by simp[results,Tryz.results25,go_sem,kz]) rfl ⟨_,rfl,Fit.of HZ.out HLX.out,HB7.out⟩
theorem Zy {w:World}{b P Q G H e1 A:Nat}{v:Value}(h:Au w b P Q G H)(hv:Fit e1 A v w)(he1:e1<=30000) :
  Calls Tryz.prog 85 #[.pointer (some ⟨b,0,none⟩),v] w fun e w'=>e=.returned (.bool (decide (0<A/\A<P/\A^Q%P=1)))/\Below w.heap.size w w':=by
 obtain⟨pa,na,ca,rfl,h1,h2⟩:=Ao hv;have hb1:=Af.made w (.slice pa na ca);have hbel:Below w.heap.size w (w.alloc (.cells #[.slice pa na ca] 37)):=Bq;obtain⟨wa,hwa⟩:∃wa,w.alloc (.cells #[.slice pa na ca] 37)=wa:=⟨_,rfl⟩
 rw[hwa]at hb1 hbel
 have HA:=Ab ((Fit.of h1 h2).below hbel);have HBX:=Ab hb1;have HB:=Ab hbel;have HG:=Ab (Nz.of h (Av _) hbel);obtain⟨rp,rq,pg,ng,cg,ph,nh,ch,g1,g2,g3,_⟩:=h.ex;have HL:Aa (b<w.heap.size/\rp<w.heap.size/\rq<w.heap.size):=⟨h.lt,g2.at_.lt,g3.at_.lt⟩
 have HGB:=Ab ((hbel.block b h.lt).trans g1);have HRQ:=Ab (g3.below hbel);have hq2:=h.lims.2.2.1;obtain⟨K,hK0⟩:∃K,Bk A P=K:=⟨_,rfl⟩
 have HK:=Ab hK0;obtain⟨ANS,hANS⟩:∃X,decide (0<A/\A<P/\A^Q%P=1)=X:=⟨_,rfl⟩
 obtain⟨X,hX⟩:∃X,decide (A^Q%P=1)=X:=⟨_,rfl⟩
 have HX:=Ab hX;rw[hANS]
 by_cases hl:A<P
 .have HANS:Aa (ANS=X):=⟨by
   rw[<-hANS,<-hX];refine decide_eq_decide.2 ⟨fun h=>h.2.2,fun h=>⟨?_,hl,h⟩⟩;rcases Nat.eq_zero_or_pos A with rfl|h0
   .rw[Nat.zero_pow (by omega),Nat.zero_mod]at h;omega
   .exact h0⟩
  have hK:decide (K<0)=true:=decide_eq_true (by rw[<-hK0,Dt hl];decide);clear hl hANS hX hK0 hq2 g1 g2 g3 h1 h2 hb1 hbel h hv;go_enter Tryz.func85,Tryz.ntmps85;go_wp2;refine Aj (by kernel_rfl) (by kernel_rfl)
   [some (.agg #[.slice pa na ca]),some (.pointer (some ⟨b,0,none⟩)),none,none,some (.bool true),some (.bool true),some (.pointer (some ⟨b,0,none⟩)),some (.agg #[.slice pa na ca]),some (.pointer (some ⟨b,0,none⟩)),none,some (.pointer (some ⟨b,0,none⟩)),some (.pointer (some ⟨b,1,none⟩)),some (.pointer (some ⟨rq,0,none⟩)),none,none,none,some (.bool X),some (.bool X)]
   [false,false,true,true,false,false,false,false,false,true,false,false,false,true,true,true,false,false] rfl
   (fun w1 w2=>Am (w.heap.size) w1 w2)
   (fun D sp w'=>RG (w.heap.size) wa [(w.heap.size,.cells #[.slice pa na ca] 37 (0,0))] w'/\True)
   (fun i v w'=>match i with
    | 2=>Fit 33 P v w'
    | 3=>v=.int .i64 K
    | 9=>v=.pointer (some ⟨b,0,none⟩)
    | 13=>Fit 33 Q v w'
    | 14=>Fit 33 (A^Q%P) v w'
    | 15=>v=.bool X
    | _=>True)
   ?_ ⟨RG.start HB.out.size (List.forall_mem_cons.2 ⟨HBX.out,fun x hx=>by cases hx⟩),trivial⟩ ?_ ?_
  .intro i v w1 w2 hf hb;split at hf
   .exact hf.keep hb
   .exact hf
   .exact hf
   .exact hf.keep hb
   .exact hf.keep hb
   .exact hf
   .trivial
  .simp only[Az,Nat.reduceAdd];refine⟨?_,?_,?_,?_,?_,?_,?_,?_,?_,?_,?_,?_,?_,?_,?_,?_,?_,?_,trivial⟩
   all_goals intro D sp w' hD hW hdp hg
   case refine_1|refine_8=>
    have c0:w'.cell? ⟨w.heap.size,0,none⟩=some (.slice pa na ca):=Af.cell (hg.1.of List.mem_cons_self)
    with_reducible refine Ad ?_ ?_
    all_goals simp[Region.wanted,yielded,execOp,Act.eval,Act.put,go_sem,c0]
   case refine_3=>
    (with_reducible refine Ac (w1:=w') (f := 64) (args:=#[.pointer (some ⟨b,0,none⟩)]) ?_ ?_ ?_)
    .simp[Region.wanted,yielded,Act.put,go_sem]
    .simp[Act.eval,Act.put,go_sem]
    .refine(kX (HG.out.keep hg.1.keep)).mono ?_;rintro en w9 ⟨u,rfl,hu,hb⟩;exact⟨u,rfl,Am.of hb hg.1.base,hu,hg.1.later hb,trivial⟩
   case refine_4=>
    have k2:Fit 33 P (sp 2) w':=(hdp 2 (mq (by kernel_rfl))).2
    (with_reducible refine Ac (w1:=w') (f := 24) (args:=#[.agg #[.slice pa na ca],sp 2]) ?_ ?_ ?_)
    .simp[Region.wanted,yielded,Act.put,go_sem]
    .simp[Act.eval,Act.put,go_sem]
    .refine(Bc (HA.out.keep hg.1.keep) k2 (by omega) (by decide) HK.out).mono ?_;rintro en w9 ⟨u,rfl,rfl,hb⟩;exact⟨_,rfl,Am.of hb hg.1.base,rfl,hg.1.later hb,trivial⟩
   case refine_5=>
    have k3:(sp 3)=.int .i64 K:=(hdp 3 (mq (by kernel_rfl))).2
    with_reducible refine Ad ?_ ?_
    all_goals simp[Region.wanted,yielded,execOp,Act.eval,Act.put,go_sem,k3,hK]
   case refine_10=>
    (with_reducible refine Ac (w1:=w') (f := 81) (args:=#[.pointer (some ⟨b,0,none⟩)]) ?_ ?_ ?_)
    .simp[Region.wanted,yielded,Act.put,go_sem]
    .simp[Act.eval,Act.put,go_sem]
    .refine(Ep w' b).mono ?_;rintro en w9 ⟨rfl,rfl⟩;exact⟨_,rfl,Am.same _ _,rfl,hg.1,trivial⟩
   case refine_11=>
    have k9:(sp 9)=.pointer (some ⟨b,0,none⟩):=(hdp 9 (mq (by kernel_rfl))).2
    with_reducible refine Ad ?_ ?_
    all_goals simp[Region.wanted,yielded,execOp,Act.eval,Act.put,go_sem,k9]
   case refine_13=>
    have c0:=(Cy ((hg.1.keep.bel.block b HL.out.1).trans HGB.out)).2.1
    with_reducible refine Ad ?_ ?_
    all_goals simp[Region.wanted,yielded,execOp,Act.eval,Act.put,go_sem,c0]
   case refine_14=>
    (with_reducible refine Ac (w1:=w') (f := 57) (args:=#[.pointer (some ⟨rq,0,none⟩)]) ?_ ?_ ?_)
    .simp[Region.wanted,yielded,Act.put,go_sem]
    .simp[Act.eval,Act.put,go_sem]
    .refine(Ew (HRQ.out.keep HL.out.2.2 hg.1.keep)).mono ?_;rintro en w9 ⟨u,rfl,hu,hb⟩;exact⟨u,rfl,Am.of hb hg.1.base,hu,hg.1.later hb,trivial⟩
   case refine_15=>
    have k13:Fit 33 Q (sp 13) w':=(hdp 13 (mq (by kernel_rfl))).2
    (with_reducible refine Ac (w1:=w') (f := 25) (args:=#[.pointer (some ⟨b,0,none⟩),.agg #[.slice pa na ca],sp 13]) ?_ ?_ ?_)
    .simp[Region.wanted,yielded,Act.put,go_sem]
    .simp[Act.eval,Act.put,go_sem]
    .refine(Zz (HG.out.keep hg.1.keep) (HA.out.keep hg.1.keep) k13 (by omega) (by decide)).mono ?_;rintro en w9 ⟨u,rfl,hu,hb⟩;exact⟨u,rfl,Am.of hb hg.1.base,hu,hg.1.later hb,trivial⟩
   case refine_16=>
    have k14:Fit 33 (A^Q%P) (sp 14) w':=(hdp 14 (mq (by kernel_rfl))).2
    (with_reducible refine Ac (w1:=w') (f := 148) (args:=#[sp 14]) ?_ ?_ ?_)
    .simp[Region.wanted,yielded,Act.put,go_sem]
    .simp[Act.eval,Act.put,go_sem]
    .refine(Uy k14 (by decide)).mono ?_;rintro en w9 ⟨rfl,hb⟩;rw[HX.out];exact⟨_,rfl,Am.of hb hg.1.base,rfl,hg.1.later hb,trivial⟩
   case refine_17=>
    have k15:(sp 15)=.bool X:=(hdp 15 (mq (by kernel_rfl))).2
    with_reducible refine Ad ?_ ?_
    all_goals simp[Region.wanted,yielded,execOp,Act.eval,Act.put,go_sem,k15]
   all_goals ((with_reducible refine Ad ?_ ?_);all_goals first|(simp only[Region.wanted];done)|simp[Region.wanted,yielded,execOp,Act.eval,Act.put,go_sem])
  .intro sp w7 hsp hg;have HB7:=Ab (HB.out.trans hg.1.keep.bel);clear hsp hg hK;simp only[Al,Nat.reduceAdd];generalize sp 2=y2,sp 3=y3,sp 9=y9,sp 13=y13,sp 14=y14,sp 15=y15 at *
   go_simp
   go_wp2;go_ret;exact⟨by rw[HANS.out];rfl,HB7.out⟩
 .have HANS:Aa (ANS=false):=⟨by
   rw[<-hANS];exact decide_eq_false fun h=>hl h.2.1⟩
  have hK:decide (K<0)=false:=decide_eq_false (by
   rw[<-hK0];rcases Nat.eq_or_lt_of_le (Nat.le_of_not_lt hl) with h|h
   .rw[h,Ik];decide
   .have:=Il.2 h;omega)
  clear hl hANS hX HX hK0 hq2 g1 g2 g3 h1 h2 hb1 hbel h hv;go_enter Tryz.func85,Tryz.ntmps85;go_wp2;refine Aj (by kernel_rfl) (by kernel_rfl)
   [some (.agg #[.slice pa na ca]),some (.pointer (some ⟨b,0,none⟩)),none,none,some (.bool false),some (.bool false),some (undef),some (undef),some (undef),some (undef),some (undef),some (undef),some (undef),some (undef),some (undef),some (undef),some (.bool false),some (.bool false)]
   [false,false,true,true,false,false,false,false,false,false,false,false,false,false,false,false,false,false] rfl
   (fun w1 w2=>Am (w.heap.size) w1 w2)
   (fun D sp w'=>RG (w.heap.size) wa [(w.heap.size,.cells #[.slice pa na ca] 37 (0,0))] w'/\True)
   (fun i v w'=>match i with
    | 2=>Fit 33 P v w'
    | 3=>v=.int .i64 K
    | _=>True)
   ?_ ⟨RG.start HB.out.size (List.forall_mem_cons.2 ⟨HBX.out,fun x hx=>by cases hx⟩),trivial⟩ ?_ ?_
  .intro i v w1 w2 hf hb;split at hf
   .exact hf.keep hb
   .exact hf
   .trivial
  .simp only[Az,Nat.reduceAdd];refine⟨?_,?_,?_,?_,?_,?_,?_,?_,?_,?_,?_,?_,?_,?_,?_,?_,?_,?_,trivial⟩
   all_goals intro D sp w' hD hW hdp hg
   case refine_1=>
    have c0:w'.cell? ⟨w.heap.size,0,none⟩=some (.slice pa na ca):=Af.cell (hg.1.of List.mem_cons_self)
    with_reducible refine Ad ?_ ?_
    all_goals simp[Region.wanted,yielded,execOp,Act.eval,Act.put,go_sem,c0]
   case refine_3=>
    (with_reducible refine Ac (w1:=w') (f := 64) (args:=#[.pointer (some ⟨b,0,none⟩)]) ?_ ?_ ?_)
    .simp[Region.wanted,yielded,Act.put,go_sem]
    .simp[Act.eval,Act.put,go_sem]
    .refine(kX (HG.out.keep hg.1.keep)).mono ?_;rintro en w9 ⟨u,rfl,hu,hb⟩;exact⟨u,rfl,Am.of hb hg.1.base,hu,hg.1.later hb,trivial⟩
   case refine_4=>
    have k2:Fit 33 P (sp 2) w':=(hdp 2 (mq (by kernel_rfl))).2
    (with_reducible refine Ac (w1:=w') (f := 24) (args:=#[.agg #[.slice pa na ca],sp 2]) ?_ ?_ ?_)
    .simp[Region.wanted,yielded,Act.put,go_sem]
    .simp[Act.eval,Act.put,go_sem]
    .refine(Bc (HA.out.keep hg.1.keep) k2 (by omega) (by decide) HK.out).mono ?_;rintro en w9 ⟨u,rfl,rfl,hb⟩;exact⟨_,rfl,Am.of hb hg.1.base,rfl,hg.1.later hb,trivial⟩
   case refine_5=>
    have k3:(sp 3)=.int .i64 K:=(hdp 3 (mq (by kernel_rfl))).2
    with_reducible refine Ad ?_ ?_
    all_goals simp[Region.wanted,yielded,execOp,Act.eval,Act.put,go_sem,k3,hK]
   case refine_7|refine_8|refine_9|refine_10|refine_11|refine_12|refine_13|refine_14|refine_15|refine_16=>
    (with_reducible refine Ex ?_ ?_)
    ·(simp[Region.wanted,yielded,Act.put,go_sem]<;>exact fun h=>by cases h)
    .exact⟨rfl,rfl⟩
   all_goals ((with_reducible refine Ad ?_ ?_);all_goals first|(simp only[Region.wanted];done)|simp[Region.wanted,yielded,execOp,Act.eval,Act.put,go_sem])
  .intro sp w7 hsp hg;have HB7:=Ab (HB.out.trans hg.1.keep.bel);clear hsp hg hK;simp only[Al,Nat.reduceAdd];generalize sp 2=y2,sp 3=y3 at *
   go_simp
   go_wp2;go_ret;exact⟨by rw[HANS.out];rfl,HB7.out⟩
end Go.Proofs.YtokhckjemidbpaaGreatDoor
