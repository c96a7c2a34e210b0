/- The document's proof of a claim (ref12.Prove). -/
import Derived.Test.YthgoeiegdhphjaaGreatDoorDlVrf
set_option maxRecDepth 1000000
set_option maxHeartbeats 16000000
set_option linter.all false
namespace Go.Proofs.YthgoeiegdhphjaaGreatDoor
open Go Go.RowKit Go.Proofs.YthgoeiegdhphjaaGreatDoor.Flow
theorem Bh.partb {lo n:Nat}{bs:List Nat}{v:Value}{w:World}(h:Bh lo bs v w)(h8:Ay bs)(hn:bs.length=n):Fn n bs v w:=by
 subst hn;exact h.elim fun p c hv hr _ hz=>⟨p,c,hv,⟨hr,h8⟩,hz⟩
theorem Df.kt {T:TypeId}{B P Q G H:Nat}{v:Value}{w w':World}(h:Df P Q G H v w)(k:KT T B w w'):Df P Q G H v w':=by
 obtain⟨p0,n0,c0,p1,n1,c1,p2,n2,c2,p3,n3,c3,e,h0,h1,h2,h3⟩:=h.ex;exact⟨⟨p0,n0,c0,p1,n1,c1,p2,n2,c2,p3,n3,c3,e,En.kt h0 k,En.kt h1 k,En.kt h2 k,En.kt h3 k⟩⟩
theorem Bl.kt {T:TypeId}{B g:Nat}{bs:List Nat}{w w':World}(h:Bl w g 5 .u8 bs)(k:KT T B w w')(hT : 5 ≠ T):Bl w' g 5 .u8 bs:=k.blk _ _ _ _ h (.inl hT)
theorem Gt.kt {B n:Nat}{bs:List Nat}{v:Value}{w w':World}(h:Gt n bs v w)(k:KT 87 B w w'):Gt n bs v w' :=
 let ⟨g,h1,h2⟩:=h
 ⟨g,h1,h2.kt k (by decide)⟩
theorem Yj {w:World}{v u t s:Value}{P Q G H A B X nm cm:Nat}{pm:Option Addr}{msg:List Nat}(h:Df P Q G H v w)(ha:Ao A u w)(hb:Ao B t w)(hx:Ao X s w)(lA:A<P)(lB:B<P)(hX:X<Q)(hQ:2<=Q)(hPs:Ak P<=16)(hQs:Ak Q<=16)(hm:Aq w ⟨pm,nm,cm,msg⟩)(hz:pm=none->cm=0)(hn:nm<=900) :
  Calls Tryz.prog 57 #[v,u,t,s,.slice pm nm cm] w fun e w'=>∃c x,e=.returned (.tuple #[c,x])/\Uv A B (A^X%P) (B^X%P) c w'/\Bh 0 (cA P Q A B X msg) x w'/\Below w.heap.size w w':=by
 obtain⟨p0,n0,c0,p1,n1,c1,p2,n2,c2,p3,n3,c3,rfl,h0,h1,h2,h3⟩:=h.ex;obtain⟨pa,na,ca,rfl,ha0⟩:=ha;obtain⟨pb,nb,cb,rfl,hb0⟩:=hb;obtain⟨px,nx,cx,rfl,hx0⟩:=hx;have hb1:Below w.heap.size w (w.alloc (.cells #[.slice p0 n0 c0,.slice p1 n1 c1,.slice p2 n2 c2,.slice p3 n3 c3] 30)):=Bw;have hbo:=Cp.made 30 w (.slice p0 n0 c0) (.slice p1 n1 c1) (.slice p2 n2 c2) (.slice p3 n3 c3);have hz1:(w.alloc (.cells #[.slice p0 n0 c0,.slice p1 n1 c1,.slice p2 n2 c2,.slice p3 n3 c3] 30)).heap.size=w.heap.size+1:=by simp
 obtain⟨wb,hwb⟩:∃wa,w.alloc (.cells #[.slice p0 n0 c0,.slice p1 n1 c1,.slice p2 n2 c2,.slice p3 n3 c3] 30)=wa:=⟨_,rfl⟩
 rw[hwb]at hb1 hbo hz1
 have hb2:Below wb.heap.size wb (wb.alloc (.cells #[.slice none 0 0,.slice none 0 0,.slice none 0 0,.slice none 0 0] 87)):=Bw;have hz0:(wb.alloc (.cells #[.slice none 0 0,.slice none 0 0,.slice none 0 0,.slice none 0 0] 87)).heap[wb.heap.size]? = some (z4 87):=heap_alloc_new wb _;obtain⟨wa,hwa⟩:∃W,wb.alloc (.cells #[.slice none 0 0,.slice none 0 0,.slice none 0 0,.slice none 0 0] 87)=W:=⟨_,rfl⟩
 rw[hwa]at hb2 hz0
 rw[hz1]at hz0
 have hbx:=Ae hb1 hb2;have hbo2:=hbo.below hb2 hbo.lt;have HBX:Aa (Cp 30 wa w.heap.size (.slice p0 n0 c0) (.slice p1 n1 c1) (.slice p2 n2 c2) (.slice p3 n3 c3)):=⟨hbo2⟩
 have HZ0:=Ab hz0;have HB:=Ab hbx;have HA0:Aa (Nj wa (pa,na,ca) A):=⟨Bj.below ha0 hbx⟩
 have HB0:Aa (Nj wa (pb,nb,cb) B):=⟨Bj.below hb0 hbx⟩
 have HA:=Ab (Ao.of (ha0.below hbx));have HBB:=Ab (Ao.of (hb0.below hbx));have HX:=Ab (Ao.of (hx0.below hbx));have HV:Aa (Df P Q G H (.agg #[.slice p0 n0 c0,.slice p1 n1 c1,.slice p2 n2 c2,.slice p3 n3 c3]) wa):=⟨⟨p0,n0,c0,p1,n1,c1,p2,n2,c2,p3,n3,c3,rfl,h0.below hbx,h1.below hbx,h2.below hbx,h3.below hbx⟩⟩
 have HM:=Ab (hm.below hbx);have HZM:=Ab hz;have HNM:Aa (nm<=1000):=⟨by omega⟩
 have HQB:=Ab (Ao.of (h1.below hbx));have HPf:=Ab hPs;have HQf:=Ab hQs;have HPl:Aa (Ap P<=100000):=⟨Qb hPs⟩
 have HQl:Aa (Ap Q<=100000):=⟨Qb hQs⟩
 have HQl2:Aa (Ap Q<=900000):=⟨by have:=HQl.out;omega⟩
 have HQ0:Aa (0<Q):=⟨by omega⟩
 have HP0:Aa (0<P):=⟨by omega⟩
 have HAl:=Ab lA;have HBl:=Ab lB;have HAb:Aa (Ap A<=100000):=⟨Dr lA hPs⟩
 have HBb:Aa (Ap B<=100000):=⟨Dr lB hPs⟩
 have HXb:Aa (Ap X<=100000):=⟨Dr hX hQs⟩
 have HXB8:Aa (X<B8 (Ak Q)):=⟨Nat.lt_trans hX (Eu Q)⟩
 have HQk2:Aa (Ak Q<=1000):=⟨by omega⟩
 have HWp:Aa (0<Ak Q):=⟨Nat.pos_of_ne_zero fun h=>by
  have h3:=Eu Q;rw[h]at h3
  have h5:Q<1:=h3;omega⟩
 obtain⟨Y,hY⟩:∃ZZ,A^X%P=ZZ:=⟨_,rfl⟩
 obtain⟨Z,hZ⟩:∃ZZ,B^X%P=ZZ:=⟨_,rfl⟩
 have HYE:=Ab hY;have HZE:=Ab hZ;have HYl:Aa (Y<P):=⟨by rw[<-hY];exact Nat.mod_lt _ HP0.out⟩
 have HZl:Aa (Z<P):=⟨by rw[<-hZ];exact Nat.mod_lt _ HP0.out⟩
 obtain⟨SB,hSB⟩:∃S,cA P Q A B X msg=S:=⟨_,rfl⟩
 have HSB0:=Ab hSB;have HMG8:Aa (Ay (Hu P A B msg)):=⟨Rj P A B hm.bytes⟩
 have hlen:=Pe P A B msg;have hml:nm=msg.length:=hm.row.len;obtain⟨szp,hszp⟩:∃s,Ak P=s:=⟨_,rfl⟩
 obtain⟨szq,hszq⟩:∃s,Ak Q=s:=⟨_,rfl⟩
 have HSP:=Ab hszp;have HSQ:=Ab hszq;have HPf2:Aa (szp<=16):=⟨by omega⟩
 have HQk:Aa (szq<=1000):=⟨by omega⟩
 have hlp:=Eu P;rw[hszp]at hlp hlen
 have HAB8:Aa (A<B8 szp):=⟨by omega⟩
 have HBB8:Aa (B<B8 szp):=⟨by omega⟩
 have hmm:[Kz,As A szp,As B szp,msg].flatten=Hu P A B msg:=by subst hszp;unfold Hu;simp
 obtain⟨MG,hMG⟩:∃M,Hu P A B msg=M:=⟨_,rfl⟩
 rw[hMG]at hlen HMG8 hmm
 have HMGE:=Ab hMG;have HMG:=Ab hmm;obtain⟨LL,hLL⟩:∃L,MG.length=L:=⟨_,rfl⟩
 have HLL:=Ab hLL;have HLb:Aa (LL<=1000000):=⟨by omega⟩
 have HLk:Aa (LL<=1000):=⟨by omega⟩
 obtain⟨EE,hEE⟩:∃E,(Ey (As X szq) MG ((64+31)/32)).take 64=E:=⟨_,rfl⟩
 have HEE:=Ab hEE;have HE8:Aa (Ay EE):=⟨fun y hy=>by rw[<-hEE]at hy;exact Kx _ _ _ y (List.mem_of_mem_take hy)⟩
 have HEL:Aa (EE.length=64):=⟨by rw[<-hEE,List.length_take,Eg];decide⟩
 obtain⟨DN,hDD⟩:∃ZZ,be EE=ZZ:=⟨_,rfl⟩
 have HDD:=Ab hDD;have HDl:Aa (Ap DN<=900000):=⟨by
  have hx:=HE8.out.reverse.lt;rw[List.length_reverse,HEL.out]at hx
  have h3:DN<B8 64:=by rw[<-hDD];exact hx
  have h4:=Hv.2 h3;unfold Ak at h4;omega⟩
 obtain⟨ZK,hZK⟩:∃ZZ,DN%Q=ZZ:=⟨_,rfl⟩
 have HZK:=Ab hZK;have HKS:Aa (Rt Q X MG=if ZK=0 then 1 else ZK):=⟨by
  unfold Rt fP;rw[hszq,hEE,hDD,hZK]⟩
 have HZq:Aa (ZK<Q):=⟨by rw[<-hZK];exact Nat.mod_lt _ HQ0.out⟩
 rw[hSB,hY,hZ];clear hY hZ hSB hlen hml hszp hszq hlp hmm hMG hLL hEE hDD hZK h ha0 hb0 hx0 h0 h1 h2 h3 hb1 hb2 hbo hbo2 hz0 hbx lA lB hX hQ hPs hQs hm hz hn;go_enter Tryz.func57,Tryz.ntmps57;go_wp2;clear hwa hwb hz1;refine Al (by kernel_rfl) (by kernel_rfl)
  [some (.slice pa na ca),some (.slice pb nb cb),some (.agg #[.slice p0 n0 c0,.slice p1 n1 c1,.slice p2 n2 c2,.slice p3 n3 c3]),some (.slice pa na ca),some (.slice px nx cx),none,some (.agg #[.slice p0 n0 c0,.slice p1 n1 c1,.slice p2 n2 c2,.slice p3 n3 c3]),some (.slice pb nb cb),some (.slice px nx cx),none,none,none,none]
  [false,false,false,false,false,true,false,false,false,true,true,true,true] rfl
  (fun wA wB=>KT 87 (wa.heap.size) wA wB)
  (fun D sp w'=>RG (wa.heap.size) wa [] w'/\Ni (D 11) (D 12) (sp 11) wa.heap.size (z4 87) (Uw A B Y Z) w')
  (fun i v w'=>match i with
   | 5=>Ao Y v w'
   | 9=>Ao Z v w'
   | 10=>Uv A B Y Z v w'
   | _=>True)
  ?_ ⟨RG.start (Av _) (fun x hx=>by cases hx),Ni.start (Av _)⟩ ?_ ?_
 .intro i v wA wB hf hb;split at hf
  .exact hf.kt hb
  .exact hf.kt hb
  .exact hf.kt hb
  .trivial
 .simp only[Bb,Nat.reduceAdd];refine⟨?_,?_,?_,?_,?_,?_,?_,?_,?_,?_,?_,?_,?_,trivial⟩
  all_goals intro D sp w' hD hW hdp hg
  case refine_3|refine_7=>
   have g4:=(cells4 (HBX.out.below hg.1.keep.bel HBX.out.lt).at_).1
   with_reducible refine Ad ?_ ?_
   all_goals simp[Region.wanted,yielded,execOp,Act.eval,Act.put,go_sem,g4.1,g4.2.1,g4.2.2.1,g4.2.2.2]
  case refine_6=>
   (with_reducible refine Ac (w1:=w') (f := 86) (args:=#[.agg #[.slice p0 n0 c0,.slice p1 n1 c1,.slice p2 n2 c2,.slice p3 n3 c3],.slice pa na ca,.slice px nx cx]) ?_ ?_ ?_)
   .simp[Region.wanted,yielded,Act.put,go_sem]
   .simp[Act.eval,Act.put,go_sem]
   .refine(Gj (HV.out.below hg.1.keep.bel) (HA.out.below hg.1.keep.bel) (HX.out.below hg.1.keep.bel) HAb.out HXb.out HPl.out HP0.out).mono ?_;rintro en w9 ⟨u,rfl,hu,hb⟩;rw[HYE.out]at hu
    exact⟨u,rfl,KT.of hb hg.1.base,hu,hg.1.later hb,by simpa [upd]using hg.2.later hb (fun o h=>h.below hb)⟩
  case refine_10=>
   (with_reducible refine Ac (w1:=w') (f := 86) (args:=#[.agg #[.slice p0 n0 c0,.slice p1 n1 c1,.slice p2 n2 c2,.slice p3 n3 c3],.slice pb nb cb,.slice px nx cx]) ?_ ?_ ?_)
   .simp[Region.wanted,yielded,Act.put,go_sem]
   .simp[Act.eval,Act.put,go_sem]
   .refine(Gj (HV.out.below hg.1.keep.bel) (HBB.out.below hg.1.keep.bel) (HX.out.below hg.1.keep.bel) HBb.out HXb.out HPl.out HP0.out).mono ?_;rintro en w9 ⟨u,rfl,hu,hb⟩;rw[HZE.out]at hu
    exact⟨u,rfl,KT.of hb hg.1.base,hu,hg.1.later hb,by simpa [upd]using hg.2.later hb (fun o h=>h.below hb)⟩
  case refine_11=>
   have hxy:∃q m d,sp 5=.slice q m d/\Bj w' q m d Y:=(hdp 5 (mq (by kernel_rfl))).2
   (with_reducible refine Aw hxy fun qy hxy1=>Aw hxy1 fun my hxy2=>Aw hxy2 fun dy hxy3=>?_)
   have hy:=hxy3.1;have hxz:∃q m d,sp 9=.slice q m d/\Bj w' q m d Z:=(hdp 9 (mq (by kernel_rfl))).2
   (with_reducible refine Aw hxz fun qz hxz1=>Aw hxz1 fun mz hxz2=>Aw hxz2 fun dz hxz3=>?_)
   have hz:=hxz3.1
   (with_reducible refine Af (w1:=w') (v:=.agg #[.slice pa na ca,.slice pb nb cb,.slice qy my dy,.slice qz mz dz]) ?_ ?_ ?_)
   .simp only[Region.wanted]
   .simp[execOp,Act.eval,Act.put,go_sem,hy,hz]
   .exact⟨KT.same _ _ _,⟨(pa,na,ca),(pb,nb,cb),(qy,my,dy),(qz,mz,dz),rfl,HA0.out.below hg.1.keep.bel,HB0.out.below hg.1.keep.bel,hxy3.2,hxz3.2⟩,hg.1,by simpa [upd]using hg.2⟩
  case refine_12=>
   have h9:D 12=false:=hW 12 (mq (by kernel_rfl));rw[hD,h9]at hg
   (with_reducible refine Af (w1:=w'.alloc (.cells #[.slice none 0 0,.slice none 0 0,.slice none 0 0,.slice none 0 0] 87)) (v:=.pointer (some ⟨w'.heap.size,0,none⟩)) ?_ ?_ ?_)
   .simp only[Region.wanted]
   .simp[execOp,go_sem]
   .have hb:Below w'.heap.size w' (w'.alloc (.cells #[.slice none 0 0,.slice none 0 0,.slice none 0 0,.slice none 0 0] 87)):=Bw;refine⟨KT.of hb hg.1.base,trivial,hg.1.later hb,?_⟩;have h8:Ni true false _ _ (z4 87) _ _:=Ni.made hg.2;simpa [upd,h9]using h8
  case refine_13=>
   have hx:∃xa xb xy xz:Option Addr×Nat×Nat,sp 10=.agg #[.slice xa.1 xa.2.1 xa.2.2,.slice xb.1 xb.2.1 xb.2.2,.slice xy.1 xy.2.1 xy.2.2,.slice xz.1 xz.2.1 xz.2.2]/\Uy A B Y Z xa xb xy xz w':=(hdp 10 (mq (by kernel_rfl))).2
   (with_reducible refine Aw hx fun xa hx1=>Aw hx1 fun xb hx2=>Aw hx2 fun xy hx3=>Aw hx3 fun xz hx4=>?_)
   have h1:=hx4.1;have h9:D 11=true:=(hdp 11 (mq (by kernel_rfl))).1;rw[hD,h9]at hg
   have hm:=hg.2.2 rfl
   (with_reducible refine Aw hm fun bq hm1=>?_)
   have h3:=hm1.1;have h6:w'.heap[bq]? = some (.cells #[.slice none 0 0,.slice none 0 0,.slice none 0 0,.slice none 0 0] 87 (0,0)):=hm1.2.2.1 rfl;have hp:=put4 (u0:=.slice xa.1 xa.2.1 xa.2.2) (u1:=.slice xb.1 xb.2.1 xb.2.2) (u2:=.slice xy.1 xy.2.1 xy.2.2) (u3:=.slice xz.1 xz.2.1 xz.2.2) h6;have hs:=Jd (none,0,0) (none,0,0) (none,0,0) (none,0,0);have hkt:=hp.kt h6 hs hm1.2.1;have g0:=cells4 h6
   (with_reducible refine An (w1:=Ja w' bq (.slice xa.1 xa.2.1 xa.2.2) (.slice xb.1 xb.2.1 xb.2.2) (.slice xy.1 xy.2.1 xy.2.2) (.slice xz.1 xz.2.1 xz.2.2)) ?_ ?_ ?_)
   .simp only[Region.wanted]
   .simp[execOp,Act.eval,Act.put,go_sem,h1,h3,g0.1.1,g0.1.2.1,g0.1.2.2.1,g0.1.2.2.2,g0.2.1,g0.2.2.1,g0.2.2.2.1,g0.2.2.2.2,Ja]
   .refine⟨hkt,trivial,hg.1.putO hp h6 hs hm1.2.1 (fun x hx=>by cases hx),?_⟩;have h8:Ni true true (sp 11) _ (z4 87) (Uw A B Y Z) _:=⟨by rw[hp.size];exact hg.2.1,fun _=>⟨bq,h3,hm1.2.1,Oh.done hp.new ⟨xa,xb,xy,xz,rfl,hx4.2.kt hkt⟩⟩⟩
    simpa [upd,h9]using h8
  all_goals ((with_reducible refine Ad ?_ ?_);all_goals first|(simp only[Region.wanted];done)|simp[Region.wanted,yielded,execOp,Act.eval,Act.put,go_sem])
 .intro sp w2 hsp hk;obtain⟨hk1,_,hk2⟩:=hk;obtain⟨b12,e12,hb12,hst⟩:=hk2 rfl;obtain⟨_,hbox,xa,xb,xy,xz,rfl,hat⟩:=hst.2 rfl;have hb:=hk1.keep.bel;have HC12:Aa (Cp 87 w2 b12 (.slice xa.1 xa.2.1 xa.2.2) (.slice xb.1 xb.2.1 xb.2.2) (.slice xy.1 xy.2.1 xy.2.2) (.slice xz.1 xz.2.1 xz.2.2)):=⟨⟨hbox⟩⟩
  have HAT:=Ab hat;have HNE:Aa (b12≠(w.heap.size+1)):=⟨by have h1:=(Ep HZ0.out).1;omega⟩
  replace HBX:=Ab (HBX.out.below hb HBX.out.lt);replace HZ0:=Ab ((hb.block _ (Ep HZ0.out).1).trans HZ0.out);replace HA:=Ab (HA.out.below hb);replace HBB:=Ab (HBB.out.below hb);replace HX:=Ab (HX.out.below hb);replace HV:=Ab (HV.out.below hb);replace HM:=Ab (HM.out.below hb);replace HQB:=Ab (HQB.out.below hb);replace HB:=Ab (Ae HB.out hb);clear hsp hk1 hk2 hst hbox hat hb12 hb HA0 HB0;simp only[Am,Nat.reduceAdd];rw[e12];clear e12;generalize sp 5=y5,sp 9=y9,sp 10=y10,sp 12=y12 at *
  go_simp
  go_wp2;refine Aj (by kernel_rfl) (by kernel_rfl)
   [some (.agg #[.slice p0 n0 c0,.slice p1 n1 c1,.slice p2 n2 c2,.slice p3 n3 c3]),some (.slice px nx cx),none,none,none,some (.agg #[.slice p0 n0 c0,.slice p1 n1 c1,.slice p2 n2 c2,.slice p3 n3 c3]),some (.slice pa na ca),none,some (.agg #[.slice p0 n0 c0,.slice p1 n1 c1,.slice p2 n2 c2,.slice p3 n3 c3]),some (.slice pb nb cb),none,some (.slice pm nm cm),none,none,none,none]
   [false,false,true,true,true,false,false,true,false,false,true,false,true,true,true,true] rfl
   (fun wA wB=>KC w2.heap.size wA wB)
   (fun D w'=>KC w2.heap.size w2 w')
   (fun i v w'=>match i with
    | 2=>Fn szq (As X szq) v w'
    | 3=>bY w2.heap.size v w'
    | 4=>bY w2.heap.size v w'
    | 7=>Fn szp (As A szp) v w'
    | 10=>Fn szp (As B szp) v w'
    | 12=>Ur 4 [Kz,As A szp,As B szp,msg] v w'
    | 13=>Fn LL MG v w'
    | 14=>Fn 64 EE v w'
    | 15=>Fn 64 EE v w'
    | _=>True)
   ?_ (KC.drew _ _) ?_ ?_
  .intro i v w1 w2 hf hb;split at hf
   .exact hf.kc hb
   .exact hf.kc hb
   .exact hf.kc hb
   .exact hf.kc hb
   .exact hf.kc hb
   .exact hf.kc hb
   .exact hf.kc hb
   .exact hf.kc hb
   .exact hf.kc hb
   .trivial
  .simp only[Bc,Nat.reduceAdd];refine⟨?_,?_,?_,?_,?_,?_,?_,?_,?_,?_,?_,?_,?_,?_,?_,?_,trivial⟩
   all_goals intro D sp w' hD hW hdp hbx'
   case refine_1|refine_6|refine_9=>
    have g4:=(cells4 (HBX.out.below hbx'.bel HBX.out.lt).at_).1
    with_reducible refine Ad ?_ ?_
    all_goals simp[Region.wanted,yielded,execOp,Act.eval,Act.put,go_sem,g4.1,g4.2.1,g4.2.2.1,g4.2.2.2]
   case refine_3=>
    (with_reducible refine Ac (w1:=w') (f := 48) (args:=#[.agg #[.slice p0 n0 c0,.slice p1 n1 c1,.slice p2 n2 c2,.slice p3 n3 c3],.slice px nx cx]) ?_ ?_ ?_)
    .simp[Region.wanted,yielded,Act.put,go_sem]
    .simp[Act.eval,Act.put,go_sem]
    .refine(Gq (HV.out.below hbx'.bel) (HX.out.below hbx'.bel) HQl.out HQf.out HXB8.out).mono ?_;rintro en w9 ⟨g9,rfl,hu,_,hb⟩;rw[HSQ.out]at hu
     rw[HSQ.out];exact⟨_,rfl,KC.of hb hbx'.bel.size,⟨_,_,rfl,Gr hu HQk.out,fun h=>by cases h⟩,hbx'.trans (KC.of hb hbx'.bel.size)⟩
   case refine_4=>
    (with_reducible refine Af (w1:=w'.alloc (.cells #[.int .u8 100,.int .u8 108,.int .u8 101,.int .u8 113] 5)) (v:=.slice (some ⟨w'.heap.size,0,none⟩) 4 4) ?_ ?_ ?_)
    .simp only[Region.wanted]
    .simp[execOp,Act.eval,go_sem]
    .have hbl:Below w'.heap.size w' (w'.alloc (.cells #[.int .u8 100,.int .u8 108,.int .u8 101,.int .u8 113] 5)):=Bw;exact⟨KC.of hbl hbx'.bel.size,Wj w' hbx'.bel.size,hbx'.trans (KC.of hbl hbx'.bel.size)⟩
   case refine_5=>
    have hx3:∃g,sp 3=.slice (some ⟨g,0,none⟩) 4 4/\w'.shape? g=some (5,4)/\Aq w' ⟨some ⟨g,0,none⟩,4,4,Kz⟩/\w2.heap.size<=g:=(hdp 3 (mq (by kernel_rfl))).2
    (with_reducible refine Aw hx3 fun g e30=>?_)
    have h1:=e30.1;have h7:=run_mark (w:=w') (n:=4) (c:=4) e30.2.1
    (with_reducible refine Af (w1:=w'.freeze ⟨g,4,none⟩ 1) (v:=.slice (some ⟨g,0,none⟩) 4 4) ?_ ?_ ?_)
    .simp only[Region.wanted]
    .simp[execOp,Act.eval,Act.put,go_sem,h1,h7]
    .have hkc:=KC.mark (w:=w') (g:=g) (B:=w2.heap.size) 4 e30.2.2.2;exact⟨hkc,⟨g,rfl,hkc.shape _ _ e30.2.1,e30.2.2.1.kc hkc,e30.2.2.2⟩,hbx'.trans hkc⟩
   case refine_8=>
    (with_reducible refine Ac (w1:=w') (f := 110) (args:=#[.agg #[.slice p0 n0 c0,.slice p1 n1 c1,.slice p2 n2 c2,.slice p3 n3 c3],.slice pa na ca]) ?_ ?_ ?_)
    .simp[Region.wanted,yielded,Act.put,go_sem]
    .simp[Act.eval,Act.put,go_sem]
    .refine(qT (HV.out.below hbx'.bel) (HA.out.below hbx'.bel) HPl.out HSP.out HPf2.out HAB8.out).mono ?_;rintro en w9 ⟨u,rfl,hu,hb⟩;exact⟨u,rfl,KC.of hb hbx'.bel.size,hu,hbx'.trans (KC.of hb hbx'.bel.size)⟩
   case refine_11=>
    (with_reducible refine Ac (w1:=w') (f := 110) (args:=#[.agg #[.slice p0 n0 c0,.slice p1 n1 c1,.slice p2 n2 c2,.slice p3 n3 c3],.slice pb nb cb]) ?_ ?_ ?_)
    .simp[Region.wanted,yielded,Act.put,go_sem]
    .simp[Act.eval,Act.put,go_sem]
    .refine(qT (HV.out.below hbx'.bel) (HBB.out.below hbx'.bel) HPl.out HSP.out HPf2.out HBB8.out).mono ?_;rintro en w9 ⟨u,rfl,hu,hb⟩;exact⟨u,rfl,KC.of hb hbx'.bel.size,hu,hbx'.trans (KC.of hb hbx'.bel.size)⟩
   case refine_13=>
    have hx4:∃g,sp 4=.slice (some ⟨g,0,none⟩) 4 4/\w'.shape? g=some (5,4)/\Aq w' ⟨some ⟨g,0,none⟩,4,4,Kz⟩/\w2.heap.size<=g:=(hdp 4 (mq (by kernel_rfl))).2
    (with_reducible refine Aw hx4 fun g e40=>?_)
    have hx7:∃p c,sp 7=.slice p szp c/\Aq w' ⟨p,szp,c,As A szp⟩/\(p=none->c=0):=(hdp 7 (mq (by kernel_rfl))).2
    (with_reducible refine Aw hx7 fun p7 e70=>Aw e70 fun c7 e71=>?_)
    have hx10:∃p c,sp 10=.slice p szp c/\Aq w' ⟨p,szp,c,As B szp⟩/\(p=none->c=0):=(hdp 10 (mq (by kernel_rfl))).2
    (with_reducible refine Aw hx10 fun p10 e100=>Aw e100 fun c10 e101=>?_)
    have ea:=e40.1;have eb:=e71.1;have ec:=e101.1
    (with_reducible refine Af (w1:=w'.alloc (.cells #[.slice (some ⟨g,0,none⟩) 4 4,.slice p7 szp c7,.slice p10 szp c10,.slice pm nm cm] 60)) (v:=.slice (some ⟨w'.heap.size,0,none⟩) 4 4) ?_ ?_ ?_)
    .simp only[Region.wanted]
    .simp[execOp,Act.eval,Act.put,go_sem,ea,eb,ec]
    .have hbl:Below w'.heap.size w' (w'.alloc (.cells #[.slice (some ⟨g,0,none⟩) 4 4,.slice p7 szp c7,.slice p10 szp c10,.slice pm nm cm] 60)):=Bw;have hp:=lD w' ⟨some ⟨g,0,none⟩,4,4,Kz⟩ ⟨p7,szp,c7,As A szp⟩ ⟨p10,szp,c10,As B szp⟩ ⟨pm,nm,cm,msg⟩ e40.2.2.1 e71.2.1 e101.2.1 (HM.out.below hbx'.bel);exact⟨KC.of hbl hbx'.bel.size,⟨w'.heap.size,_,rfl,hp,kE (fun h=>by cases h) e71.2.2 e101.2.2 HZM.out,rfl⟩,hbx'.trans (KC.of hbl hbx'.bel.size)⟩
   case refine_14=>
    have hx12:∃(q:Nat) (L:List Part),sp 12=.slice (some ⟨q,0,none⟩) 4 4/\Br w' (some ⟨q,0,none⟩) 4 4 L/\Gs L/\L.map (·.bs)=[Kz,As A szp,As B szp,msg]:=(hdp 12 (mq (by kernel_rfl))).2
    (with_reducible refine Aw hx12 fun q e120=>Aw e120 fun L e121=>?_)
    have h1:=e121.1;have hw:whole L=MG:=by rw[Sp,e121.2.2.2];exact HMG.out
    (with_reducible refine Ac (w1:=w') (f := 117) (args:=#[.slice (some ⟨q,0,none⟩) 4 4]) ?_ ?_ ?_)
    .simp only[Region.wanted]
    .simp[Act.eval,Act.put,go_sem,h1]
    .refine(Hd w' _ 4 4 L e121.2.1 e121.2.2.1 (by rw[hw,HLL.out];exact HLb.out)).mono ?_;rintro en w9 ⟨u,rfl,hu,hb⟩;rw[hw]at hu
     exact⟨u,rfl,KC.of hb hbx'.bel.size,hu.partb HMG8.out HLL.out,hbx'.trans (KC.of hb hbx'.bel.size)⟩
   case refine_15=>
    have hx2:∃p c,sp 2=.slice p szq c/\Aq w' ⟨p,szq,c,As X szq⟩/\(p=none->c=0):=(hdp 2 (mq (by kernel_rfl))).2
    (with_reducible refine Aw hx2 fun p2_ e20=>Aw e20 fun c2_ e21=>?_)
    have hx13:∃p c,sp 13=.slice p LL c/\Aq w' ⟨p,LL,c,MG⟩/\(p=none->c=0):=(hdp 13 (mq (by kernel_rfl))).2
    (with_reducible refine Aw hx13 fun p13 e130=>Aw e130 fun c13 e131=>?_)
    have ea:=e21.1;have eb:=e131.1
    (with_reducible refine Ac (w1:=w') (f := 98) (args:=#[.slice p2_ szq c2_,.slice p13 LL c13,.int .i64 (64:Nat)]) ?_ ?_ ?_)
    .simp only[Region.wanted]
    .simp[Act.eval,Act.put,go_sem,ea,eb]
    .refine(Ru w' p2_ szq c2_ (As X szq) p13 LL c13 MG 64 e21.2.1 e21.2.2 e131.2.1 e131.2.2 HQk.out HLk.out (by decide)).mono ?_;rintro en w9 ⟨u,rfl,hu,hb⟩;rw[HEE.out]at hu
     exact⟨u,rfl,KC.of hb hbx'.bel.size,hu.partb HE8.out HEL.out,hbx'.trans (KC.of hb hbx'.bel.size)⟩
   case refine_16=>
    have k14:Fn 64 EE (sp 14) w':=(hdp 14 (mq (by kernel_rfl))).2
    (with_reducible refine Af (w1:=w') (v:=sp 14) ?_ ?_ ?_)
    .simp[Region.wanted,yielded,Act.put,go_sem]
    .simp[execOp,Act.eval,Act.put,go_sem]
    .exact⟨KC.same _ _,k14,hbx'⟩
   all_goals ((with_reducible refine Ad ?_ ?_);all_goals first|(simp only[Region.wanted];done)|simp[Region.wanted,yielded,execOp,Act.eval,Act.put,go_sem])
  .intro sp w3 hsp hk;obtain⟨pe,ce,ee,hpe,_⟩:Fn 64 EE (sp 15) w3:=hsp 15 rfl;have hb:=hk.bel;have HER:=Ab hpe;replace HBX:=Ab (HBX.out.below hb HBX.out.lt);replace HZ0:=Ab ((hb.block _ (Ep HZ0.out).1).trans HZ0.out);replace HA:=Ab (HA.out.below hb);replace HBB:=Ab (HBB.out.below hb);replace HX:=Ab (HX.out.below hb);replace HV:=Ab (HV.out.below hb);replace HM:=Ab (HM.out.below hb);replace HQB:=Ab (HQB.out.below hb);replace HB:=Ab (Ae HB.out hb);replace HC12:=Ab (HC12.out.below hb HC12.out.lt);replace HAT:=Ab (HAT.out.below hb);clear hsp hk hpe hb;simp only[Am,Nat.reduceAdd];rw[ee];clear ee;generalize sp 2=y2,sp 3=y3,sp 4=y4,sp 7=y7,sp 10=y10,sp 12=y12,sp 13=y13,sp 14=y14 at *
   go_simp
   go_wp2;refine Aj (by kernel_rfl) (by kernel_rfl)
    [some (.slice pe 64 ce),none,some (.pointer (some ⟨w.heap.size,1,none⟩)),some (.slice p1 n1 c1),none,none]
    [false,true,false,false,true,true] rfl
    (fun w1 w2=>Below w1.heap.size w1 w2)
    (fun _ w'=>Below w3.heap.size w3 w')
    (fun i v w'=>match i with
     | 1=>Ao DN v w'
     | 4=>Ao ZK v w'
     | 5=>Ao ZK v w'
     | _=>True)
    ?_ (Bg _ _).drew ?_ ?_
   .intro i v w1 w2 hf hb;split at hf
    .exact hf.below hb
    .exact hf.below hb
    .exact hf.below hb
    .trivial
   .simp only[Bc,Nat.reduceAdd];refine⟨?_,?_,?_,?_,?_,?_,trivial⟩
    all_goals intro D sp w' hD hW hdp hbx'
    case refine_2=>
     (with_reducible refine Ac (w1:=w') (f := 97) (args:=#[.slice pe 64 ce]) ?_ ?_ ?_)
     .simp[Region.wanted,yielded,Act.put,go_sem]
     .simp[Act.eval,Act.put,go_sem]
     .refine(Tl w' pe 64 ce EE (HER.out.below hbx').row HE8.out (by decide)).mono ?_;rintro en w9 ⟨q9,m9,d9,rfl,hu,hb,_⟩;rw[HDD.out]at hu
      exact⟨_,rfl,hb,Ao.of hu,Ae hbx' hb⟩
    case refine_4=>
     have g4:=(cells4 (HBX.out.below hbx' HBX.out.lt).at_).1
     with_reducible refine Ad ?_ ?_
     all_goals simp[Region.wanted,yielded,execOp,Act.eval,Act.put,go_sem,g4.2.1]
    case refine_5=>
     have k1:Ao DN (sp 1) w':=(hdp 1 (mq (by kernel_rfl))).2
     (with_reducible refine Ac (w1:=w') (f := 79) (args:=#[sp 1,.slice p1 n1 c1]) ?_ ?_ ?_)
     .simp[Region.wanted,yielded,Act.put,go_sem]
     .simp[Act.eval,Act.put,go_sem]
     .refine(Nb k1 (HQB.out.below hbx') HDl.out HQl2.out HQ0.out).mono ?_;rintro en w9 ⟨u,rfl,hu,hb⟩;rw[HZK.out]at hu
      exact⟨u,rfl,hb,hu,Ae hbx' hb⟩
    case refine_6=>
     have k4:Ao ZK (sp 4) w':=(hdp 4 (mq (by kernel_rfl))).2
     (with_reducible refine Af (w1:=w') (v:=sp 4) ?_ ?_ ?_)
     .simp[Region.wanted,yielded,Act.put,go_sem]
     .simp[execOp,Act.eval,Act.put,go_sem]
     .exact⟨Bg _ _,k4,hbx'⟩
    all_goals ((with_reducible refine Ad ?_ ?_);all_goals first|(simp only[Region.wanted];done)|simp[Region.wanted,yielded,execOp,Act.eval,Act.put,go_sem])
   .intro sp w4 hsp hb;obtain⟨qk,mk,dk,ez,hzk⟩:Ao ZK (sp 5) w4:=hsp 5 rfl;have HKZ:=Ab (Ao.of hzk);have hmz:=jO hzk;have HML:Aa (mk<=1000000):=⟨by have h1:=Dk hzk;have h2:=Dr HZq.out HQf.out;omega⟩
    clear hsp hzk;replace HBX:=Ab (HBX.out.below hb HBX.out.lt);replace HZ0:=Ab ((hb.block _ (Ep HZ0.out).1).trans HZ0.out);replace HA:=Ab (HA.out.below hb);replace HBB:=Ab (HBB.out.below hb);replace HX:=Ab (HX.out.below hb);replace HV:=Ab (HV.out.below hb);replace HM:=Ab (HM.out.below hb);replace HQB:=Ab (HQB.out.below hb);replace HB:=Ab (Ae HB.out hb);replace HC12:=Ab (HC12.out.below hb HC12.out.lt);replace HAT:=Ab (HAT.out.below hb);clear hb HER;simp only[Am,Nat.reduceAdd];rw[ez];clear ez;generalize sp 1=y1,sp 4=y4 at *
    go_simp
    by_cases hz0:mk=0
    .have hm0:((mk:Int)==0)=true:=by rw[hz0];rfl
     have HKD:Aa (Rt Q X MG=1):=⟨by rw[HKS.out,if_pos (hmz.1 hz0)]⟩
     have HKl:Aa (Ap 1<=100000):=⟨by decide⟩
     clear hz0 hmz
     go_wp2_with fail
     refine(Qv 1 w4 (by decide)).mono ?_;rintro en wk ⟨qk',mk',dk',rfl,hn1,hb,_⟩;have HK:=Ab (Ao.of hn1);clear hn1 hm0 HKZ;replace HBX:=Ab (HBX.out.below hb HBX.out.lt);replace HZ0:=Ab ((hb.block _ (Ep HZ0.out).1).trans HZ0.out);replace HA:=Ab (HA.out.below hb);replace HBB:=Ab (HBB.out.below hb);replace HX:=Ab (HX.out.below hb);replace HV:=Ab (HV.out.below hb);replace HM:=Ab (HM.out.below hb);replace HQB:=Ab (HQB.out.below hb);replace HB:=Ab (Ae HB.out hb);replace HC12:=Ab (HC12.out.below hb HC12.out.lt);replace HAT:=Ab (HAT.out.below hb);clear hb;obtain⟨U,hU⟩:∃ZZ,A^1%P=ZZ:=⟨_,rfl⟩
     obtain⟨V,hV⟩:∃ZZ,B^1%P=ZZ:=⟨_,rfl⟩
     obtain⟨CC,hCC⟩:∃ZZ,Ny P Q A B Y Z U V msg=ZZ:=⟨_,rfl⟩
     obtain⟨MM,hMM⟩:∃ZZ,CC*X%Q=ZZ:=⟨_,rfl⟩
     obtain⟨SS,hSS⟩:∃ZZ,(1+MM)%Q=ZZ:=⟨_,rfl⟩
     have HSB:Aa (As CC (Ak Q)++As SS (Ak Q)=SB):=⟨by
      rw[<-HSB0.out];unfold cA sS rU rT;rw[HMGE.out,HKD.out,hU,hV,HYE.out,HZE.out,hCC,hMM,hSS]⟩
     have HUE:=Ab hU;have HVE:=Ab hV;have HCC:=Ab hCC;have HMM:=Ab hMM;have HSS:=Ab hSS;have hlq:=Eu Q;have HUl:Aa (U<P):=⟨by rw[<-hU];exact Nat.mod_lt _ HP0.out⟩
     have HVl:Aa (V<P):=⟨by rw[<-hV];exact Nat.mod_lt _ HP0.out⟩
     have hcq:CC<Q:=by rw[<-hCC];exact Pf HQ0.out
     have hsq:SS<Q:=by rw[<-hSS];exact Nat.mod_lt _ HQ0.out
     have hmq:MM<Q:=by rw[<-hMM];exact Nat.mod_lt _ HQ0.out
     have HCl:Aa (CC<B8 (Ak Q)):=⟨Nat.lt_trans hcq hlq⟩
     have HSl:Aa (SS<B8 (Ak Q)):=⟨Nat.lt_trans hsq hlq⟩
     have HCb:Aa (Ap CC<=100000):=⟨Dr hcq HQf.out⟩
     have HMb:Aa (Ap MM<=100000):=⟨Dr hmq HQf.out⟩
     clear hU hV hCC hMM hSS hlq hcq hsq hmq;go_wp2;refine Aj (by kernel_rfl) (by kernel_rfl)
      [some (.agg #[.slice p0 n0 c0,.slice p1 n1 c1,.slice p2 n2 c2,.slice p3 n3 c3]),some (.agg #[.slice xa.1 xa.2.1 xa.2.2,.slice xb.1 xb.2.1 xb.2.2,.slice xy.1 xy.2.1 xy.2.2,.slice xz.1 xz.2.1 xz.2.2]),some (.agg #[.slice p0 n0 c0,.slice p1 n1 c1,.slice p2 n2 c2,.slice p3 n3 c3]),some (.slice pa na ca),some (.slice qk' mk' dk'),none,some (.agg #[.slice p0 n0 c0,.slice p1 n1 c1,.slice p2 n2 c2,.slice p3 n3 c3]),some (.slice pb nb cb),some (.slice qk' mk' dk'),none,some (.slice pm nm cm),none,none]
      [false,false,false,false,false,true,false,false,false,true,false,true,true] rfl
      (fun w1 w2=>Below w1.heap.size w1 w2)
      (fun _ w'=>Below wk.heap.size wk w')
      (fun i v w'=>match i with
       | 5=>Ao U v w'
       | 9=>Ao V v w'
       | 11=>Ao CC v w'
       | 12=>Ao CC v w'
       | _=>True)
      ?_ (Bg _ _).drew ?_ ?_
     .intro i v w1 w2 hf hb;split at hf
      .exact hf.below hb
      .exact hf.below hb
      .exact hf.below hb
      .exact hf.below hb
      .trivial
     .simp only[Bc,Nat.reduceAdd];refine⟨?_,?_,?_,?_,?_,?_,?_,?_,?_,?_,?_,?_,?_,trivial⟩
      all_goals intro D sp w' hD hW hdp hbx'
      case refine_1|refine_3|refine_7=>
       have g4:=(cells4 (HBX.out.below hbx' HBX.out.lt).at_).1
       with_reducible refine Ad ?_ ?_
       all_goals simp[Region.wanted,yielded,execOp,Act.eval,Act.put,go_sem,g4.1,g4.2.1,g4.2.2.1,g4.2.2.2]
      case refine_2=>
       have g4:=(cells4 (HC12.out.below hbx' HC12.out.lt).at_).1
       with_reducible refine Ad ?_ ?_
       all_goals simp[Region.wanted,yielded,execOp,Act.eval,Act.put,go_sem,g4.1,g4.2.1,g4.2.2.1,g4.2.2.2]
      case refine_6=>
       (with_reducible refine Ac (w1:=w') (f := 86) (args:=#[.agg #[.slice p0 n0 c0,.slice p1 n1 c1,.slice p2 n2 c2,.slice p3 n3 c3],.slice pa na ca,.slice qk' mk' dk']) ?_ ?_ ?_)
       .simp[Region.wanted,yielded,Act.put,go_sem]
       .simp[Act.eval,Act.put,go_sem]
       .refine(Gj (HV.out.below hbx') (HA.out.below hbx') (HK.out.below hbx') HAb.out HKl.out HPl.out HP0.out).mono ?_;rintro en w9 ⟨u,rfl,hu,hb⟩;rw[HUE.out]at hu
        exact⟨u,rfl,hb,hu,Ae hbx' hb⟩
      case refine_10=>
       (with_reducible refine Ac (w1:=w') (f := 86) (args:=#[.agg #[.slice p0 n0 c0,.slice p1 n1 c1,.slice p2 n2 c2,.slice p3 n3 c3],.slice pb nb cb,.slice qk' mk' dk']) ?_ ?_ ?_)
       .simp[Region.wanted,yielded,Act.put,go_sem]
       .simp[Act.eval,Act.put,go_sem]
       .refine(Gj (HV.out.below hbx') (HBB.out.below hbx') (HK.out.below hbx') HBb.out HKl.out HPl.out HP0.out).mono ?_;rintro en w9 ⟨u,rfl,hu,hb⟩;rw[HVE.out]at hu
        exact⟨u,rfl,hb,hu,Ae hbx' hb⟩
      case refine_12=>
       have k5:Ao U (sp 5) w':=(hdp 5 (mq (by kernel_rfl))).2;have k9:Ao V (sp 9) w':=(hdp 9 (mq (by kernel_rfl))).2
       (with_reducible refine Ac (w1:=w') (f := 62) (args:=#[.agg #[.slice p0 n0 c0,.slice p1 n1 c1,.slice p2 n2 c2,.slice p3 n3 c3],.agg #[.slice xa.1 xa.2.1 xa.2.2,.slice xb.1 xb.2.1 xb.2.2,.slice xy.1 xy.2.1 xy.2.2,.slice xz.1 xz.2.1 xz.2.2],sp 5,sp 9,.slice pm nm cm]) ?_ ?_ ?_)
       .simp[Region.wanted,yielded,Act.put,go_sem]
       .simp[Act.eval,Act.put,go_sem]
       .refine(Nn (HV.out.below hbx') (HAT.out.below hbx') k5 k9 HAl.out HBl.out HYl.out HZl.out HUl.out HVl.out HPl.out HQl.out HQ0.out HPf.out (HM.out.below hbx') HZM.out HNM.out).mono ?_;rintro en w9 ⟨u,rfl,hu,hb⟩;rw[HCC.out]at hu
        exact⟨u,rfl,hb,hu,Ae hbx' hb⟩
      case refine_13=>
       have k11:Ao CC (sp 11) w':=(hdp 11 (mq (by kernel_rfl))).2
       (with_reducible refine Af (w1:=w') (v:=sp 11) ?_ ?_ ?_)
       .simp[Region.wanted,yielded,Act.put,go_sem]
       .simp[execOp,Act.eval,Act.put,go_sem]
       .exact⟨Bg _ _,k11,hbx'⟩
      all_goals ((with_reducible refine Ad ?_ ?_);all_goals first|(simp only[Region.wanted];done)|simp[Region.wanted,yielded,execOp,Act.eval,Act.put,go_sem])
     .intro sp w4 hsp hb;obtain⟨qc,mc,dc,ec,hc⟩:Ao CC (sp 12) w4:=hsp 12 rfl;have HC:=Ab (Ao.of hc);clear hsp hc;replace HBX:=Ab (HBX.out.below hb HBX.out.lt);replace HZ0:=Ab ((hb.block _ (Ep HZ0.out).1).trans HZ0.out);replace HA:=Ab (HA.out.below hb);replace HBB:=Ab (HBB.out.below hb);replace HX:=Ab (HX.out.below hb);replace HV:=Ab (HV.out.below hb);replace HM:=Ab (HM.out.below hb);replace HQB:=Ab (HQB.out.below hb);replace HB:=Ab (Ae HB.out hb);replace HC12:=Ab (HC12.out.below hb HC12.out.lt);replace HAT:=Ab (HAT.out.below hb);replace HK:=Ab (HK.out.below hb);clear hb;simp only[Am,Nat.reduceAdd];rw[ec];clear ec;generalize sp 5=y5,sp 9=y9,sp 11=y11 at *
      go_simp
      go_wp2;refine Aj (by kernel_rfl) (by kernel_rfl)
       [some (.slice qk' mk' dk'),some (.slice qc mc dc),some (.slice px nx cx),some (.pointer (some ⟨w.heap.size,1,none⟩)),some (.slice p1 n1 c1),none,some (.pointer (some ⟨w.heap.size,1,none⟩)),some (.slice p1 n1 c1),none,none]
       [false,false,false,false,false,true,false,false,true,true] rfl
       (fun w1 w2=>Below w1.heap.size w1 w2)
       (fun _ w'=>Below w4.heap.size w4 w')
       (fun i v w'=>match i with
        | 5=>Ao MM v w'
        | 8=>Ao SS v w'
        | 9=>Ao SS v w'
        | _=>True)
       ?_ (Bg _ _).drew ?_ ?_
      .intro i v w1 w2 hf hb;split at hf
       .exact hf.below hb
       .exact hf.below hb
       .exact hf.below hb
       .trivial
      .simp only[Bc,Nat.reduceAdd];refine⟨?_,?_,?_,?_,?_,?_,?_,?_,?_,?_,trivial⟩
       all_goals intro D sp w' hD hW hdp hbx'
       case refine_5|refine_8=>
        have g4:=(cells4 (HBX.out.below hbx' HBX.out.lt).at_).1
        with_reducible refine Ad ?_ ?_
        all_goals simp[Region.wanted,yielded,execOp,Act.eval,Act.put,go_sem,g4.2.1]
       case refine_6=>
        (with_reducible refine Ac (w1:=w') (f := 83) (args:=#[.slice qc mc dc,.slice px nx cx,.slice p1 n1 c1]) ?_ ?_ ?_)
        .simp[Region.wanted,yielded,Act.put,go_sem]
        .simp[Act.eval,Act.put,go_sem]
        .refine(Pd (HC.out.below hbx') (HX.out.below hbx') (HQB.out.below hbx') HCb.out HXb.out HQl.out HQ0.out).mono ?_;rintro en w9 ⟨u,rfl,hu,hb⟩;rw[HMM.out]at hu
         exact⟨u,rfl,hb,hu,Ae hbx' hb⟩
       case refine_9=>
        have k5:Ao MM (sp 5) w':=(hdp 5 (mq (by kernel_rfl))).2
        (with_reducible refine Ac (w1:=w') (f := 82) (args:=#[.slice qk' mk' dk',sp 5,.slice p1 n1 c1]) ?_ ?_ ?_)
        .simp[Region.wanted,yielded,Act.put,go_sem]
        .simp[Act.eval,Act.put,go_sem]
        .refine(bG (HK.out.below hbx') k5 (HQB.out.below hbx') HKl.out HMb.out HQl.out HQ0.out).mono ?_;rintro en w9 ⟨u,rfl,hu,hb⟩;rw[HSS.out]at hu
         exact⟨u,rfl,hb,hu,Ae hbx' hb⟩
       case refine_10=>
        have k8:Ao SS (sp 8) w':=(hdp 8 (mq (by kernel_rfl))).2
        (with_reducible refine Af (w1:=w') (v:=sp 8) ?_ ?_ ?_)
        .simp[Region.wanted,yielded,Act.put,go_sem]
        .simp[execOp,Act.eval,Act.put,go_sem]
        .exact⟨Bg _ _,k8,hbx'⟩
       all_goals ((with_reducible refine Ad ?_ ?_);all_goals first|(simp only[Region.wanted];done)|simp[Region.wanted,yielded,execOp,Act.eval,Act.put,go_sem])
      .intro sp w5 hsp hb;obtain⟨qs,ms,ds,es,hs⟩:Ao SS (sp 9) w5:=hsp 9 rfl;have HS:=Ab (Ao.of hs);clear hsp hs;replace HBX:=Ab (HBX.out.below hb HBX.out.lt);replace HZ0:=Ab ((hb.block _ (Ep HZ0.out).1).trans HZ0.out);replace HA:=Ab (HA.out.below hb);replace HBB:=Ab (HBB.out.below hb);replace HX:=Ab (HX.out.below hb);replace HV:=Ab (HV.out.below hb);replace HM:=Ab (HM.out.below hb);replace HQB:=Ab (HQB.out.below hb);replace HB:=Ab (Ae HB.out hb);replace HC12:=Ab (HC12.out.below hb HC12.out.lt);replace HAT:=Ab (HAT.out.below hb);replace HC:=Ab (HC.out.below hb);clear hb;have hWS:(w.heap.size+1)<w5.heap.size:=(Ep HZ0.out).1;have HSZ:Aa (∀ {w':World},KT 87 (w.heap.size+1) w5 w'->(w.heap.size+1)<=w'.heap.size):=⟨fun k=>by have h1:=k.k.bel.size;omega⟩
       have hKB:Aa (∀w',KT 87 (w.heap.size+1) w5 w'->w'.heap[w.heap.size]? = some (.cells #[.slice p0 n0 c0,.slice p1 n1 c1,.slice p2 n2 c2,.slice p3 n3 c3] 30 (0,0))):=⟨fun w' k=>k.blk _ _ _ _ HBX.out.at_ (.inl (by decide))⟩
       have hV5:=HV.out;have HV8:Aa (∀w',KT 87 (w.heap.size+1) w5 w'->Df P Q G H (.agg #[.slice p0 n0 c0,.slice p1 n1 c1,.slice p2 n2 c2,.slice p3 n3 c3]) w'):=⟨fun w' k=>hV5.kt k⟩
       have hC12:=HC12.out.at_
       clear hV5 hWS;simp only[Am,Nat.reduceAdd];rw[es];clear es;generalize sp 5=y5,sp 8=y8 at *
       go_simp
       have HCW:=Ab hC12;clear hC12;go_wp2;refine Aj (by kernel_rfl) (by kernel_rfl)
        [some (.agg #[.slice xa.1 xa.2.1 xa.2.2,.slice xb.1 xb.2.1 xb.2.2,.slice xy.1 xy.2.1 xy.2.2,.slice xz.1 xz.2.1 xz.2.2]),some (.agg #[.slice p0 n0 c0,.slice p1 n1 c1,.slice p2 n2 c2,.slice p3 n3 c3]),some (.slice qc mc dc),none,some (.agg #[.slice p0 n0 c0,.slice p1 n1 c1,.slice p2 n2 c2,.slice p3 n3 c3]),some (.slice qs ms ds),none,none,none,none]
        [false,false,false,true,false,false,true,true,true,true] rfl
        (fun w1 w2=>KT 87 (w.heap.size+1) w1 w2)
        (fun D w'=>KT 87 (w.heap.size+1) w5 w'/\Oh (D 8) (w.heap.size+1) (z4 87) (Uw A B Y Z) w'/\w'.heap[b12]? = some (.cells #[.slice xa.1 xa.2.1 xa.2.2,.slice xb.1 xb.2.1 xb.2.2,.slice xy.1 xy.2.1 xy.2.2,.slice xz.1 xz.2.1 xz.2.2] 87 (0,0)))
        (fun i v w'=>match i with
         | 3=>Gt (Ak Q) (As CC (Ak Q)) v w'
         | 6=>Gt (Ak Q) (As SS (Ak Q)) v w'
         | 7=>Bh 0 SB v w'
         | 8=>True
         | 9=>Bh 0 SB v w'
         | _=>True)
        ?_ ⟨KT.drew _ _ _,Oh.start HZ0.out,HCW.out⟩ ?_ ?_
       .intro i v w1 w2 hf hb;split at hf
        .exact hf.kt hb
        .exact hf.kt hb
        .exact hf.kt hb
        .exact hf
        .exact hf.kt hb
        .trivial
       .simp only[Bc,Nat.reduceAdd];refine⟨?_,?_,?_,?_,?_,?_,?_,?_,?_,?_,trivial⟩
        all_goals intro D sp w' hD hW hdp hbx'
        case refine_1=>
         have g4:=(cells4 hbx'.2.2).1
         with_reducible refine Ad ?_ ?_
         all_goals simp[Region.wanted,yielded,execOp,Act.eval,Act.put,go_sem,g4.1,g4.2.1,g4.2.2.1,g4.2.2.2]
        case refine_2|refine_5=>
         have g4:=(cells4 (hKB.out w' hbx'.1)).1
         with_reducible refine Ad ?_ ?_
         all_goals simp[Region.wanted,yielded,execOp,Act.eval,Act.put,go_sem,g4.1,g4.2.1,g4.2.2.1,g4.2.2.2]
        case refine_4=>
         (with_reducible refine Ac (w1:=w') (f := 48) (args:=#[.agg #[.slice p0 n0 c0,.slice p1 n1 c1,.slice p2 n2 c2,.slice p3 n3 c3],.slice qc mc dc]) ?_ ?_ ?_)
         .simp[Region.wanted,yielded,Act.put,go_sem]
         .simp[Act.eval,Act.put,go_sem]
         .refine(Gq (HV8.out w' hbx'.1) (HC.out.kt hbx'.1) HQl.out HQf.out (HCl.out)).mono ?_;rintro en w9 ⟨g9,rfl,hu,_,hb⟩;exact⟨_,rfl,KT.of hb (HSZ.out hbx'.1),⟨g9,rfl,hu⟩,⟨hbx'.1.trans (KT.of hb (HSZ.out hbx'.1)),by simpa [upd]using hbx'.2.1.later hb (fun o h=>h.below hb),by rw[hb.block _ (Ep hbx'.2.2).1];exact hbx'.2.2⟩⟩
        case refine_7=>
         (with_reducible refine Ac (w1:=w') (f := 48) (args:=#[.agg #[.slice p0 n0 c0,.slice p1 n1 c1,.slice p2 n2 c2,.slice p3 n3 c3],.slice qs ms ds]) ?_ ?_ ?_)
         .simp[Region.wanted,yielded,Act.put,go_sem]
         .simp[Act.eval,Act.put,go_sem]
         .refine(Gq (HV8.out w' hbx'.1) (HS.out.kt hbx'.1) HQl.out HQf.out (HSl.out)).mono ?_;rintro en w9 ⟨g9,rfl,hu,_,hb⟩;exact⟨_,rfl,KT.of hb (HSZ.out hbx'.1),⟨g9,rfl,hu⟩,⟨hbx'.1.trans (KT.of hb (HSZ.out hbx'.1)),by simpa [upd]using hbx'.2.1.later hb (fun o h=>h.below hb),by rw[hb.block _ (Ep hbx'.2.2).1];exact hbx'.2.2⟩⟩
        case refine_8=>
         have hxa:∃g,sp 3=.slice (some ⟨g,0,none⟩) (Ak Q) (Ak Q)/\Bl w' g 5 .u8 (As CC (Ak Q)):=(hdp 3 (mq (by kernel_rfl))).2
         (with_reducible refine Aw hxa fun ga ha1=>?_)
         have ea:=ha1.1;have hxb:∃g,sp 6=.slice (some ⟨g,0,none⟩) (Ak Q) (Ak Q)/\Bl w' g 5 .u8 (As SS (Ak Q)):=(hdp 6 (mq (by kernel_rfl))).2
         (with_reducible refine Aw hxb fun gb hb1=>?_)
         have eb:=hb1.1
         (with_reducible refine Op (n:=Ak Q) ha1.2 (Bq _ _).symm (Gr hb1.2 HQk2.out).row HWp.out (show Ak Q+Ak Q<=140737488355328 by have:=HQf.out;omega) 60 (fun v' w5 hr ho hb=>?_))
         (with_reducible refine Af (v:=v') (w1:=w5) ?_ ?_ ?_)
         .simp only[Region.wanted]
         .simp[execOp,resolve,invoke,builtin,Act.eval,Act.put,ea,eb,hr,Result.andThen]
         .have h9:=(Bh.mk ho).zero;rw[HSB.out]at h9
          exact⟨KT.of hb (HSZ.out hbx'.1),h9,⟨hbx'.1.trans (KT.of hb (HSZ.out hbx'.1)),by simpa [upd]using hbx'.2.1.later hb (fun o h=>h.below hb),by rw[hb.block _ (Ep hbx'.2.2).1];exact hbx'.2.2⟩⟩
        case refine_9=>
         rw[hD]at hbx'
         have g0:=(cells4 hbx'.2.2).1;have h6:w'.heap[(w.heap.size+1)]? = some (.cells #[.slice none 0 0,.slice none 0 0,.slice none 0 0,.slice none 0 0] 87 (0,0)):=hbx'.2.1.1 rfl;have hp:=put4 (u0:=.slice xa.1 xa.2.1 xa.2.2) (u1:=.slice xb.1 xb.2.1 xb.2.2) (u2:=.slice xy.1 xy.2.1 xy.2.2) (u3:=.slice xz.1 xz.2.1 xz.2.2) h6;have hkt:=hp.kt h6 (Jd (none,0,0) (none,0,0) (none,0,0) (none,0,0)) (Av _);have g6:=cells4 h6
         (with_reducible refine An (w1:=Ja w' (w.heap.size+1) (.slice xa.1 xa.2.1 xa.2.2) (.slice xb.1 xb.2.1 xb.2.2) (.slice xy.1 xy.2.1 xy.2.2) (.slice xz.1 xz.2.1 xz.2.2)) ?_ ?_ ?_)
         .simp only[Region.wanted]
         .simp[execOp,Act.eval,Act.put,go_sem,g6.1.1,g6.1.2.1,g6.1.2.2.1,g6.1.2.2.2,g6.2.1,g6.2.2.1,g6.2.2.2.1,g6.2.2.2.2,Ja]
         .refine⟨hkt,trivial,hbx'.1.trans hkt,?_,by rw[hp.old _ HNE.out];exact hbx'.2.2⟩;have h8:Oh true (w.heap.size+1) (z4 87) (Uw A B Y Z) _:=Oh.done hp.new ⟨xa,xb,xy,xz,rfl,(HAT.out.kt hbx'.1).kt hkt⟩;simpa [upd]using h8
        case refine_10=>
         have k7:Bh 0 SB (sp 7) w':=(hdp 7 (mq (by kernel_rfl))).2
         (with_reducible refine Af (w1:=w') (v:=sp 7) ?_ ?_ ?_)
         .simp only[Region.wanted]
         .simp[execOp,Act.eval,Act.put,go_sem]
         .exact⟨KT.same _ _ _,k7,by simpa [upd]using hbx'⟩
        all_goals ((with_reducible refine Ad ?_ ?_);all_goals first|(simp only[Region.wanted];done)|simp[Region.wanted,yielded,execOp,Act.eval,Act.put,go_sem])
       .intro sp w6 hsp hk;obtain⟨hk1,hk2,_⟩:=hk;obtain⟨_,hbox,ya,yb,yy,yz,rfl,hat⟩:=hk2.2 rfl;have HO:Aa (Bh 0 SB (sp 9) w6):=⟨hsp 9 rfl⟩
        have HVV:Aa (Uv A B Y Z (.agg #[.slice ya.1 ya.2.1 ya.2.2,.slice yb.1 yb.2.1 yb.2.2,.slice yy.1 yy.2.1 yy.2.2,.slice yz.1 yz.2.1 yz.2.2]) w6):=⟨⟨ya,yb,yy,yz,rfl,hat⟩⟩
        have HBf:Aa (Below w.heap.size w w6):=⟨HB.out.trans (hk1.k.bel.mono (by omega))⟩
        obtain⟨g0,g1,g2,g3⟩:=(cells4 hbox).1;clear hsp hk1 hk2 hbox hat;simp only[Am,Nat.reduceAdd];generalize sp 3=y3,sp 6=y6,sp 7=y7,sp 8=y8,sp 9=y9 at *
        go_simp
        go_wp2;exact bodyPost_ret (v:=.tuple #[.agg #[.slice ya.1 ya.2.1 ya.2.2,.slice yb.1 yb.2.1 yb.2.2,.slice yy.1 yy.2.1 yy.2.2,.slice yz.1 yz.2.1 yz.2.2],y9]) (by simp[results,Tryz.results57,go_sem,g0,g1,g2,g3]) rfl ⟨_,_,rfl,HVV.out,HO.out,HBf.out⟩
    .have hm0:((mk:Int)==0)=false:=by rw[beq_eq_false_iff_ne];omega
     have HKD:Aa (Rt Q X MG=ZK):=⟨by rw[HKS.out,if_neg (fun h=>hz0 (hmz.2 h))]⟩
     have HK:=Ab HKZ.out;have HKl:Aa (Ap ZK<=100000):=⟨Dr HZq.out HQf.out⟩
     clear hmz hz0 HKZ;obtain⟨U,hU⟩:∃ZZ,A^ZK%P=ZZ:=⟨_,rfl⟩
     obtain⟨V,hV⟩:∃ZZ,B^ZK%P=ZZ:=⟨_,rfl⟩
     obtain⟨CC,hCC⟩:∃ZZ,Ny P Q A B Y Z U V msg=ZZ:=⟨_,rfl⟩
     obtain⟨MM,hMM⟩:∃ZZ,CC*X%Q=ZZ:=⟨_,rfl⟩
     obtain⟨SS,hSS⟩:∃ZZ,(ZK+MM)%Q=ZZ:=⟨_,rfl⟩
     have HSB:Aa (As CC (Ak Q)++As SS (Ak Q)=SB):=⟨by
      rw[<-HSB0.out];unfold cA sS rU rT;rw[HMGE.out,HKD.out,hU,hV,HYE.out,HZE.out,hCC,hMM,hSS]⟩
     have HUE:=Ab hU;have HVE:=Ab hV;have HCC:=Ab hCC;have HMM:=Ab hMM;have HSS:=Ab hSS;have hlq:=Eu Q;have HUl:Aa (U<P):=⟨by rw[<-hU];exact Nat.mod_lt _ HP0.out⟩
     have HVl:Aa (V<P):=⟨by rw[<-hV];exact Nat.mod_lt _ HP0.out⟩
     have hcq:CC<Q:=by rw[<-hCC];exact Pf HQ0.out
     have hsq:SS<Q:=by rw[<-hSS];exact Nat.mod_lt _ HQ0.out
     have hmq:MM<Q:=by rw[<-hMM];exact Nat.mod_lt _ HQ0.out
     have HCl:Aa (CC<B8 (Ak Q)):=⟨Nat.lt_trans hcq hlq⟩
     have HSl:Aa (SS<B8 (Ak Q)):=⟨Nat.lt_trans hsq hlq⟩
     have HCb:Aa (Ap CC<=100000):=⟨Dr hcq HQf.out⟩
     have HMb:Aa (Ap MM<=100000):=⟨Dr hmq HQf.out⟩
     clear hU hV hCC hMM hSS hlq hcq hsq hmq;go_wp2;refine Aj (by kernel_rfl) (by kernel_rfl)
      [some (.agg #[.slice p0 n0 c0,.slice p1 n1 c1,.slice p2 n2 c2,.slice p3 n3 c3]),some (.agg #[.slice xa.1 xa.2.1 xa.2.2,.slice xb.1 xb.2.1 xb.2.2,.slice xy.1 xy.2.1 xy.2.2,.slice xz.1 xz.2.1 xz.2.2]),some (.agg #[.slice p0 n0 c0,.slice p1 n1 c1,.slice p2 n2 c2,.slice p3 n3 c3]),some (.slice pa na ca),some (.slice qk mk dk),none,some (.agg #[.slice p0 n0 c0,.slice p1 n1 c1,.slice p2 n2 c2,.slice p3 n3 c3]),some (.slice pb nb cb),some (.slice qk mk dk),none,some (.slice pm nm cm),none,none]
      [false,false,false,false,false,true,false,false,false,true,false,true,true] rfl
      (fun w1 w2=>Below w1.heap.size w1 w2)
      (fun _ w'=>Below w4.heap.size w4 w')
      (fun i v w'=>match i with
       | 5=>Ao U v w'
       | 9=>Ao V v w'
       | 11=>Ao CC v w'
       | 12=>Ao CC v w'
       | _=>True)
      ?_ (Bg _ _).drew ?_ ?_
     .intro i v w1 w2 hf hb;split at hf
      .exact hf.below hb
      .exact hf.below hb
      .exact hf.below hb
      .exact hf.below hb
      .trivial
     .simp only[Bc,Nat.reduceAdd];refine⟨?_,?_,?_,?_,?_,?_,?_,?_,?_,?_,?_,?_,?_,trivial⟩
      all_goals intro D sp w' hD hW hdp hbx'
      case refine_1|refine_3|refine_7=>
       have g4:=(cells4 (HBX.out.below hbx' HBX.out.lt).at_).1
       with_reducible refine Ad ?_ ?_
       all_goals simp[Region.wanted,yielded,execOp,Act.eval,Act.put,go_sem,g4.1,g4.2.1,g4.2.2.1,g4.2.2.2]
      case refine_2=>
       have g4:=(cells4 (HC12.out.below hbx' HC12.out.lt).at_).1
       with_reducible refine Ad ?_ ?_
       all_goals simp[Region.wanted,yielded,execOp,Act.eval,Act.put,go_sem,g4.1,g4.2.1,g4.2.2.1,g4.2.2.2]
      case refine_6=>
       (with_reducible refine Ac (w1:=w') (f := 86) (args:=#[.agg #[.slice p0 n0 c0,.slice p1 n1 c1,.slice p2 n2 c2,.slice p3 n3 c3],.slice pa na ca,.slice qk mk dk]) ?_ ?_ ?_)
       .simp[Region.wanted,yielded,Act.put,go_sem]
       .simp[Act.eval,Act.put,go_sem]
       .refine(Gj (HV.out.below hbx') (HA.out.below hbx') (HK.out.below hbx') HAb.out HKl.out HPl.out HP0.out).mono ?_;rintro en w9 ⟨u,rfl,hu,hb⟩;rw[HUE.out]at hu
        exact⟨u,rfl,hb,hu,Ae hbx' hb⟩
      case refine_10=>
       (with_reducible refine Ac (w1:=w') (f := 86) (args:=#[.agg #[.slice p0 n0 c0,.slice p1 n1 c1,.slice p2 n2 c2,.slice p3 n3 c3],.slice pb nb cb,.slice qk mk dk]) ?_ ?_ ?_)
       .simp[Region.wanted,yielded,Act.put,go_sem]
       .simp[Act.eval,Act.put,go_sem]
       .refine(Gj (HV.out.below hbx') (HBB.out.below hbx') (HK.out.below hbx') HBb.out HKl.out HPl.out HP0.out).mono ?_;rintro en w9 ⟨u,rfl,hu,hb⟩;rw[HVE.out]at hu
        exact⟨u,rfl,hb,hu,Ae hbx' hb⟩
      case refine_12=>
       have k5:Ao U (sp 5) w':=(hdp 5 (mq (by kernel_rfl))).2;have k9:Ao V (sp 9) w':=(hdp 9 (mq (by kernel_rfl))).2
       (with_reducible refine Ac (w1:=w') (f := 62) (args:=#[.agg #[.slice p0 n0 c0,.slice p1 n1 c1,.slice p2 n2 c2,.slice p3 n3 c3],.agg #[.slice xa.1 xa.2.1 xa.2.2,.slice xb.1 xb.2.1 xb.2.2,.slice xy.1 xy.2.1 xy.2.2,.slice xz.1 xz.2.1 xz.2.2],sp 5,sp 9,.slice pm nm cm]) ?_ ?_ ?_)
       .simp[Region.wanted,yielded,Act.put,go_sem]
       .simp[Act.eval,Act.put,go_sem]
       .refine(Nn (HV.out.below hbx') (HAT.out.below hbx') k5 k9 HAl.out HBl.out HYl.out HZl.out HUl.out HVl.out HPl.out HQl.out HQ0.out HPf.out (HM.out.below hbx') HZM.out HNM.out).mono ?_;rintro en w9 ⟨u,rfl,hu,hb⟩;rw[HCC.out]at hu
        exact⟨u,rfl,hb,hu,Ae hbx' hb⟩
      case refine_13=>
       have k11:Ao CC (sp 11) w':=(hdp 11 (mq (by kernel_rfl))).2
       (with_reducible refine Af (w1:=w') (v:=sp 11) ?_ ?_ ?_)
       .simp[Region.wanted,yielded,Act.put,go_sem]
       .simp[execOp,Act.eval,Act.put,go_sem]
       .exact⟨Bg _ _,k11,hbx'⟩
      all_goals ((with_reducible refine Ad ?_ ?_);all_goals first|(simp only[Region.wanted];done)|simp[Region.wanted,yielded,execOp,Act.eval,Act.put,go_sem])
     .intro sp w4 hsp hb;obtain⟨qc,mc,dc,ec,hc⟩:Ao CC (sp 12) w4:=hsp 12 rfl;have HC:=Ab (Ao.of hc);clear hsp hc;replace HBX:=Ab (HBX.out.below hb HBX.out.lt);replace HZ0:=Ab ((hb.block _ (Ep HZ0.out).1).trans HZ0.out);replace HA:=Ab (HA.out.below hb);replace HBB:=Ab (HBB.out.below hb);replace HX:=Ab (HX.out.below hb);replace HV:=Ab (HV.out.below hb);replace HM:=Ab (HM.out.below hb);replace HQB:=Ab (HQB.out.below hb);replace HB:=Ab (Ae HB.out hb);replace HC12:=Ab (HC12.out.below hb HC12.out.lt);replace HAT:=Ab (HAT.out.below hb);replace HK:=Ab (HK.out.below hb);clear hb;simp only[Am,Nat.reduceAdd];rw[ec];clear ec;generalize sp 5=y5,sp 9=y9,sp 11=y11 at *
      go_simp
      go_wp2;refine Aj (by kernel_rfl) (by kernel_rfl)
       [some (.slice qk mk dk),some (.slice qc mc dc),some (.slice px nx cx),some (.pointer (some ⟨w.heap.size,1,none⟩)),some (.slice p1 n1 c1),none,some (.pointer (some ⟨w.heap.size,1,none⟩)),some (.slice p1 n1 c1),none,none]
       [false,false,false,false,false,true,false,false,true,true] rfl
       (fun w1 w2=>Below w1.heap.size w1 w2)
       (fun _ w'=>Below w4.heap.size w4 w')
       (fun i v w'=>match i with
        | 5=>Ao MM v w'
        | 8=>Ao SS v w'
        | 9=>Ao SS v w'
        | _=>True)
       ?_ (Bg _ _).drew ?_ ?_
      .intro i v w1 w2 hf hb;split at hf
       .exact hf.below hb
       .exact hf.below hb
       .exact hf.below hb
       .trivial
      .simp only[Bc,Nat.reduceAdd];refine⟨?_,?_,?_,?_,?_,?_,?_,?_,?_,?_,trivial⟩
       all_goals intro D sp w' hD hW hdp hbx'
       case refine_5|refine_8=>
        have g4:=(cells4 (HBX.out.below hbx' HBX.out.lt).at_).1
        with_reducible refine Ad ?_ ?_
        all_goals simp[Region.wanted,yielded,execOp,Act.eval,Act.put,go_sem,g4.2.1]
       case refine_6=>
        (with_reducible refine Ac (w1:=w') (f := 83) (args:=#[.slice qc mc dc,.slice px nx cx,.slice p1 n1 c1]) ?_ ?_ ?_)
        .simp[Region.wanted,yielded,Act.put,go_sem]
        .simp[Act.eval,Act.put,go_sem]
        .refine(Pd (HC.out.below hbx') (HX.out.below hbx') (HQB.out.below hbx') HCb.out HXb.out HQl.out HQ0.out).mono ?_;rintro en w9 ⟨u,rfl,hu,hb⟩;rw[HMM.out]at hu
         exact⟨u,rfl,hb,hu,Ae hbx' hb⟩
       case refine_9=>
        have k5:Ao MM (sp 5) w':=(hdp 5 (mq (by kernel_rfl))).2
        (with_reducible refine Ac (w1:=w') (f := 82) (args:=#[.slice qk mk dk,sp 5,.slice p1 n1 c1]) ?_ ?_ ?_)
        .simp[Region.wanted,yielded,Act.put,go_sem]
        .simp[Act.eval,Act.put,go_sem]
        .refine(bG (HK.out.below hbx') k5 (HQB.out.below hbx') HKl.out HMb.out HQl.out HQ0.out).mono ?_;rintro en w9 ⟨u,rfl,hu,hb⟩;rw[HSS.out]at hu
         exact⟨u,rfl,hb,hu,Ae hbx' hb⟩
       case refine_10=>
        have k8:Ao SS (sp 8) w':=(hdp 8 (mq (by kernel_rfl))).2
        (with_reducible refine Af (w1:=w') (v:=sp 8) ?_ ?_ ?_)
        .simp[Region.wanted,yielded,Act.put,go_sem]
        .simp[execOp,Act.eval,Act.put,go_sem]
        .exact⟨Bg _ _,k8,hbx'⟩
       all_goals ((with_reducible refine Ad ?_ ?_);all_goals first|(simp only[Region.wanted];done)|simp[Region.wanted,yielded,execOp,Act.eval,Act.put,go_sem])
      .intro sp w5 hsp hb;obtain⟨qs,ms,ds,es,hs⟩:Ao SS (sp 9) w5:=hsp 9 rfl;have HS:=Ab (Ao.of hs);clear hsp hs;replace HBX:=Ab (HBX.out.below hb HBX.out.lt);replace HZ0:=Ab ((hb.block _ (Ep HZ0.out).1).trans HZ0.out);replace HA:=Ab (HA.out.below hb);replace HBB:=Ab (HBB.out.below hb);replace HX:=Ab (HX.out.below hb);replace HV:=Ab (HV.out.below hb);replace HM:=Ab (HM.out.below hb);replace HQB:=Ab (HQB.out.below hb);replace HB:=Ab (Ae HB.out hb);replace HC12:=Ab (HC12.out.below hb HC12.out.lt);replace HAT:=Ab (HAT.out.below hb);replace HC:=Ab (HC.out.below hb);clear hb;have hWS:(w.heap.size+1)<w5.heap.size:=(Ep HZ0.out).1;have HSZ:Aa (∀ {w':World},KT 87 (w.heap.size+1) w5 w'->(w.heap.size+1)<=w'.heap.size):=⟨fun k=>by have h1:=k.k.bel.size;omega⟩
       have hKB:Aa (∀w',KT 87 (w.heap.size+1) w5 w'->w'.heap[w.heap.size]? = some (.cells #[.slice p0 n0 c0,.slice p1 n1 c1,.slice p2 n2 c2,.slice p3 n3 c3] 30 (0,0))):=⟨fun w' k=>k.blk _ _ _ _ HBX.out.at_ (.inl (by decide))⟩
       have hV5:=HV.out;have HV8:Aa (∀w',KT 87 (w.heap.size+1) w5 w'->Df P Q G H (.agg #[.slice p0 n0 c0,.slice p1 n1 c1,.slice p2 n2 c2,.slice p3 n3 c3]) w'):=⟨fun w' k=>hV5.kt k⟩
       have hC12:=HC12.out.at_
       clear hV5 hWS;simp only[Am,Nat.reduceAdd];rw[es];clear es;generalize sp 5=y5,sp 8=y8 at *
       go_simp
       have HCW:=Ab hC12;clear hC12;go_wp2;refine Aj (by kernel_rfl) (by kernel_rfl)
        [some (.agg #[.slice xa.1 xa.2.1 xa.2.2,.slice xb.1 xb.2.1 xb.2.2,.slice xy.1 xy.2.1 xy.2.2,.slice xz.1 xz.2.1 xz.2.2]),some (.agg #[.slice p0 n0 c0,.slice p1 n1 c1,.slice p2 n2 c2,.slice p3 n3 c3]),some (.slice qc mc dc),none,some (.agg #[.slice p0 n0 c0,.slice p1 n1 c1,.slice p2 n2 c2,.slice p3 n3 c3]),some (.slice qs ms ds),none,none,none,none]
        [false,false,false,true,false,false,true,true,true,true] rfl
        (fun w1 w2=>KT 87 (w.heap.size+1) w1 w2)
        (fun D w'=>KT 87 (w.heap.size+1) w5 w'/\Oh (D 8) (w.heap.size+1) (z4 87) (Uw A B Y Z) w'/\w'.heap[b12]? = some (.cells #[.slice xa.1 xa.2.1 xa.2.2,.slice xb.1 xb.2.1 xb.2.2,.slice xy.1 xy.2.1 xy.2.2,.slice xz.1 xz.2.1 xz.2.2] 87 (0,0)))
        (fun i v w'=>match i with
         | 3=>Gt (Ak Q) (As CC (Ak Q)) v w'
         | 6=>Gt (Ak Q) (As SS (Ak Q)) v w'
         | 7=>Bh 0 SB v w'
         | 8=>True
         | 9=>Bh 0 SB v w'
         | _=>True)
        ?_ ⟨KT.drew _ _ _,Oh.start HZ0.out,HCW.out⟩ ?_ ?_
       .intro i v w1 w2 hf hb;split at hf
        .exact hf.kt hb
        .exact hf.kt hb
        .exact hf.kt hb
        .exact hf
        .exact hf.kt hb
        .trivial
       .simp only[Bc,Nat.reduceAdd];refine⟨?_,?_,?_,?_,?_,?_,?_,?_,?_,?_,trivial⟩
        all_goals intro D sp w' hD hW hdp hbx'
        case refine_1=>
         have g4:=(cells4 hbx'.2.2).1
         with_reducible refine Ad ?_ ?_
         all_goals simp[Region.wanted,yielded,execOp,Act.eval,Act.put,go_sem,g4.1,g4.2.1,g4.2.2.1,g4.2.2.2]
        case refine_2|refine_5=>
         have g4:=(cells4 (hKB.out w' hbx'.1)).1
         with_reducible refine Ad ?_ ?_
         all_goals simp[Region.wanted,yielded,execOp,Act.eval,Act.put,go_sem,g4.1,g4.2.1,g4.2.2.1,g4.2.2.2]
        case refine_4=>
         (with_reducible refine Ac (w1:=w') (f := 48) (args:=#[.agg #[.slice p0 n0 c0,.slice p1 n1 c1,.slice p2 n2 c2,.slice p3 n3 c3],.slice qc mc dc]) ?_ ?_ ?_)
         .simp[Region.wanted,yielded,Act.put,go_sem]
         .simp[Act.eval,Act.put,go_sem]
         .refine(Gq (HV8.out w' hbx'.1) (HC.out.kt hbx'.1) HQl.out HQf.out (HCl.out)).mono ?_;rintro en w9 ⟨g9,rfl,hu,_,hb⟩;exact⟨_,rfl,KT.of hb (HSZ.out hbx'.1),⟨g9,rfl,hu⟩,⟨hbx'.1.trans (KT.of hb (HSZ.out hbx'.1)),by simpa [upd]using hbx'.2.1.later hb (fun o h=>h.below hb),by rw[hb.block _ (Ep hbx'.2.2).1];exact hbx'.2.2⟩⟩
        case refine_7=>
         (with_reducible refine Ac (w1:=w') (f := 48) (args:=#[.agg #[.slice p0 n0 c0,.slice p1 n1 c1,.slice p2 n2 c2,.slice p3 n3 c3],.slice qs ms ds]) ?_ ?_ ?_)
         .simp[Region.wanted,yielded,Act.put,go_sem]
         .simp[Act.eval,Act.put,go_sem]
         .refine(Gq (HV8.out w' hbx'.1) (HS.out.kt hbx'.1) HQl.out HQf.out (HSl.out)).mono ?_;rintro en w9 ⟨g9,rfl,hu,_,hb⟩;exact⟨_,rfl,KT.of hb (HSZ.out hbx'.1),⟨g9,rfl,hu⟩,⟨hbx'.1.trans (KT.of hb (HSZ.out hbx'.1)),by simpa [upd]using hbx'.2.1.later hb (fun o h=>h.below hb),by rw[hb.block _ (Ep hbx'.2.2).1];exact hbx'.2.2⟩⟩
        case refine_8=>
         have hxa:∃g,sp 3=.slice (some ⟨g,0,none⟩) (Ak Q) (Ak Q)/\Bl w' g 5 .u8 (As CC (Ak Q)):=(hdp 3 (mq (by kernel_rfl))).2
         (with_reducible refine Aw hxa fun ga ha1=>?_)
         have ea:=ha1.1;have hxb:∃g,sp 6=.slice (some ⟨g,0,none⟩) (Ak Q) (Ak Q)/\Bl w' g 5 .u8 (As SS (Ak Q)):=(hdp 6 (mq (by kernel_rfl))).2
         (with_reducible refine Aw hxb fun gb hb1=>?_)
         have eb:=hb1.1
         (with_reducible refine Op (n:=Ak Q) ha1.2 (Bq _ _).symm (Gr hb1.2 HQk2.out).row HWp.out (show Ak Q+Ak Q<=140737488355328 by have:=HQf.out;omega) 60 (fun v' w5 hr ho hb=>?_))
         (with_reducible refine Af (v:=v') (w1:=w5) ?_ ?_ ?_)
         .simp only[Region.wanted]
         .simp[execOp,resolve,invoke,builtin,Act.eval,Act.put,ea,eb,hr,Result.andThen]
         .have h9:=(Bh.mk ho).zero;rw[HSB.out]at h9
          exact⟨KT.of hb (HSZ.out hbx'.1),h9,⟨hbx'.1.trans (KT.of hb (HSZ.out hbx'.1)),by simpa [upd]using hbx'.2.1.later hb (fun o h=>h.below hb),by rw[hb.block _ (Ep hbx'.2.2).1];exact hbx'.2.2⟩⟩
        case refine_9=>
         rw[hD]at hbx'
         have g0:=(cells4 hbx'.2.2).1;have h6:w'.heap[(w.heap.size+1)]? = some (.cells #[.slice none 0 0,.slice none 0 0,.slice none 0 0,.slice none 0 0] 87 (0,0)):=hbx'.2.1.1 rfl;have hp:=put4 (u0:=.slice xa.1 xa.2.1 xa.2.2) (u1:=.slice xb.1 xb.2.1 xb.2.2) (u2:=.slice xy.1 xy.2.1 xy.2.2) (u3:=.slice xz.1 xz.2.1 xz.2.2) h6;have hkt:=hp.kt h6 (Jd (none,0,0) (none,0,0) (none,0,0) (none,0,0)) (Av _);have g6:=cells4 h6
         (with_reducible refine An (w1:=Ja w' (w.heap.size+1) (.slice xa.1 xa.2.1 xa.2.2) (.slice xb.1 xb.2.1 xb.2.2) (.slice xy.1 xy.2.1 xy.2.2) (.slice xz.1 xz.2.1 xz.2.2)) ?_ ?_ ?_)
         .simp only[Region.wanted]
         .simp[execOp,Act.eval,Act.put,go_sem,g6.1.1,g6.1.2.1,g6.1.2.2.1,g6.1.2.2.2,g6.2.1,g6.2.2.1,g6.2.2.2.1,g6.2.2.2.2,Ja]
         .refine⟨hkt,trivial,hbx'.1.trans hkt,?_,by rw[hp.old _ HNE.out];exact hbx'.2.2⟩;have h8:Oh true (w.heap.size+1) (z4 87) (Uw A B Y Z) _:=Oh.done hp.new ⟨xa,xb,xy,xz,rfl,(HAT.out.kt hbx'.1).kt hkt⟩;simpa [upd]using h8
        case refine_10=>
         have k7:Bh 0 SB (sp 7) w':=(hdp 7 (mq (by kernel_rfl))).2
         (with_reducible refine Af (w1:=w') (v:=sp 7) ?_ ?_ ?_)
         .simp only[Region.wanted]
         .simp[execOp,Act.eval,Act.put,go_sem]
         .exact⟨KT.same _ _ _,k7,by simpa [upd]using hbx'⟩
        all_goals ((with_reducible refine Ad ?_ ?_);all_goals first|(simp only[Region.wanted];done)|simp[Region.wanted,yielded,execOp,Act.eval,Act.put,go_sem])
       .intro sp w6 hsp hk;obtain⟨hk1,hk2,_⟩:=hk;obtain⟨_,hbox,ya,yb,yy,yz,rfl,hat⟩:=hk2.2 rfl;have HO:Aa (Bh 0 SB (sp 9) w6):=⟨hsp 9 rfl⟩
        have HVV:Aa (Uv A B Y Z (.agg #[.slice ya.1 ya.2.1 ya.2.2,.slice yb.1 yb.2.1 yb.2.2,.slice yy.1 yy.2.1 yy.2.2,.slice yz.1 yz.2.1 yz.2.2]) w6):=⟨⟨ya,yb,yy,yz,rfl,hat⟩⟩
        have HBf:Aa (Below w.heap.size w w6):=⟨HB.out.trans (hk1.k.bel.mono (by omega))⟩
        obtain⟨g0,g1,g2,g3⟩:=(cells4 hbox).1;clear hsp hk1 hk2 hbox hat;simp only[Am,Nat.reduceAdd];generalize sp 3=y3,sp 6=y6,sp 7=y7,sp 8=y8,sp 9=y9 at *
        go_simp
        go_wp2;exact bodyPost_ret (v:=.tuple #[.agg #[.slice ya.1 ya.2.1 ya.2.2,.slice yb.1 yb.2.1 yb.2.2,.slice yy.1 yy.2.1 yy.2.2,.slice yz.1 yz.2.1 yz.2.2],y9]) (by simp[results,Tryz.results57,go_sem,g0,g1,g2,g3]) rfl ⟨_,_,rfl,HVV.out,HO.out,HBf.out⟩
end Go.Proofs.YthgoeiegdhphjaaGreatDoor
