/- The second base, of the program. -/
import Derived.Test.YtokhckjemidbpaaGreatDoorGqD
set_option maxRecDepth 1000000
set_option maxHeartbeats 16000000
set_option linter.all false
namespace Go.Proofs.YtokhckjemidbpaaGreatDoor
open Go Go.RowKit Go.Proofs.YtokhckjemidbpaaGreatDoor.Flow
theorem dD {a b:Nat}(h:a<=b):Bp a b<=0:=by
 rcases Nat.lt_or_ge a b with h1|h1
 .rw[Dp h1];decide
 .rw[Nat.le_antisymm h h1,Kb];decide
theorem Ux (f:Nat->Nat){j:Nat}(hj:j<256):Dw f (256-j) j=if 1<f j then some (f j) else Dw f (256-(j+1)) (j+1):=by
 rw[show 256-j=(256-(j+1))+1 by omega];rfl
theorem Uf (w:World):Bu w ⟨Option.none,0,0,[]⟩:=⟨⟨rfl,Av _,(by decide:(0:Nat)<=9223372036854775807),fun h=>absurd h (Nat.lt_irrefl 0)⟩,fun x hx=>by cases hx⟩
theorem Rl {f P:Nat}(hf:f<=32)(h:P<Al f):Ao P<=128:=Hj.2 (Dk h (by rw[<-Kf];exact Fr (by omega)))
theorem aJ {P:Nat}(h:2<=P):1<=Ao P:=by
 rcases Nat.eq_zero_or_pos (Ao P) with h0|h0
 .have:=Jm P;rw[h0,Gs]at this;omega
 .exact h0
theorem Vf {w:World}{r f P c:Nat}{ps:Option Addr}{ns cs:Nat}{seed:List Nat}(hT:Tabs w)(hR:Ring w r P f)(hf:f<=32)(hS:Bu w ⟨ps,ns,cs,seed⟩)(hc:c<256) :
  Calls Tryz.prog 183 #[.pointer (some ⟨r,0,none⟩),.slice ps ns cs,.int .u8 (c:Nat)] w fun en w'=>∃u,en=.returned u/\Fit f (Ek seed P c%P) u w'/\Below w.heap.size w w':=by
 have hb1:=Ae.made w (.slice none 0 0);have hbel:Below w.heap.size w (w.alloc (.cells #[.slice none 0 0] 37)):=By;obtain⟨wa,hwa⟩:∃wa,w.alloc (.cells #[.slice none 0 0] 37)=wa:=⟨_,rfl⟩
 rw[hwa]at hb1 hbel
 have HBX:=Ac hb1;have HB:=Ac hbel;have HR:=Ac hR;have HT:=Ac hT;have HS:=Ac hS;have hR2:=Ac hR.two;obtain⟨bs,hbs,hlen,h8,hval⟩:=cQ seed P c;have hs1:=Rl hf hR.lim;have hs2:=aJ hR.two;obtain⟨VAL,hVAL⟩:∃V,Ek seed P c=V:=⟨_,rfl⟩
 rw[hVAL]at hval ⊢
 obtain⟨sz,hsz⟩:∃s,Ao P=s:=⟨_,rfl⟩
 rw[hsz]at hbs hlen hval hs1 hs2
 obtain⟨n8,hn8⟩:∃n,8+sz=n:=⟨_,rfl⟩
 rw[hn8]at hbs hlen
 have HSZ:Aa (Ao P=sz):=⟨hsz⟩
 have HBS:=Ac hbs;have HLEN:=Ac hlen;have H8:=Ac h8;have HVAL:=Ac hval;have HN8:=Ac hn8;clear hVAL hbs hlen h8 hval hsz hT hR hS hb1 hbel;go_enter Tryz.func183,Tryz.ntmps183
 go_wp2_with fail
 refine(Dj (HR.out.below HB.out)).mono ?_;rintro en w1 ⟨x,rfl,hx,hb1⟩;have HX:=Ac hx;have HB1:=Ac (Ab HB.out hb1);have HBX1:=Ac (HBX.out.below hb1 HBX.out.lt);clear hx hb1 HBX
 go_wp2_with fail
 refine(Nr HX.out (by omega)).mono ?_;rintro en w2 ⟨rfl,hb2⟩;rw[HSZ.out];have hni:(8:Int)+(sz:Int)=(n8:Int):=by have:=HN8.out;omega
 have hrow:=Yi w2 [104,c] (by simp);have hb3:Below w2.heap.size w2 (w2.alloc (.cells #[.int .u8 (104:Nat),.int .u8 (c:Nat)] 5)):=By;have hrow':Bb (w2.alloc (.cells #[.int .u8 (104:Nat),.int .u8 (c:Nat)] 5)) .u8 (some ⟨w2.heap.size,0,none⟩) 2 2 [104,c]:=hrow;obtain⟨w3,hw3⟩:∃wd,w2.alloc (.cells #[.int .u8 (104:Nat),.int .u8 (c:Nat)] 5)=wd:=⟨_,rfl⟩
 rw[hw3]at hb3 hrow'
 have hw3':w2.alloc (.cells #[.int .u8 104,.int .u8 (c:Nat)] 5)=w3:=hw3;have HI:Aa (Bu w3 ⟨some ⟨w2.heap.size,0,none⟩,2,2,[104,c]⟩):=⟨⟨hrow',fun x hx=>by simp at hx;omega⟩⟩
 have HB3:=Ac (Ab HB1.out (Ab hb2 hb3));have HBX3:=Ac (HBX1.out.below (Ab hb2 hb3) HBX1.out.lt);clear hrow hrow' hb2 hb3 hw3 HBX1
 go_wp2_with fail
 refine(Ss w3 none 0 0 [] ps ns cs seed (some ⟨w2.heap.size,0,none⟩) 2 2 [104,c] n8 (HT.out.below HB3.out HT.out.size) (Uf w3) (HS.out.below HB3.out) HI.out (by omega)).mono ?_;rintro en w4 ⟨p,rfl,hr4,_,hb4,hz4⟩;rw[HBS.out]at hr4
 obtain⟨g,off,rfl,hg⟩:∃g off,p=some ⟨g,off,none⟩/\True:=by
  obtain⟨b',off',e,_⟩:=(hr4.row (by omega)).pos (by omega);exact⟨b',off',e,trivial⟩
 have HR4:=Ac hr4;have HB4:=Ac (Ab HB3.out hb4);have HBX4:=Ac (HBX3.out.below hb4 HBX3.out.lt);clear hr4 hb4 hz4 hg HBX3
 go_wp2_with fail
 refine(Cq w4 _ 8 n8 (bs.take 8) (HR4.out.take 8 (by omega)) (H8.out.take 8) (by omega)).mono ?_;rintro en w5 ⟨q,m,d,rfl,hq,hb5,_⟩;have hb6:Below w5.heap.size w5 (w5.alloc (.cells #[.slice q m d] 37)):=By;have hX6:=Ae.made w5 (.slice q m d);obtain⟨w6,hw6⟩:∃wd,w5.alloc (.cells #[.slice q m d] 37)=wd:=⟨_,rfl⟩
 rw[hw6]at hb6 hX6
 have hb46:=Ab hb5 hb6;have HHI:=Ac (hq.below hb6);have HX6:=Ac hX6;have HB6:=Ac (Ab HB4.out hb46);have HBX6:=Ac (HBX4.out.below hb46 HBX4.out.lt);have HLT5:Aa (w.heap.size+1<=w5.heap.size):=⟨Dk HBX4.out.lt hb5.size⟩
 have HR6:=Ac (HR4.out.below hb46);clear hq hb5 hb6 hX6 hb46 HBX4 HR4 HB4
 go_wp2_with fail
 refine(Cq w6 _ (n8-8) (n8-8) (bs.drop 8) (Ye HR6.out 8 (by omega) _ fun _=>⟨g,off,rfl,rfl⟩) (fun x hx=>H8.out x (List.mem_of_mem_drop hx)) (by omega)).mono ?_;rintro en w7 ⟨q2,m2,d2,rfl,hq2,hb7,_⟩;have hb8:Below w7.heap.size w7 (w7.alloc (.cells #[.slice q2 m2 d2] 37)):=By;have hX8:=Ae.made w7 (.slice q2 m2 d2);obtain⟨w8,hw8⟩:∃wd,w7.alloc (.cells #[.slice q2 m2 d2] 37)=wd:=⟨_,rfl⟩
 rw[hw8]at hb8 hX8
 have hb68:=Ab hb7 hb8;have HLO:=Ac (hq2.below hb8);have HX8:=Ac hX8;have HX68:=Ac (HX6.out.below hb68 HX6.out.lt);have HHI8:=Ac (HHI.out.below hb68);have HB8:=Ac (Ab HB6.out hb68);have HBX8:=Ac (HBX6.out.below hb68 HBX6.out.lt);have HLT7:Aa (w5.heap.size+1<=w7.heap.size):=⟨Dk HX6.out.lt hb7.size⟩
 clear hq2 hb7 hb8 hX8 hb68 HBX6 HR6 HB6 HHI HX6
 go_wp2_with fail
 refine(Cm (n:=256) w8 (by decide)).mono ?_;rintro en w9 ⟨v9,rfl,h9,hb9⟩;have H9:=Ac h9;have HB9:=Ac hb9;clear h9 hb9
 go_wp2_with fail
 refine(Cm (n:=sz) w9 (by omega)).mono ?_;rintro en w10 ⟨v10,rfl,h10,hb10⟩;have H10:=Ac h10;have H9':=Ac (H9.out.below hb10);have HB10:=Ac (Ab HB9.out hb10);clear h10 hb10
 go_wp2_with fail
 refine(Iw (HR.out.below (Ab HB8.out HB10.out)) H9'.out H10.out (by decide) (by decide)).mono ?_;rintro en w11 ⟨_,rfl,⟨q3,m3,d3,rfl,hq3,lq3⟩,hb11⟩;have hb12:Below w11.heap.size w11 (w11.alloc (.cells #[.slice q3 m3 d3] 37)):=By;have hX12:=Ae.made w11 (.slice q3 m3 d3);obtain⟨w12,hw12⟩:∃wd,w11.alloc (.cells #[.slice q3 m3 d3] 37)=wd:=⟨_,rfl⟩
 rw[hw12]at hb12 hX12
 have hb812:=Ab HB10.out (Ab hb11 hb12);have hP2:=hR2.out;have HUP:Aa (Fit f (256^sz%P) (.agg #[.slice q3 m3 d3]) w12):=⟨Fit.of (hq3.below hb12) lq3⟩
 have HX12:=Ac hX12;have HX812:=Ac (HX8.out.below hb812 HX8.out.lt);have HX612:=Ac (HX68.out.below hb812 HX68.out.lt);have HHI12:Aa (Fit 2 (be (bs.take 8)) (.agg #[.slice q m d]) w12):=⟨Fit.of (HHI8.out.below hb812) (by
  have:=(H8.out.take 8).reverse.lt;rw[List.length_reverse,List.length_take,Nat.min_eq_left (by have:=HLEN.out;omega)]at this
  exact Dk this (by decide))⟩
 have HLO12:Aa (Fit 32 (be (bs.drop 8)) (.agg #[.slice q2 m2 d2]) w12):=⟨Fit.of (HLO.out.below hb812) (by
  have hd:Au (bs.drop 8):=fun x hx=>H8.out x (List.mem_of_mem_drop hx)
  have:=hd.reverse.lt;rw[List.length_reverse,List.length_drop]at this
  exact Dk this (by rw[<-Kf];exact Fr (by have:=HLEN.out;omega)))⟩
 have HR12:=Ac (HR.out.below (Ab HB8.out hb812));have HB12:=Ac (Ab HB8.out hb812);have HBX12:=Ac (HBX8.out.below hb812 HBX8.out.lt);have HNE:Aa (∀g∈([(w5.heap.size,.cells #[.slice q m d] 37 (0,0)),(w7.heap.size,.cells #[.slice q2 m2 d2] 37 (0,0)),(w11.heap.size,.cells #[.slice q3 m3 d3] 37 (0,0))]:List (Nat×Obj)),g.1≠w.heap.size):=⟨List.forall_mem_cons.2 ⟨by simp only;have:=HLT5.out;omega,List.forall_mem_cons.2 ⟨by simp only;have:=HLT5.out;have:=HLT7.out;omega,List.forall_mem_cons.2 ⟨by simp only;have:=HLT5.out;have:=HB12.out.size;have:=HX8.out.lt;have:=HB10.out.size;have:=hb11.size;have:=HLT7.out;omega,fun g hx=>by cases hx⟩⟩⟩⟩
 have HRL:Aa (r<w.heap.size):=⟨HR.out.at_.lt⟩
 have HLV:Aa (VAL%P<Al f):=⟨Nat.lt_trans (Nat.mod_lt _ (by omega)) HR.out.lim⟩
 have HAD:Aa ((be (bs.take 8)*(256^sz%P)%P+be (bs.drop 8))%P=VAL%P):=⟨by rw[fH,HVAL.out]⟩
 clear hq3 lq3 hb11 hb12 hX12 hb812 hP2 HB9 HB10 HHI8 HLO HX8 HX68 HBX8 HB8 H9 H9' H10;go_wp2;refine Am (by kernel_rfl) (by kernel_rfl)
  [some (.pointer (some ⟨r,0,none⟩)),some (.pointer (some ⟨r,0,none⟩)),some (.agg #[.slice q m d]),some (.agg #[.slice q3 m3 d3]),none,some (.agg #[.slice q2 m2 d2]),none,none]
  [false,false,false,false,true,false,true,true] rfl
  (fun w1 w2=>Ap (w.heap.size) w1 w2)
  (fun D sp w'=>RG (w.heap.size) w12 [(w5.heap.size,.cells #[.slice q m d] 37 (0,0)),(w7.heap.size,.cells #[.slice q2 m2 d2] 37 (0,0)),(w11.heap.size,.cells #[.slice q3 m3 d3] 37 (0,0))] w'/\Yn (D 7) (w.heap.size) (VAL%P) w')
  (fun i v w'=>match i with
   | 4=>Fit f (be (bs.take 8)*(256^sz%P)%P) v w'
   | 6=>Fit f (VAL%P) v w'
   | _=>True)
  ?_ ⟨RG.start HB12.out.size (List.forall_mem_cons.2 ⟨HX612.out,List.forall_mem_cons.2 ⟨HX812.out,List.forall_mem_cons.2 ⟨HX12.out,fun g hx=>by cases hx⟩⟩⟩),Yn.fresh HBX12.out⟩ ?_ ?_
 .intro i v w1 w2 hf hb;split at hf
  .exact hf.keep hb
  .exact hf.keep hb
  .trivial
 .simp only[Bg,Nat.reduceAdd];refine⟨?_,?_,?_,?_,?_,?_,?_,?_,trivial⟩
  all_goals intro D sp w' hD hW hdp hg
  case refine_3=>
   have c0:w'.cell? ⟨w5.heap.size,0,none⟩=some (.slice q m d):=Ae.cell (hg.1.of List.mem_cons_self)
   with_reducible refine Ag ?_ ?_
   all_goals simp[Region.wanted,yielded,execOp,Act.eval,Act.put,go_sem,c0]
  case refine_4=>
   have c0:w'.cell? ⟨w11.heap.size,0,none⟩=some (.slice q3 m3 d3):=Ae.cell (hg.1.of (List.mem_cons_of_mem _ (List.mem_cons_of_mem _ List.mem_cons_self)))
   with_reducible refine Ag ?_ ?_
   all_goals simp[Region.wanted,yielded,execOp,Act.eval,Act.put,go_sem,c0]
  case refine_5=>
   (with_reducible refine Ad (w1:=w') (f := 33) (args:=#[.pointer (some ⟨r,0,none⟩),.agg #[.slice q m d],.agg #[.slice q3 m3 d3]]) ?_ ?_ ?_)
   .simp[Region.wanted,yielded,Act.put,go_sem]
   .simp[Act.eval,Act.put,go_sem]
   .refine(Fy (HR12.out.keep HRL.out hg.1.keep) (HHI12.out.keep hg.1.keep) (HUP.out.keep hg.1.keep) (by decide) (by omega)).mono ?_;rintro en w9 ⟨u,rfl,hu,hb⟩;exact⟨u,rfl,Ap.of hb hg.1.base,hu,hg.1.later hb,by simpa [upd]using hg.2.later hb⟩
  case refine_6=>
   have c0:w'.cell? ⟨w7.heap.size,0,none⟩=some (.slice q2 m2 d2):=Ae.cell (hg.1.of (List.mem_cons_of_mem _ List.mem_cons_self))
   with_reducible refine Ag ?_ ?_
   all_goals simp[Region.wanted,yielded,execOp,Act.eval,Act.put,go_sem,c0]
  case refine_7=>
   have k4:Fit f (be (bs.take 8)*(256^sz%P)%P) (sp 4) w':=(hdp 4 (mq (by kernel_rfl))).2
   (with_reducible refine Ad (w1:=w') (f := 32) (args:=#[.pointer (some ⟨r,0,none⟩),sp 4,.agg #[.slice q2 m2 d2]]) ?_ ?_ ?_)
   .simp[Region.wanted,yielded,Act.put,go_sem]
   .simp[Act.eval,Act.put,go_sem]
   .refine(Ow (HR12.out.keep HRL.out hg.1.keep) k4 (HLO12.out.keep hg.1.keep) (by omega) (by decide)).mono ?_;rintro en w9 ⟨u,rfl,hu,hb⟩;rw[HAD.out]at hu
    exact⟨u,rfl,Ap.of hb hg.1.base,hu,hg.1.later hb,by simpa [upd]using hg.2.later hb⟩
  case refine_8=>
   have hx:∃p n c,sp 6=.agg #[.slice p n c]/\Ah w' p n c (VAL%P)/\VAL%P<Al (f):=(hdp 6 (mq (by kernel_rfl))).2
   (with_reducible refine Bc hx fun p hx1=>Bc hx1 fun n hx2=>Bc hx2 fun c hx3=>?_)
   have h1:=hx3.1;have hp:=hg.2.put (hx3.2.1)
   (with_reducible refine Bc hp fun q hy1=>Bc hy1 fun m hy2=>Bc hy2 fun k hy3=>?_)
   have h6:=hy3.1.cell;have h7:=hy3.1.free
   (with_reducible refine Aq (w1:=w'.setCell ⟨w.heap.size,0,none⟩ (.slice p n c)) ?_ ?_ ?_)
   .simp[Region.wanted,yielded,Act.put,go_sem]
   .simp[execOp,Act.eval,Act.put,go_sem,h1,h6,h7]
   .refine⟨Ap.store hy3.1 (Av _) _,trivial,hg.1.store hy3.1 (Av _) HNE.out _,?_⟩;have h8:=hy3.2;simpa [upd]using h8
  all_goals ((with_reducible refine Ag ?_ ?_);all_goals first|(simp only[Region.wanted];done)|simp[Region.wanted,yielded,execOp,Act.eval,Act.put,go_sem])
 .intro sp w13 hsp hg;obtain⟨hg1,pz,nz,cz,hz1,hz2⟩:=hg;have kz:=hz1.cell;have HZ:=Ac (hz2 rfl);have HE:=Ac (HB12.out.trans hg1.keep.bel);clear hsp hg1 hz1 hz2;simp only[Ak,Nat.reduceAdd];generalize sp 4=y4,sp 6=y6,sp 7=y7 at *
  go_simp
  go_wp2;exact bodyPost_ret (v:=.agg #[.slice pz nz cz]) (by simp[results,Tryz.results183,go_sem,kz]) rfl ⟨_,rfl,Fit.of HZ.out HLV.out,HE.out⟩
theorem RG.trans {B:Nat}{w1 w2 w3:World}{l:List (Nat×Obj)}(h:RG B w1 l w2)(k:RG B w2 l w3):RG B w1 l w3:=⟨h.keep.trans k.keep,k.base,k.blk⟩
theorem Wh {w:World}{e r f P Q:Nat}{x y z:Option Addr×Nat×Nat}{ps:Option Addr}{ns cs:Nat}{seed:List Nat}(hT:Tabs w)(hr:Ring w r P f)(hf:f<=32)(hP0:Br w x P)(lP:P<Al e)(hQ0:Br w y Q)(lQ:Q<Al e)(h1:1<=P)(h2:1<=Q)(hS:Bu w ⟨ps,ns,cs,seed⟩)(he:e<=32) :
  Calls Tryz.prog 128 #[.agg #[.slice x.1 x.2.1 x.2.2,.slice y.1 y.2.1 y.2.2,.slice z.1 z.2.1 z.2.2,.slice ps ns cs],.pointer (some ⟨r,0,none⟩)] w fun en w'=>∃p n c k,en=.returned (.tuple #[.agg #[.slice p n c],.int .i64 k])/\Below w.heap.size w w' /\
   (∀h,Dw (fun c=>Ek seed P c^((P-1)/Q)%P) 256 0=some h->k=0/\Ah w' p n c h/\h<Al f)/\(Dw (fun c=>Ek seed P c^((P-1)/Q)%P) 256 0=none->k=6):=by
 have hX0:=Cr.made 118 w (.slice x.1 x.2.1 x.2.2) (.slice y.1 y.2.1 y.2.2) (.slice z.1 z.2.1 z.2.2) (.slice ps ns cs);have hb0:Below w.heap.size w (w.alloc (.cells #[.slice x.1 x.2.1 x.2.2,.slice y.1 y.2.1 y.2.2,.slice z.1 z.2.1 z.2.2,.slice ps ns cs] 118)):=By;have hsz:(w.alloc (.cells #[.slice x.1 x.2.1 x.2.2,.slice y.1 y.2.1 y.2.2,.slice z.1 z.2.1 z.2.2,.slice ps ns cs] 118)).heap.size=w.heap.size+1:=by simp
 obtain⟨wz,hwz⟩:∃wz,w.alloc (.cells #[.slice x.1 x.2.1 x.2.2,.slice y.1 y.2.1 y.2.2,.slice z.1 z.2.1 z.2.2,.slice ps ns cs] 118)=wz:=⟨_,rfl⟩
 rw[hwz]at hX0 hb0 hsz
 have hR0:=Ae.made wz (.slice none 0 0);have hba:Below wz.heap.size wz (wz.alloc (.cells #[.slice none 0 0] 37)):=By;obtain⟨wa,hwa⟩:∃wa,wz.alloc (.cells #[.slice none 0 0] 37)=wa:=⟨_,rfl⟩
 rw[hwa]at hR0 hba
 have hX1:=hX0.below hba hX0.lt;rw[hsz]at hR0
 have hbel:=Ab hb0 hba;have HX:=Ac hX1;have HRB:=Ac hR0;have HB:=Ac hbel;have HSZ:Aa (w.heap.size+1+1<=wa.heap.size):=⟨hR0.lt⟩
 have hP:Br wa x P:=Ah.below hP0 hbel;have hQ:Br wa y Q:=Ah.below hQ0 hbel;have HT:=Ac hT;have HSw:=Ac hS;have HR:=Ac (hr.below hbel);have HRL:Aa (r<w.heap.size):=⟨hr.at_.lt⟩
 have HTl:=Ac hT.size;have HP2:=Ac hr.two;have HPf:=Ac hr.lim;obtain⟨FH,hFH⟩:∃X,Dw (fun c=>Ek seed P c^((P-1)/Q)%P) 256 0=X:=⟨_,rfl⟩
 have HFH:=Ac hFH;rw[hFH];clear hFH hX0 hX1 hR0 hb0 hba hbel hr hP0 hQ0 hT hS;go_enter Tryz.func128,Tryz.ntmps128;have cw:=HX.out.cells.1;have cx:=HX.out.cells.2.1;have cy:=HX.out.cells.2.2.1;have cz:=HX.out.cells.2.2.2
 go_wp2_with fail
 refine(Qz (x:=x) (y:=y) (z:=z) hP lP hQ lQ h1 h2 he).mono ?_;rintro en w3 ⟨_,rfl,⟨p5,n5,c5,rfl,hn5,ln5⟩,hb3⟩;have hb4:Below w3.heap.size w3 (w3.alloc (.cells #[.slice p5 n5 c5] 37)):=By;have hX4:=Ae.made w3 (.slice p5 n5 c5);obtain⟨w4,hw4⟩:∃w4,w3.alloc (.cells #[.slice p5 n5 c5] 37)=w4:=⟨_,rfl⟩
 rw[hw4]at hb4 hX4
 have hb14:=Ab hb3 hb4;have HTI:Aa (Fit e ((P-1)/Q) (.agg #[.slice p5 n5 c5]) w4):=⟨(Fit.of hn5 ln5).below hb4⟩
 have HS3:Aa (wa.heap.size<=w3.heap.size):=⟨hb3.size⟩
 have HB4:=Ac (Ab HB.out hb14);have HK4:Aa (RG w.heap.size w4 [(w.heap.size,.cells #[.slice x.1 x.2.1 x.2.2,.slice y.1 y.2.1 y.2.2,.slice z.1 z.2.1 z.2.2,.slice ps ns cs] 118 (0,0)),(w.heap.size+1,.cells #[.slice none 0 0] 37 (0,0)),(w3.heap.size,.cells #[.slice p5 n5 c5] 37 (0,0))] w4):=⟨⟨Ap.same _ _,HB4.out.size,List.forall_mem_cons.2 ⟨(HX.out.below hb14 HX.out.lt).at_,List.forall_mem_cons.2 ⟨HRB.out.below hb14 HRB.out.lt,List.forall_mem_cons.2 ⟨hX4,fun g hx=>by cases hx⟩⟩⟩⟩⟩
 have HR4:=Ac (HR.out.below hb14);have HT4:=Ac (HT.out.below HB4.out HTl.out);clear hn5 ln5 hb3 hb4 hX4 hb14 cw cx cy cz HX HRB;go_wp2
 go_loopw [15,8,9] (fun iv _ _ wr=>∃k:Nat,k<=256/\iv=.int .i64 k/\Aa (RG w.heap.size w4 [(w.heap.size,.cells #[.slice x.1 x.2.1 x.2.2,.slice y.1 y.2.1 y.2.2,.slice z.1 z.2.1 z.2.2,.slice ps ns cs] 118 (0,0)),(w.heap.size+1,.cells #[.slice none 0 0] 37 (0,0)),(w3.heap.size,.cells #[.slice p5 n5 c5] 37 (0,0))] wr)/\Aa (Dw (fun c=>Ek seed P c^((P-1)/Q)%P) 256 0=Dw (fun c=>Ek seed P c^((P-1)/Q)%P) (256-k) k)) (fun iv _ _ _=>256-(intOf iv).toNat)
 case atStart=>exact⟨0,by omega,rfl,HK4,⟨rfl⟩⟩
 case round=>
  obtain⟨k,hk,rfl,HKr,HFr⟩:=hrel;have HBr:Aa (Below w.heap.size w wr):=⟨HB4.out.trans HKr.out.keep.bel⟩
  by_cases hkn:k<256
  .have hkn':(k:Int)<256:=by omega
   have hcv:IntKind.u8.wrap ((k:Nat):Int)=k:=IntWalk.u8_in _ (by omega);have HTr:=Ac (HT.out.below HBr.out HTl.out);have HRr:=Ac (HR4.out.keep HRL.out HKr.out.keep);have HTIr:=Ac (HTI.out.keep HKr.out.keep);have HLT:Aa (∀g∈([(w.heap.size,.cells #[.slice x.1 x.2.1 x.2.2,.slice y.1 y.2.1 y.2.2,.slice z.1 z.2.1 z.2.2,.slice ps ns cs] 118 (0,0)),(w.heap.size+1,.cells #[.slice none 0 0] 37 (0,0)),(w3.heap.size,.cells #[.slice p5 n5 c5] 37 (0,0))]:List (Nat×Obj)),g.1<wr.heap.size):=⟨fun g hg=>(Ik (HKr.out.blk g hg)).1⟩
   obtain⟨YY,hYY⟩:∃X,Ek seed P k^((P-1)/Q)%P=X:=⟨_,rfl⟩
   have HY:Aa ((Ek seed P k%P)^((P-1)/Q)%P=YY):=⟨by rw[eT];exact hYY⟩
   have HYY:=Ac hYY;have HYl:Aa (YY<Al f):=⟨by rw[<-hYY];exact Nat.lt_trans (Nat.mod_lt _ (by have:=HP2.out;omega)) HPf.out⟩
   clear hYY;go_wp2;refine Am (by kernel_rfl) (by kernel_rfl)
    [some (.pointer (some ⟨r,0,none⟩)),some (.pointer (some ⟨r,0,none⟩)),some (.pointer (some ⟨w.heap.size,3,none⟩)),some (.slice ps ns cs),some (.int .i64 (k:Nat)),some (.int .u8 (k:Nat)),none,some (.agg #[.slice p5 n5 c5]),none,none,none]
    [false,false,false,false,false,false,true,false,true,true,true] rfl
    (fun w1 w2=>Ap (w.heap.size) w1 w2)
    (fun D sp w'=>RG (w.heap.size) wr [(w.heap.size,.cells #[.slice x.1 x.2.1 x.2.2,.slice y.1 y.2.1 y.2.2,.slice z.1 z.2.1 z.2.2,.slice ps ns cs] 118 (0,0)),(w.heap.size+1,.cells #[.slice none 0 0] 37 (0,0)),(w3.heap.size,.cells #[.slice p5 n5 c5] 37 (0,0))] w'/\Xv (D 9) (D 10) (sp 9) (wr.heap.size) (YY) w')
    (fun i v w'=>match i with
     | 6=>Fit f (Ek seed P k%P) v w'
     | 8=>Fit f YY v w'
     | _=>True)
    ?_ ⟨RG.start HBr.out.size HKr.out.blk,Xv.start (Av _)⟩ ?_ ?_
   .intro i v w1 w2 hf hb;split at hf
    .exact hf.keep hb
    .exact hf.keep hb
    .trivial
   .simp only[Bg,Nat.reduceAdd];refine⟨?_,?_,?_,?_,?_,?_,?_,?_,?_,?_,?_,trivial⟩
    all_goals intro D sp w' hD hW hdp hg
    case refine_4=>
     have c3:=(Cr.cells ⟨hg.1.of List.mem_cons_self⟩).2.2.2
     with_reducible refine Ag ?_ ?_
     all_goals simp[Region.wanted,yielded,execOp,Act.eval,Act.put,go_sem,c3]
    case refine_6=>
     (with_reducible refine Ai (w1:=w') (v:=.int .u8 (k:Nat)) ?_ ?_ ?_)
     .simp[Region.wanted,yielded,Act.put,go_sem]
     .simp[execOp,Act.eval,Act.put,go_sem,hcv]
     .exact⟨rfl,rfl⟩
    case refine_7=>
     (with_reducible refine Ad (w1:=w') (f := 183) (args:=#[.pointer (some ⟨r,0,none⟩),.slice ps ns cs,.int .u8 (k:Nat)]) ?_ ?_ ?_)
     .simp[Region.wanted,yielded,Act.put,go_sem]
     .simp[Act.eval,Act.put,go_sem]
     .refine(Vf (HTr.out.below hg.1.keep.bel HTl.out) (HRr.out.keep HRL.out hg.1.keep) hf (HSw.out.below (HBr.out.trans hg.1.keep.bel)) hkn).mono ?_;rintro en w9 ⟨u,rfl,hu,hb⟩;exact⟨u,rfl,Ap.of hb hg.1.base,hu,hg.1.later hb,by simpa [upd]using hg.2.later hb⟩
    case refine_8=>
     have c0:w'.cell? ⟨w3.heap.size,0,none⟩=some (.slice p5 n5 c5):=Ae.cell (hg.1.of (List.mem_cons_of_mem _ (List.mem_cons_of_mem _ List.mem_cons_self)))
     with_reducible refine Ag ?_ ?_
     all_goals simp[Region.wanted,yielded,execOp,Act.eval,Act.put,go_sem,c0]
    case refine_9=>
     have k6:Fit f (Ek seed P k%P) (sp 6) w':=(hdp 6 (mq (by kernel_rfl))).2
     (with_reducible refine Ad (w1:=w') (f := 82) (args:=#[.pointer (some ⟨r,0,none⟩),sp 6,.agg #[.slice p5 n5 c5]]) ?_ ?_ ?_)
     .simp[Region.wanted,yielded,Act.put,go_sem]
     .simp[Act.eval,Act.put,go_sem]
     .refine(Iw (HRr.out.keep HRL.out hg.1.keep) k6 (HTIr.out.keep hg.1.keep) (by omega) (by omega)).mono ?_;rintro en w9 ⟨u,rfl,hu,hb⟩;rw[HY.out]at hu
      exact⟨u,rfl,Ap.of hb hg.1.base,hu,hg.1.later hb,by simpa [upd]using hg.2.later hb⟩
    case refine_10=>
     have h9:D 10=false:=hW 10 (mq (by kernel_rfl));rw[hD,h9]at hg
     (with_reducible refine Ai (w1:=w'.alloc (.cells #[.slice none 0 0] 37)) (v:=.pointer (some ⟨w'.heap.size,0,none⟩)) ?_ ?_ ?_)
     .simp[Region.wanted,yielded,Act.put,go_sem]
     .simp[execOp,go_sem]
     .have hb:Below w'.heap.size w' (w'.alloc (.cells #[.slice none 0 0] 37)):=By;refine⟨Ap.of hb hg.1.base,trivial,hg.1.later hb,?_⟩;have h8:=hg.2.made;simpa [upd,h9]using h8
    case refine_11=>
     have hx:∃p n c,sp 8=.agg #[.slice p n c]/\Ah w' p n c (YY)/\YY<Al (f):=(hdp 8 (mq (by kernel_rfl))).2
     (with_reducible refine Bc hx fun p hx1=>Bc hx1 fun n hx2=>Bc hx2 fun c hx3=>?_)
     have h1:=hx3.1;have h9:D 9=true:=(hdp 9 (mq (by kernel_rfl))).1;rw[h9]at hg
     have hp:=hg.2.put (hx3.2.1)
     (with_reducible refine Bc hp fun b hy0=>Bc hy0 fun q hy1=>Bc hy1 fun m hy2=>Bc hy2 fun k hy3=>?_)
     have h3:=hy3.1;have h6:=hy3.2.2.1.cell;have h7:=hy3.2.2.1.free
     (with_reducible refine Aq (w1:=w'.setCell ⟨b,0,none⟩ (.slice p n c)) ?_ ?_ ?_)
     .simp[Region.wanted,yielded,Act.put,go_sem]
     .simp[execOp,Act.eval,Act.put,go_sem,h1,h3,h6,h7]
     .refine⟨Ap.store hy3.2.2.1 (Eo HBr.out.size hy3.2.1) _,trivial,hg.1.store_over hy3.2.2.1 HBr.out.size hy3.2.1 HLT.out _,?_⟩;have h8:=hy3.2.2.2;simpa [upd,h9]using h8
    all_goals ((with_reducible refine Ag ?_ ?_);all_goals first|(simp only[Region.wanted];done)|simp[Region.wanted,yielded,execOp,Act.eval,Act.put,go_sem])
   .intro sp w8 hsp hg;obtain⟨hg1,_,hmk⟩:=hg;obtain⟨b9,e9,hb9,p9,n9,c9,hx9,hn9⟩:=hmk rfl;replace hn9:=hn9 rfl;have HK8:=Ac hg1;have HX9:=Ac hx9;have HF9:Aa (Fit f YY (.agg #[.slice p9 n9 c9]) w8):=⟨Fit.of hn9 HYl.out⟩
    have HN9:=Ac hn9;obtain⟨K4,hK40⟩:∃K,Bp YY 1=K:=⟨_,rfl⟩
    have HK4':=Ac hK40;have HK4:=Ac hK40;have HFs:=Ac (Ux (fun c=>Ek seed P c^((P-1)/Q)%P) hkn);have HNE9:Aa (b9≠w.heap.size+1):=⟨by have h1:=HLT.out _ (List.mem_cons_of_mem _ List.mem_cons_self);simp only at h1;omega⟩
    clear hsp hg1 hmk hx9 hn9 hb9;simp only[Ak,Nat.reduceAdd];rw[e9];clear e9;generalize sp 6=y6,sp 8=y8,sp 10=y10 at *
    by_cases hgt:1<YY
    .have hGT:decide (0<K4)=true:=decide_eq_true (by rw[<-hK40,Hx hgt];decide);have hfh:FH=some YY:=by
      rw[<-HFH.out,HFr.out,HFs.out];have:1<(fun c=>Ek seed P c^((P-1)/Q)%P) k:=by rw[show (fun c=>Ek seed P c^((P-1)/Q)%P) k=YY from HYY.out];exact hgt
      rw[if_pos this,HYY.out]
     have HFT:=Ac hfh;clear hgt hK40 hcv hfh
     go_simp
     go_wp2;refine Am (by kernel_rfl) (by kernel_rfl)
      [some (.agg #[.slice p9 n9 c9]),none,none,some (.bool true)]
      [false,true,true,false] rfl
      (fun w1 w2=>Ap (w.heap.size) w1 w2)
      (fun D sp w'=>RG (w.heap.size) w8 [(w.heap.size,.cells #[.slice x.1 x.2.1 x.2.2,.slice y.1 y.2.1 y.2.2,.slice z.1 z.2.1 z.2.2,.slice ps ns cs] 118 (0,0)),(w.heap.size+1,.cells #[.slice none 0 0] 37 (0,0)),(w3.heap.size,.cells #[.slice p5 n5 c5] 37 (0,0)),(b9,.cells #[.slice p9 n9 c9] 37 (0,0))] w'/\True)
      (fun i v w'=>match i with
       | 1=>Fit 1 1 v w'
       | 2=>v=.int .i64 K4
       | _=>True)
      ?_ ⟨RG.start HK8.out.base (List.forall_mem_cons.2 ⟨HK8.out.blk _ List.mem_cons_self,List.forall_mem_cons.2 ⟨HK8.out.blk _ (List.mem_cons_of_mem _ List.mem_cons_self),List.forall_mem_cons.2 ⟨HK8.out.blk _ (List.mem_cons_of_mem _ (List.mem_cons_of_mem _ List.mem_cons_self)),List.forall_mem_cons.2 ⟨HX9.out,fun g hx=>by cases hx⟩⟩⟩⟩),trivial⟩ ?_ ?_
     .intro i v w1 w2 hf hb;split at hf
      .exact hf.keep hb
      .exact hf
      .trivial
     .simp only[Bg,Nat.reduceAdd];refine⟨?_,?_,?_,?_,trivial⟩
      all_goals intro D sp w' hD hW hdp hg
      case refine_1=>
       have c0:w'.cell? ⟨b9,0,none⟩=some (.slice p9 n9 c9):=Ae.cell (hg.1.of (List.mem_cons_of_mem _ (List.mem_cons_of_mem _ (List.mem_cons_of_mem _ List.mem_cons_self))))
       with_reducible refine Ag ?_ ?_
       all_goals simp[Region.wanted,yielded,execOp,Act.eval,Act.put,go_sem,c0]
      case refine_2=>
       (with_reducible refine Ad (w1:=w') (f := 17) (args:=#[.int .u64 1]) ?_ ?_ ?_)
       .simp[Region.wanted,yielded,Act.put,go_sem]
       .simp[Act.eval,Act.put,go_sem]
       .refine(Ex w').mono ?_;rintro en w9 ⟨u,rfl,hu,hb⟩;exact⟨u,rfl,Ap.of hb hg.1.base,hu,hg.1.later hb,trivial⟩
      case refine_3=>
       have k1:Fit 1 1 (sp 1) w':=(hdp 1 (mq (by kernel_rfl))).2
       (with_reducible refine Ad (w1:=w') (f := 24) (args:=#[.agg #[.slice p9 n9 c9],sp 1]) ?_ ?_ ?_)
       .simp[Region.wanted,yielded,Act.put,go_sem]
       .simp[Act.eval,Act.put,go_sem]
       .refine(Az (HF9.out.keep hg.1.keep) k1 (by omega) (by decide) HK4.out).mono ?_;rintro en w9 ⟨u,rfl,rfl,hb⟩;exact⟨_,rfl,Ap.of hb hg.1.base,rfl,hg.1.later hb,trivial⟩
      case refine_4=>
       have k2:(sp 2)=.int .i64 K4:=(hdp 2 (mq (by kernel_rfl))).2
       with_reducible refine Ag ?_ ?_
       all_goals simp[Region.wanted,yielded,execOp,Act.eval,Act.put,go_sem,k2,hGT]
     .intro sp w9 hsp hg;have hrb:=hg.1.of (List.mem_cons_of_mem _ List.mem_cons_self);have hrb':Ae w9 (w.heap.size+1) (.slice none 0 0):=hrb;have k0:=hrb'.cell;have k1:=hrb'.free;have hx9':Ae w9 b9 (.slice p9 n9 c9):=hg.1.of (List.mem_cons_of_mem _ (List.mem_cons_of_mem _ (List.mem_cons_of_mem _ List.mem_cons_self)));have k9:=hx9'.cell;have hn:=hg.1.keep.nat _ _ _ _ HN9.out;have HNF:=Ac (hn.store hrb' (.slice p9 n9 c9));have hbf:Below w.heap.size w (w9.setCell ⟨w.heap.size+1,0,none⟩ (.slice p9 n9 c9)):=(HBr.out.trans (HK8.out.keep.trans hg.1.keep).bel).setCell (by simp) _;have HBF:=Ac hbf;clear hsp hg hrb hrb' hx9' hn hbf hGT;simp only[Ak,Nat.reduceAdd];generalize sp 1=t1,sp 2=t2 at *
      go_simp
      go_wp2;refine bodyPost_ret (v:=.tuple #[.agg #[.slice p9 n9 c9],.int .i64 0]) (by simp[results,Tryz.results128,go_sem,k0]) rfl ⟨p9,n9,c9,0,rfl,HBF.out,fun h hh=>?_,fun hh=>?_⟩
      .rw[HFT.out]at hh
       cases hh;exact⟨rfl,HNF.out,HYl.out⟩
      .rw[HFT.out]at hh
       cases hh
    .have hGT:decide (0<K4)=false:=decide_eq_false (by rw[<-hK40];have:=dD (show YY<=1 by omega);omega);have HF':Aa (Dw (fun c=>Ek seed P c^((P-1)/Q)%P) 256 0=Dw (fun c=>Ek seed P c^((P-1)/Q)%P) (256-(k+1)) (k+1)):=⟨by
      rw[HFr.out,HFs.out,if_neg];rw[HYY.out];exact hgt⟩
     clear hgt hK40 hcv
     go_simp
     go_wp2;refine Am (by kernel_rfl) (by kernel_rfl)
      [some (.agg #[.slice p9 n9 c9]),none,none,some (.bool false)]
      [false,true,true,false] rfl
      (fun w1 w2=>Ap (w.heap.size) w1 w2)
      (fun D sp w'=>RG (w.heap.size) w8 [(w.heap.size,.cells #[.slice x.1 x.2.1 x.2.2,.slice y.1 y.2.1 y.2.2,.slice z.1 z.2.1 z.2.2,.slice ps ns cs] 118 (0,0)),(w.heap.size+1,.cells #[.slice none 0 0] 37 (0,0)),(w3.heap.size,.cells #[.slice p5 n5 c5] 37 (0,0)),(b9,.cells #[.slice p9 n9 c9] 37 (0,0))] w'/\True)
      (fun i v w'=>match i with
       | 1=>Fit 1 1 v w'
       | 2=>v=.int .i64 K4
       | _=>True)
      ?_ ⟨RG.start HK8.out.base (List.forall_mem_cons.2 ⟨HK8.out.blk _ List.mem_cons_self,List.forall_mem_cons.2 ⟨HK8.out.blk _ (List.mem_cons_of_mem _ List.mem_cons_self),List.forall_mem_cons.2 ⟨HK8.out.blk _ (List.mem_cons_of_mem _ (List.mem_cons_of_mem _ List.mem_cons_self)),List.forall_mem_cons.2 ⟨HX9.out,fun g hx=>by cases hx⟩⟩⟩⟩),trivial⟩ ?_ ?_
     .intro i v w1 w2 hf hb;split at hf
      .exact hf.keep hb
      .exact hf
      .trivial
     .simp only[Bg,Nat.reduceAdd];refine⟨?_,?_,?_,?_,trivial⟩
      all_goals intro D sp w' hD hW hdp hg
      case refine_1=>
       have c0:w'.cell? ⟨b9,0,none⟩=some (.slice p9 n9 c9):=Ae.cell (hg.1.of (List.mem_cons_of_mem _ (List.mem_cons_of_mem _ (List.mem_cons_of_mem _ List.mem_cons_self))))
       with_reducible refine Ag ?_ ?_
       all_goals simp[Region.wanted,yielded,execOp,Act.eval,Act.put,go_sem,c0]
      case refine_2=>
       (with_reducible refine Ad (w1:=w') (f := 17) (args:=#[.int .u64 1]) ?_ ?_ ?_)
       .simp[Region.wanted,yielded,Act.put,go_sem]
       .simp[Act.eval,Act.put,go_sem]
       .refine(Ex w').mono ?_;rintro en w9 ⟨u,rfl,hu,hb⟩;exact⟨u,rfl,Ap.of hb hg.1.base,hu,hg.1.later hb,trivial⟩
      case refine_3=>
       have k1:Fit 1 1 (sp 1) w':=(hdp 1 (mq (by kernel_rfl))).2
       (with_reducible refine Ad (w1:=w') (f := 24) (args:=#[.agg #[.slice p9 n9 c9],sp 1]) ?_ ?_ ?_)
       .simp[Region.wanted,yielded,Act.put,go_sem]
       .simp[Act.eval,Act.put,go_sem]
       .refine(Az (HF9.out.keep hg.1.keep) k1 (by omega) (by decide) HK4.out).mono ?_;rintro en w9 ⟨u,rfl,rfl,hb⟩;exact⟨_,rfl,Ap.of hb hg.1.base,rfl,hg.1.later hb,trivial⟩
      case refine_4=>
       have k2:(sp 2)=.int .i64 K4:=(hdp 2 (mq (by kernel_rfl))).2
       with_reducible refine Ag ?_ ?_
       all_goals simp[Region.wanted,yielded,execOp,Act.eval,Act.put,go_sem,k2,hGT]
     .intro sp w9 hsp hg;have HK9:Aa (RG w.heap.size w4 [(w.heap.size,.cells #[.slice x.1 x.2.1 x.2.2,.slice y.1 y.2.1 y.2.2,.slice z.1 z.2.1 z.2.2,.slice ps ns cs] 118 (0,0)),(w.heap.size+1,.cells #[.slice none 0 0] 37 (0,0)),(w3.heap.size,.cells #[.slice p5 n5 c5] 37 (0,0))] w9):=⟨HKr.out.trans (HK8.out.trans ⟨hg.1.keep,hg.1.base,fun g hx=>hg.1.blk g (List.mem_append_left [(b9,_)] hx)⟩)⟩
      clear hsp hg hGT;simp only[Ak,Nat.reduceAdd];generalize sp 1=t1,sp 2=t2 at *
      go_simp
      go_wp2;go_roundw
      case rel=>exact⟨k+1,by omega,by go_num,HK9,HF'⟩
      case measure=>simp[intOf];omega
  .obtain rfl:k=256:=by omega
   have hkn':¬(256:Int)<256:=by omega
   have hrb:Ae wr (w.heap.size+1) (.slice none 0 0):=HKr.out.of (List.mem_cons_of_mem _ List.mem_cons_self);have k0:=hrb.cell;have k1:=hrb.free;have hbf:Below w.heap.size w (wr.setCell ⟨w.heap.size+1,0,none⟩ (.slice none 0 0)):=HBr.out.setCell (by simp) _;have HBF:=Ac hbf;have HN:Aa (FH=none):=⟨by rw[<-HFH.out,HFr.out];rfl⟩
   clear hrb hbf;go_wp2;refine bodyPost_ret (v:=.tuple #[.agg #[.slice none 0 0],.int .i64 6]) (by simp[results,Tryz.results128,go_sem,k0]) rfl ⟨none,0,0,6,rfl,HBF.out,fun h hh=>?_,fun _=>rfl⟩;rw[HN.out]at hh
   cases hh
end Go.Proofs.YtokhckjemidbpaaGreatDoor
