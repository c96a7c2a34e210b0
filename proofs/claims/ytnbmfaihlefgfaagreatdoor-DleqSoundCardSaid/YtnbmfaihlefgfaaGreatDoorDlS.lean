/- A claim as the document has it (law12's of). -/
import Derived.Test.YtnbmfaihlefgfaaGreatDoorDlC
set_option maxRecDepth 1000000
set_option maxHeartbeats 16000000
set_option linter.all false
namespace Go.Proofs.YtnbmfaihlefgfaaGreatDoor
open Go Go.RowKit Go.Proofs.YtnbmfaihlefgfaaGreatDoor.Flow
theorem Ez.kt {T:TypeId}{B n c:Nat}{p:Option Addr}{xs:List Bool}{w w':World}(h:Ez w p n c xs)(hk:KT T B w w'):Ez w' p n c xs:=by
 refine⟨h.len,h.cap,h.max,?_⟩;rcases h.at_ with e|⟨b,off,h1,h2,h3⟩
 .exact .inl e
 .refine .inr ⟨b,off,h1,De h2 hk.k.bel.size,fun i x hx=>?_⟩;have hc:=h3 i x hx;have hblk:w'.heap[b]? = w.heap[b]? := by
   have hc2:=hc;unfold World.cell? at hc2
   dsimp only at hc2
   cases ho:w.heap[b]? with
   | none=>rw[ho]at hc2;cases hc2
   | some o=>
    rw[ho]at hc2
    cases o with
    | cells vs U m=>exact hk.blk b vs U m ho (.inr ⟨_,_,hc2,fun _ _ _ e=>by cases e⟩)
    | _=>cases hc2
  rw[World.cell?_of_block (a:=⟨b,off+i,none⟩) hblk];exact hc
theorem Rc.kt {T:TypeId}{B N:Nat}{x:Option Addr×Nat×Nat}{w w':World}(h:Rc w x N)(hk:KT T B w w'):Rc w' x N:=Ez.kt h hk
theorem Bj.kt {T:TypeId}{B N:Nat}{v:Value}{w w':World}(h:Bj N v w)(hk:KT T B w w'):Bj N v w':=let ⟨q,m,d,h1,h2⟩:=h;⟨q,m,d,h1,Ez.kt h2 hk⟩
theorem Tp.kt {T:TypeId}{C A B Y Z:Nat}{xa xb xy xz:Option Addr×Nat×Nat}{w w':World}(h:Tp A B Y Z xa xb xy xz w)(hk:KT T C w w'):Tp A B Y Z xa xb xy xz w':=⟨h.1.kt hk,h.2.1.kt hk,h.2.2.1.kt hk,h.2.2.2.kt hk⟩
def Ui (A B Y Z:Nat)(v:Value)(w:World):Prop:=∃xa xb xy xz:Option Addr×Nat×Nat,v=.agg #[.slice xa.1 xa.2.1 xa.2.2,.slice xb.1 xb.2.1 xb.2.2,.slice xy.1 xy.2.1 xy.2.2,.slice xz.1 xz.2.1 xz.2.2]/\Tp A B Y Z xa xb xy xz w
theorem Ui.kt {T:TypeId}{C A B Y Z:Nat}{v:Value}{w w':World}(h:Ui A B Y Z v w)(hk:KT T C w w'):Ui A B Y Z v w':=let ⟨a,b,y,z,h1,h2⟩:=h;⟨a,b,y,z,h1,h2.kt hk⟩
theorem Ui.below {A B Y Z:Nat}{v:Value}{w w':World}(h:Ui A B Y Z v w)(hb:Below w.heap.size w w'):Ui A B Y Z v w':=let ⟨a,b,y,z,h1,h2⟩:=h;⟨a,b,y,z,h1,h2.below hb⟩
def mW (A B Y Z:Nat)(o:Obj)(w:World):Prop:=∃xa xb xy xz:Option Addr×Nat×Nat,o=.cells #[.slice xa.1 xa.2.1 xa.2.2,.slice xb.1 xb.2.1 xb.2.2,.slice xy.1 xy.2.1 xy.2.2,.slice xz.1 xz.2.1 xz.2.2] 86 (0,0)/\Tp A B Y Z xa xb xy xz w
theorem mW.below {A B Y Z:Nat}{o:Obj}{w w':World}(hb:Below w.heap.size w w')(h:mW A B Y Z o w):mW A B Y Z o w':=let ⟨a,b,y,z,h1,h2⟩:=h;⟨a,b,y,z,h1,h2.below hb⟩
theorem bS {w:World}{A B Y Z:Nat}{xa xb xy xz:Option Addr×Nat×Nat}(hC:AtC A B Y Z xa xb xy xz w)(lA:A<Ap 33)(lB:B<Ap 33)(lY:Y<Ap 33)(lZ:Z<Ap 33) :
  Calls Tryz.prog 55 #[.agg #[.slice xa.1 xa.2.1 xa.2.2,.slice xb.1 xb.2.1 xb.2.2,.slice xy.1 xy.2.1 xy.2.2,.slice xz.1 xz.2.1 xz.2.2]] w fun e w'=>∃c,e=.returned c/\Ui A B Y Z c w'/\Below w.heap.size w w':=by
 have hb1:Below w.heap.size w (w.alloc (.cells #[.slice xa.1 xa.2.1 xa.2.2,.slice xb.1 xb.2.1 xb.2.2,.slice xy.1 xy.2.1 xy.2.2,.slice xz.1 xz.2.1 xz.2.2] 82)):=By;have hbo:=Cm.made 82 w (.slice xa.1 xa.2.1 xa.2.2) (.slice xb.1 xb.2.1 xb.2.2) (.slice xy.1 xy.2.1 xy.2.2) (.slice xz.1 xz.2.1 xz.2.2);have hz1:(w.alloc (.cells #[.slice xa.1 xa.2.1 xa.2.2,.slice xb.1 xb.2.1 xb.2.2,.slice xy.1 xy.2.1 xy.2.2,.slice xz.1 xz.2.1 xz.2.2] 82)).heap.size=w.heap.size+1:=by simp
 obtain⟨wb,hwb⟩:∃wa,w.alloc (.cells #[.slice xa.1 xa.2.1 xa.2.2,.slice xb.1 xb.2.1 xb.2.2,.slice xy.1 xy.2.1 xy.2.2,.slice xz.1 xz.2.1 xz.2.2] 82)=wa:=⟨_,rfl⟩
 rw[hwb]at hb1 hbo hz1
 have hb2:Below wb.heap.size wb (wb.alloc (.cells #[.slice none 0 0,.slice none 0 0,.slice none 0 0,.slice none 0 0] 86)):=By;have hz0:(wb.alloc (.cells #[.slice none 0 0,.slice none 0 0,.slice none 0 0,.slice none 0 0] 86)).heap[wb.heap.size]? = some (z4 86):=heap_alloc_new wb _;have hz2:(wb.alloc (.cells #[.slice none 0 0,.slice none 0 0,.slice none 0 0,.slice none 0 0] 86)).heap.size=w.heap.size+1+1:=by simp[hz1]
 obtain⟨wa,hwa⟩:∃W,wb.alloc (.cells #[.slice none 0 0,.slice none 0 0,.slice none 0 0,.slice none 0 0] 86)=W:=⟨_,rfl⟩
 rw[hwa]at hb2 hz0 hz2
 rw[hz1]at hz0
 have hbx:=Ae hb1 hb2;have HB:=Aa hbx;have HCX:=Aa (hbo.below hb2 hbo.lt);have HZ0:=Aa hz0;have HCA:=Aa (Fit.of (hC.1.below hbx) lA);have HCB:=Aa (Fit.of (hC.2.1.below hbx) lB);have HCY:=Aa (Fit.of (hC.2.2.1.below hbx) lY);have HCZ:=Aa (Fit.of (hC.2.2.2.below hbx) lZ);have HSB:Ad (∀ {w':World},KT 86 (w.heap.size+1) wa w'->(w.heap.size+1)<=w'.heap.size):=⟨fun hk=>by have:=hk.k.bel.size;omega⟩
 clear hb1 hb2 hbo hz0 hz2 hbx hC lA lB lY lZ;go_enter Tryz.func55,Tryz.ntmps55;go_wp2;refine Ai (by kernel_rfl) (by kernel_rfl)
  [some (.pointer (some ⟨w.heap.size,0,none⟩)),some (.agg #[.slice xa.1 xa.2.1 xa.2.2]),none,some (.pointer (some ⟨w.heap.size,1,none⟩)),some (.agg #[.slice xb.1 xb.2.1 xb.2.2]),none,some (.pointer (some ⟨w.heap.size,2,none⟩)),some (.agg #[.slice xy.1 xy.2.1 xy.2.2]),none,some (.pointer (some ⟨w.heap.size,3,none⟩)),some (.agg #[.slice xz.1 xz.2.1 xz.2.2]),none,none,none]
  [false,false,true,false,false,true,false,false,true,false,false,true,true,true] rfl
  (fun w1 w2=>KT 86 (w.heap.size+1) w1 w2)
  (fun D w'=>KT 86 (w.heap.size+1) wa w'/\Th (D 13) (w.heap.size+1) (z4 86) (mW A B Y Z) w')
  (fun i v w'=>match i with
   | 2=>Bj A v w'
   | 5=>Bj B v w'
   | 8=>Bj Y v w'
   | 11=>Bj Z v w'
   | 12=>Ui A B Y Z v w'
   | 13=>True
   | _=>True)
  ?_ ⟨KT.drew _ _ _,Th.start HZ0.out⟩ ?_ ?_
 .intro i v w1 w2 hf hb;split at hf
  .exact hf.kt hb
  .exact hf.kt hb
  .exact hf.kt hb
  .exact hf.kt hb
  .exact hf.kt hb
  .exact hf
  .trivial
 .simp only[Ba,Nat.reduceAdd];refine⟨?_,?_,?_,?_,?_,?_,?_,?_,?_,?_,?_,?_,?_,?_,trivial⟩
  all_goals intro D sp w' hD hW hdp hbx'
  case refine_2=>
   have g4:=(cells4 (HCX.out.below hbx'.1.k.bel (Nat.lt_succ_self _)).at_).1
   with_reducible refine Ac ?_ ?_
   all_goals simp[Region.wanted,yielded,execOp,Act.eval,Act.put,go_sem,g4.1]
  case refine_3=>
   (with_reducible refine Ab (w1:=w') (f := 46) (args:=#[.agg #[.slice xa.1 xa.2.1 xa.2.2]]) ?_ ?_ ?_)
   .simp[Region.wanted,yielded,Act.put,go_sem]
   .simp[Act.eval,Act.put,go_sem]
   .refine(Cu (HCA.out.keep hbx'.1.k) (by decide)).mono ?_;rintro en w9 ⟨u,rfl,hu,hb⟩;exact⟨u,rfl,KT.of hb (HSB.out hbx'.1),hu,⟨hbx'.1.trans (KT.of hb (HSB.out hbx'.1)),by simpa [upd]using hbx'.2.later hb (fun o h=>h.below hb)⟩⟩
  case refine_5=>
   have g4:=(cells4 (HCX.out.below hbx'.1.k.bel (Nat.lt_succ_self _)).at_).1
   with_reducible refine Ac ?_ ?_
   all_goals simp[Region.wanted,yielded,execOp,Act.eval,Act.put,go_sem,g4.2.1]
  case refine_6=>
   (with_reducible refine Ab (w1:=w') (f := 46) (args:=#[.agg #[.slice xb.1 xb.2.1 xb.2.2]]) ?_ ?_ ?_)
   .simp[Region.wanted,yielded,Act.put,go_sem]
   .simp[Act.eval,Act.put,go_sem]
   .refine(Cu (HCB.out.keep hbx'.1.k) (by decide)).mono ?_;rintro en w9 ⟨u,rfl,hu,hb⟩;exact⟨u,rfl,KT.of hb (HSB.out hbx'.1),hu,⟨hbx'.1.trans (KT.of hb (HSB.out hbx'.1)),by simpa [upd]using hbx'.2.later hb (fun o h=>h.below hb)⟩⟩
  case refine_8=>
   have g4:=(cells4 (HCX.out.below hbx'.1.k.bel (Nat.lt_succ_self _)).at_).1
   with_reducible refine Ac ?_ ?_
   all_goals simp[Region.wanted,yielded,execOp,Act.eval,Act.put,go_sem,g4.2.2.1]
  case refine_9=>
   (with_reducible refine Ab (w1:=w') (f := 46) (args:=#[.agg #[.slice xy.1 xy.2.1 xy.2.2]]) ?_ ?_ ?_)
   .simp[Region.wanted,yielded,Act.put,go_sem]
   .simp[Act.eval,Act.put,go_sem]
   .refine(Cu (HCY.out.keep hbx'.1.k) (by decide)).mono ?_;rintro en w9 ⟨u,rfl,hu,hb⟩;exact⟨u,rfl,KT.of hb (HSB.out hbx'.1),hu,⟨hbx'.1.trans (KT.of hb (HSB.out hbx'.1)),by simpa [upd]using hbx'.2.later hb (fun o h=>h.below hb)⟩⟩
  case refine_11=>
   have g4:=(cells4 (HCX.out.below hbx'.1.k.bel (Nat.lt_succ_self _)).at_).1
   with_reducible refine Ac ?_ ?_
   all_goals simp[Region.wanted,yielded,execOp,Act.eval,Act.put,go_sem,g4.2.2.2]
  case refine_12=>
   (with_reducible refine Ab (w1:=w') (f := 46) (args:=#[.agg #[.slice xz.1 xz.2.1 xz.2.2]]) ?_ ?_ ?_)
   .simp[Region.wanted,yielded,Act.put,go_sem]
   .simp[Act.eval,Act.put,go_sem]
   .refine(Cu (HCZ.out.keep hbx'.1.k) (by decide)).mono ?_;rintro en w9 ⟨u,rfl,hu,hb⟩;exact⟨u,rfl,KT.of hb (HSB.out hbx'.1),hu,⟨hbx'.1.trans (KT.of hb (HSB.out hbx'.1)),by simpa [upd]using hbx'.2.later hb (fun o h=>h.below hb)⟩⟩
  case refine_13=>
   have hxa:∃q m d,sp 2=.slice q m d/\Bn w' q m d A:=(hdp 2 (mq (by kernel_rfl))).2
   (with_reducible refine Aq hxa fun qa hxa1=>Aq hxa1 fun ma hxa2=>Aq hxa2 fun da hxa3=>?_)
   have ha:=hxa3.1;have hxb:∃q m d,sp 5=.slice q m d/\Bn w' q m d B:=(hdp 5 (mq (by kernel_rfl))).2
   (with_reducible refine Aq hxb fun qb hxb1=>Aq hxb1 fun mb hxb2=>Aq hxb2 fun db hxb3=>?_)
   have hb:=hxb3.1;have hxy:∃q m d,sp 8=.slice q m d/\Bn w' q m d Y:=(hdp 8 (mq (by kernel_rfl))).2
   (with_reducible refine Aq hxy fun qy hxy1=>Aq hxy1 fun my hxy2=>Aq hxy2 fun dy hxy3=>?_)
   have hy:=hxy3.1;have hxz:∃q m d,sp 11=.slice q m d/\Bn w' q m d Z:=(hdp 11 (mq (by kernel_rfl))).2
   (with_reducible refine Aq hxz fun qz hxz1=>Aq hxz1 fun mz hxz2=>Aq hxz2 fun dz hxz3=>?_)
   have hz:=hxz3.1
   (with_reducible refine Ag (w1:=w') (v:=.agg #[.slice qa ma da,.slice qb mb db,.slice qy my dy,.slice qz mz dz]) ?_ ?_ ?_)
   .simp only[Region.wanted]
   .simp[execOp,Act.eval,Act.put,go_sem,ha,hb,hy,hz]
   .exact⟨KT.same _ _ _,⟨(qa,ma,da),(qb,mb,db),(qy,my,dy),(qz,mz,dz),rfl,hxa3.2,hxb3.2,hxy3.2,hxz3.2⟩,by simpa [upd]using hbx'⟩
  case refine_14=>
   have hx:∃xa xb xy xz:Option Addr×Nat×Nat,sp 12=.agg #[.slice xa.1 xa.2.1 xa.2.2,.slice xb.1 xb.2.1 xb.2.2,.slice xy.1 xy.2.1 xy.2.2,.slice xz.1 xz.2.1 xz.2.2]/\Tp A B Y Z xa xb xy xz w':=(hdp 12 (mq (by kernel_rfl))).2
   (with_reducible refine Aq hx fun xa hx1=>Aq hx1 fun xb hx2=>Aq hx2 fun xy hx3=>Aq hx3 fun xz hx4=>?_)
   have h1:=hx4.1;rw[hD]at hbx'
   have h6:w'.heap[(w.heap.size+1)]? = some (.cells #[.slice none 0 0,.slice none 0 0,.slice none 0 0,.slice none 0 0] 86 (0,0)):=hbx'.2.1 rfl;have hp:=put4 (u0:=.slice xa.1 xa.2.1 xa.2.2) (u1:=.slice xb.1 xb.2.1 xb.2.2) (u2:=.slice xy.1 xy.2.1 xy.2.2) (u3:=.slice xz.1 xz.2.1 xz.2.2) h6;have hkt:=hp.kt h6 (Rg (none,0,0) (none,0,0) (none,0,0) (none,0,0)) (As _);have g6:=cells4 h6
   (with_reducible refine An (w1:=Ra w' (w.heap.size+1) (.slice xa.1 xa.2.1 xa.2.2) (.slice xb.1 xb.2.1 xb.2.2) (.slice xy.1 xy.2.1 xy.2.2) (.slice xz.1 xz.2.1 xz.2.2)) ?_ ?_ ?_)
   .simp only[Region.wanted]
   .simp[execOp,Act.eval,Act.put,go_sem,h1,g6.1.1,g6.1.2.1,g6.1.2.2.1,g6.1.2.2.2,g6.2.1,g6.2.2.1,g6.2.2.2.1,g6.2.2.2.2,Ra]
   .refine⟨hkt,trivial,hbx'.1.trans hkt,?_⟩;have h8:Th true (w.heap.size+1) (z4 86) (mW A B Y Z) _:=Th.done hp.new ⟨xa,xb,xy,xz,rfl,hx4.2.kt hkt⟩;simpa [upd]using h8
  all_goals ((with_reducible refine Ac ?_ ?_);all_goals first|(simp only[Region.wanted];done)|simp[Region.wanted,yielded,execOp,Act.eval,Act.put,go_sem])
 .intro sp w8 hsp hk;obtain⟨hk1,hk2⟩:=hk;obtain⟨_,hbox,ya,yb,yy,yz,rfl,hat⟩:=hk2.2 rfl;obtain⟨g0,g1,g2,g3⟩:=(cells4 hbox).1;have HV:Ad (Ui A B Y Z (.agg #[.slice ya.1 ya.2.1 ya.2.2,.slice yb.1 yb.2.1 yb.2.2,.slice yy.1 yy.2.1 yy.2.2,.slice yz.1 yz.2.1 yz.2.2]) w8):=⟨⟨ya,yb,yy,yz,rfl,hat⟩⟩
  have HBf:Ad (Below w.heap.size w w8):=⟨HB.out.trans (hk1.k.bel.mono (by omega))⟩
  clear hsp hk1 hk2 hbox hat hz1;simp only[Am,Nat.reduceAdd];generalize sp 2=y2,sp 5=y5,sp 8=y8,sp 11=y11,sp 12=y12,sp 13=y13 at *
  go_simp
  go_wp2;exact bodyPost_ret (v:=.agg #[.slice ya.1 ya.2.1 ya.2.2,.slice yb.1 yb.2.1 yb.2.2,.slice yy.1 yy.2.1 yy.2.2,.slice yz.1 yz.2.1 yz.2.2]) (by simp[results,Tryz.results55,go_sem,g0,g1,g2,g3]) rfl ⟨_,rfl,HV.out,HBf.out⟩
end Go.Proofs.YtnbmfaihlefgfaaGreatDoor
