/- Does a proof of a claim verify, as the document has it (ref12.Verify)? -/
import Derived.Test.YthgoeiegdhphjaaGreatDoorDlR
import Derived.Test.YthgoeiegdhphjaaGreatDoorDlC
import Derived.Test.YthgoeiegdhphjaaGreatDoorSgD
import Derived.Deep.LoopGhost
import Derived.Lib.SlBytesConst
set_option maxRecDepth 1000000
set_option maxHeartbeats 16000000
set_option linter.unusedSimpArgs false
set_option linter.unusedVariables false
namespace Go.Proofs.YthgoeiegdhphjaaGreatDoor
open Go Go.RowKit Go.Proofs.YthgoeiegdhphjaaGreatDoor.Flow
theorem Eb.kt {T:TypeId}{B n c:Nat}{p:Option Addr}{xs:List Bool}{w w':World}(h:Eb w p n c xs)(hk:KT T B w w'):Eb w' p n c xs:=by
 refine⟨h.len,h.cap,h.max,?_⟩;rcases h.at_ with e|⟨b,off,h1,h2,h3⟩
 .exact .inl e
 .refine .inr ⟨b,off,h1,Nat.lt_of_lt_of_le h2 hk.k.bel.size,fun i x hx=>?_⟩;have hc:=h3 i x hx;have hblk:w'.heap[b]? = w.heap[b]? := by
   have hc2:=hc;unfold World.cell? at hc2
   dsimp only at hc2
   cases ho:w.heap[b]? with
   | none=>rw[ho]at hc2;cases hc2
   | some o =>
    rw[ho]at hc2
    cases o with
    | cells vs U m=>exact hk.blk b vs U m ho (.inr ⟨_,_,hc2,fun _ _ _ e=>by cases e⟩)
    | _=>cases hc2
  rw[World.cell?_of_block (a:=⟨b,off+i,none⟩) hblk];exact hc
theorem Qx.kt {T:TypeId}{B N:Nat}{x:Option Addr×Nat×Nat}{w w':World}(h:Qx w x N)(hk:KT T B w w'):Qx w' x N:=Eb.kt h hk
theorem Ak.kt {T:TypeId}{B N:Nat}{v:Value}{w w':World}(h:Ak N v w)(hk:KT T B w w'):Ak N v w':=let ⟨q,m,d,h1,h2⟩:=h;⟨q,m,d,h1,Eb.kt h2 hk⟩
theorem Qw.kt {T:TypeId}{C A B Y Z:Nat}{xa xb xy xz:Option Addr×Nat×Nat}{w w':World}(h:Qw A B Y Z xa xb xy xz w)(hk:KT T C w w'):Qw A B Y Z xa xb xy xz w':=⟨h.1.kt hk,h.2.1.kt hk,h.2.2.1.kt hk,h.2.2.2.kt hk⟩
def Ui (A B Y Z:Nat)(v:Value)(w:World):Prop:=∃xa xb xy xz:Option Addr×Nat×Nat,v=.agg #[.slice xa.1 xa.2.1 xa.2.2,.slice xb.1 xb.2.1 xb.2.2,.slice xy.1 xy.2.1 xy.2.2,.slice xz.1 xz.2.1 xz.2.2]/\Qw A B Y Z xa xb xy xz w
theorem Ui.kt {T:TypeId}{C A B Y Z:Nat}{v:Value}{w w':World}(h:Ui A B Y Z v w)(hk:KT T C w w'):Ui A B Y Z v w':=let ⟨a,b,y,z,h1,h2⟩:=h;⟨a,b,y,z,h1,h2.kt hk⟩
theorem Ui.below {A B Y Z:Nat}{v:Value}{w w':World}(h:Ui A B Y Z v w)(hb:Below w.heap.size w w'):Ui A B Y Z v w':=let ⟨a,b,y,z,h1,h2⟩:=h;⟨a,b,y,z,h1,h2.below hb⟩
def nL (A B Y Z:Nat)(o:Obj)(w:World):Prop:=∃xa xb xy xz:Option Addr×Nat×Nat,o=.cells #[.slice xa.1 xa.2.1 xa.2.2,.slice xb.1 xb.2.1 xb.2.2,.slice xy.1 xy.2.1 xy.2.2,.slice xz.1 xz.2.1 xz.2.2] 87 (0,0)/\Qw A B Y Z xa xb xy xz w
theorem nL.below {A B Y Z:Nat}{o:Obj}{w w':World}(hb:Below w.heap.size w w')(h:nL A B Y Z o w):nL A B Y Z o w':=let ⟨a,b,y,z,h1,h2⟩:=h;⟨a,b,y,z,h1,h2.below hb⟩
theorem cC {w:World}{A B Y Z:Nat}{xa xb xy xz:Option Addr×Nat×Nat}(hC:AtC A B Y Z xa xb xy xz w)(lA:A<Aq 33)(lB:B<Aq 33)(lY:Y<Aq 33)(lZ:Z<Aq 33) :
  Calls Tryz.prog 60 #[.agg #[.slice xa.1 xa.2.1 xa.2.2,.slice xb.1 xb.2.1 xb.2.2,.slice xy.1 xy.2.1 xy.2.2,.slice xz.1 xz.2.1 xz.2.2]] w fun e w'=>∃c,e=.returned c/\Ui A B Y Z c w'/\Below w.heap.size w w':=by
 have hb1:Below w.heap.size w (w.alloc (.cells #[.slice xa.1 xa.2.1 xa.2.2,.slice xb.1 xb.2.1 xb.2.2,.slice xy.1 xy.2.1 xy.2.2,.slice xz.1 xz.2.1 xz.2.2] 83)):=Bt;have hbo:=Ce.made 83 w (.slice xa.1 xa.2.1 xa.2.2) (.slice xb.1 xb.2.1 xb.2.2) (.slice xy.1 xy.2.1 xy.2.2) (.slice xz.1 xz.2.1 xz.2.2);have hz1:(w.alloc (.cells #[.slice xa.1 xa.2.1 xa.2.2,.slice xb.1 xb.2.1 xb.2.2,.slice xy.1 xy.2.1 xy.2.2,.slice xz.1 xz.2.1 xz.2.2] 83)).heap.size=w.heap.size+1:=by simp
 obtain⟨wb,hwb⟩:∃wa,w.alloc (.cells #[.slice xa.1 xa.2.1 xa.2.2,.slice xb.1 xb.2.1 xb.2.2,.slice xy.1 xy.2.1 xy.2.2,.slice xz.1 xz.2.1 xz.2.2] 83)=wa:=⟨_,rfl⟩
 rw[hwb]at hb1 hbo hz1
 have hb2:Below wb.heap.size wb (wb.alloc (.cells #[.slice none 0 0,.slice none 0 0,.slice none 0 0,.slice none 0 0] 87)):=Bt;have hz0:(wb.alloc (.cells #[.slice none 0 0,.slice none 0 0,.slice none 0 0,.slice none 0 0] 87)).heap[wb.heap.size]? = some (z4 87):=heap_alloc_new wb _;have hz2:(wb.alloc (.cells #[.slice none 0 0,.slice none 0 0,.slice none 0 0,.slice none 0 0] 87)).heap.size=w.heap.size+1+1:=by simp[hz1]
 obtain⟨wa,hwa⟩:∃W,wb.alloc (.cells #[.slice none 0 0,.slice none 0 0,.slice none 0 0,.slice none 0 0] 87)=W:=⟨_,rfl⟩
 rw[hwa]at hb2 hz0 hz2
 rw[hz1]at hz0
 have hbx:=Ae hb1 hb2;have HB:=Ac hbx;have HCX:=Ac (hbo.below hb2 hbo.lt);have HZ0:=Ac hz0;have HCA:=Ac (Fit.of (hC.1.below hbx) lA);have HCB:=Ac (Fit.of (hC.2.1.below hbx) lB);have HCY:=Ac (Fit.of (hC.2.2.1.below hbx) lY);have HCZ:=Ac (Fit.of (hC.2.2.2.below hbx) lZ);have HSB:Aa (∀ {w':World},KT 87 (w.heap.size+1) wa w'->(w.heap.size+1)<=w'.heap.size):=⟨fun hk=>by have:=hk.k.bel.size;omega⟩
 clear hb1 hb2 hbo hz0 hz2 hbx hC lA lB lY lZ;go_enter Tryz.func60,Tryz.ntmps60;go_wp2;refine Ai (by kernel_rfl) (by kernel_rfl)
  [some (.pointer (some ⟨w.heap.size,0,none⟩)),some (.agg #[.slice xa.1 xa.2.1 xa.2.2]),none,some (.pointer (some ⟨w.heap.size,1,none⟩)),some (.agg #[.slice xb.1 xb.2.1 xb.2.2]),none,some (.pointer (some ⟨w.heap.size,2,none⟩)),some (.agg #[.slice xy.1 xy.2.1 xy.2.2]),none,some (.pointer (some ⟨w.heap.size,3,none⟩)),some (.agg #[.slice xz.1 xz.2.1 xz.2.2]),none,none,none]
  [false,false,true,false,false,true,false,false,true,false,false,true,true,true] rfl
  (fun w1 w2=>KT 87 (w.heap.size+1) w1 w2)
  (fun D w'=>KT 87 (w.heap.size+1) wa w'/\Tr (D 13) (w.heap.size+1) (z4 87) (nL A B Y Z) w')
  (fun i v w'=>match i with
   | 2=>Ak A v w'
   | 5=>Ak B v w'
   | 8=>Ak Y v w'
   | 11=>Ak Z v w'
   | 12=>Ui A B Y Z v w'
   | 13=>True
   | _=>True)
  ?_ ⟨KT.drew _ _ _,Tr.start HZ0.out⟩ ?_ ?_
 .intro i v w1 w2 hf hb;split at hf
  .exact hf.kt hb
  .exact hf.kt hb
  .exact hf.kt hb
  .exact hf.kt hb
  .exact hf.kt hb
  .exact hf
  .trivial
 .simp only[Ba,Nat.reduceAdd];refine⟨?_,?_,?_,?_,?_,?_,?_,?_,?_,?_,?_,?_,?_,?_,trivial⟩
  all_goals intro D sp w' hD hW hdp hbx'
  case refine_2 =>
   have g4:=(cells4 (HCX.out.below hbx'.1.k.bel (Nat.lt_succ_self _)).at_).1
   with_reducible refine Ad ?_ ?_
   all_goals simp[Region.wanted,yielded,execOp,Act.eval,Act.put,go_sem,g4.1]
  case refine_3 =>
   (with_reducible refine Ab (w1:=w') (f := 45) (args:=#[.agg #[.slice xa.1 xa.2.1 xa.2.2]]) ?_ ?_ ?_)
   .simp[Region.wanted,yielded,Act.put,go_sem]
   .simp[Act.eval,Act.put,go_sem]
   .refine(Ec (HCA.out.keep hbx'.1.k) (by decide)).mono ?_;rintro en w9 ⟨u,rfl,hu,hb⟩;exact⟨u,rfl,KT.of hb (HSB.out hbx'.1),hu,⟨hbx'.1.trans (KT.of hb (HSB.out hbx'.1)),by simpa [upd]using hbx'.2.later hb (fun o h=>h.below hb)⟩⟩
  case refine_5 =>
   have g4:=(cells4 (HCX.out.below hbx'.1.k.bel (Nat.lt_succ_self _)).at_).1
   with_reducible refine Ad ?_ ?_
   all_goals simp[Region.wanted,yielded,execOp,Act.eval,Act.put,go_sem,g4.2.1]
  case refine_6 =>
   (with_reducible refine Ab (w1:=w') (f := 45) (args:=#[.agg #[.slice xb.1 xb.2.1 xb.2.2]]) ?_ ?_ ?_)
   .simp[Region.wanted,yielded,Act.put,go_sem]
   .simp[Act.eval,Act.put,go_sem]
   .refine(Ec (HCB.out.keep hbx'.1.k) (by decide)).mono ?_;rintro en w9 ⟨u,rfl,hu,hb⟩;exact⟨u,rfl,KT.of hb (HSB.out hbx'.1),hu,⟨hbx'.1.trans (KT.of hb (HSB.out hbx'.1)),by simpa [upd]using hbx'.2.later hb (fun o h=>h.below hb)⟩⟩
  case refine_8 =>
   have g4:=(cells4 (HCX.out.below hbx'.1.k.bel (Nat.lt_succ_self _)).at_).1
   with_reducible refine Ad ?_ ?_
   all_goals simp[Region.wanted,yielded,execOp,Act.eval,Act.put,go_sem,g4.2.2.1]
  case refine_9 =>
   (with_reducible refine Ab (w1:=w') (f := 45) (args:=#[.agg #[.slice xy.1 xy.2.1 xy.2.2]]) ?_ ?_ ?_)
   .simp[Region.wanted,yielded,Act.put,go_sem]
   .simp[Act.eval,Act.put,go_sem]
   .refine(Ec (HCY.out.keep hbx'.1.k) (by decide)).mono ?_;rintro en w9 ⟨u,rfl,hu,hb⟩;exact⟨u,rfl,KT.of hb (HSB.out hbx'.1),hu,⟨hbx'.1.trans (KT.of hb (HSB.out hbx'.1)),by simpa [upd]using hbx'.2.later hb (fun o h=>h.below hb)⟩⟩
  case refine_11 =>
   have g4:=(cells4 (HCX.out.below hbx'.1.k.bel (Nat.lt_succ_self _)).at_).1
   with_reducible refine Ad ?_ ?_
   all_goals simp[Region.wanted,yielded,execOp,Act.eval,Act.put,go_sem,g4.2.2.2]
  case refine_12 =>
   (with_reducible refine Ab (w1:=w') (f := 45) (args:=#[.agg #[.slice xz.1 xz.2.1 xz.2.2]]) ?_ ?_ ?_)
   .simp[Region.wanted,yielded,Act.put,go_sem]
   .simp[Act.eval,Act.put,go_sem]
   .refine(Ec (HCZ.out.keep hbx'.1.k) (by decide)).mono ?_;rintro en w9 ⟨u,rfl,hu,hb⟩;exact⟨u,rfl,KT.of hb (HSB.out hbx'.1),hu,⟨hbx'.1.trans (KT.of hb (HSB.out hbx'.1)),by simpa [upd]using hbx'.2.later hb (fun o h=>h.below hb)⟩⟩
  case refine_13 =>
   have hxa:∃q m d,sp 2=.slice q m d/\Bb w' q m d A:=(hdp 2 (mq (by kernel_rfl))).2
   (with_reducible refine Exists.elim hxa fun qa hxa1=>Exists.elim hxa1 fun ma hxa2=>Exists.elim hxa2 fun da hxa3=>?_)
   have ha:=hxa3.1;have hxb:∃q m d,sp 5=.slice q m d/\Bb w' q m d B:=(hdp 5 (mq (by kernel_rfl))).2
   (with_reducible refine Exists.elim hxb fun qb hxb1=>Exists.elim hxb1 fun mb hxb2=>Exists.elim hxb2 fun db hxb3=>?_)
   have hb:=hxb3.1;have hxy:∃q m d,sp 8=.slice q m d/\Bb w' q m d Y:=(hdp 8 (mq (by kernel_rfl))).2
   (with_reducible refine Exists.elim hxy fun qy hxy1=>Exists.elim hxy1 fun my hxy2=>Exists.elim hxy2 fun dy hxy3=>?_)
   have hy:=hxy3.1;have hxz:∃q m d,sp 11=.slice q m d/\Bb w' q m d Z:=(hdp 11 (mq (by kernel_rfl))).2
   (with_reducible refine Exists.elim hxz fun qz hxz1=>Exists.elim hxz1 fun mz hxz2=>Exists.elim hxz2 fun dz hxz3=>?_)
   have hz:=hxz3.1
   (with_reducible refine Ag (w1:=w') (v:=.agg #[.slice qa ma da,.slice qb mb db,.slice qy my dy,.slice qz mz dz]) ?_ ?_ ?_)
   .simp only[Region.wanted]
   .simp[execOp,Act.eval,Act.put,go_sem,ha,hb,hy,hz]
   .exact⟨KT.same _ _ _,⟨(qa,ma,da),(qb,mb,db),(qy,my,dy),(qz,mz,dz),rfl,hxa3.2,hxb3.2,hxy3.2,hxz3.2⟩,by simpa [upd]using hbx'⟩
  case refine_14 =>
   have hx:∃xa xb xy xz:Option Addr×Nat×Nat,sp 12=.agg #[.slice xa.1 xa.2.1 xa.2.2,.slice xb.1 xb.2.1 xb.2.2,.slice xy.1 xy.2.1 xy.2.2,.slice xz.1 xz.2.1 xz.2.2]/\Qw A B Y Z xa xb xy xz w':=(hdp 12 (mq (by kernel_rfl))).2
   (with_reducible refine Exists.elim hx fun xa hx1=>Exists.elim hx1 fun xb hx2=>Exists.elim hx2 fun xy hx3=>Exists.elim hx3 fun xz hx4=>?_)
   have h1:=hx4.1;rw[hD]at hbx'
   have h6:w'.heap[(w.heap.size+1)]? = some (.cells #[.slice none 0 0,.slice none 0 0,.slice none 0 0,.slice none 0 0] 87 (0,0)):=hbx'.2.1 rfl;have hp:=put4 (u0:=.slice xa.1 xa.2.1 xa.2.2) (u1:=.slice xb.1 xb.2.1 xb.2.2) (u2:=.slice xy.1 xy.2.1 xy.2.2) (u3:=.slice xz.1 xz.2.1 xz.2.2) h6;have hkt:=hp.kt h6 (Wb (none,0,0) (none,0,0) (none,0,0) (none,0,0)) (Nat.le_refl _);have g6:=cells4 h6
   (with_reducible refine Ao (w1:=Tu w' (w.heap.size+1) (.slice xa.1 xa.2.1 xa.2.2) (.slice xb.1 xb.2.1 xb.2.2) (.slice xy.1 xy.2.1 xy.2.2) (.slice xz.1 xz.2.1 xz.2.2)) ?_ ?_ ?_)
   .simp only[Region.wanted]
   .simp[execOp,Act.eval,Act.put,go_sem,h1,g6.1.1,g6.1.2.1,g6.1.2.2.1,g6.1.2.2.2,g6.2.1,g6.2.2.1,g6.2.2.2.1,g6.2.2.2.2,Tu]
   .refine⟨hkt,trivial,hbx'.1.trans hkt,?_⟩;have h8:Tr true (w.heap.size+1) (z4 87) (nL A B Y Z) _:=Tr.done hp.new ⟨xa,xb,xy,xz,rfl,hx4.2.kt hkt⟩;simpa [upd]using h8
  all_goals ((with_reducible refine Ad ?_ ?_);all_goals first|(simp only[Region.wanted];done)|simp[Region.wanted,yielded,execOp,Act.eval,Act.put,go_sem])
 .intro sp w8 hsp hk;obtain⟨hk1,hk2⟩:=hk;obtain⟨_,hbox,ya,yb,yy,yz,rfl,hat⟩:=hk2.2 rfl;obtain⟨g0,g1,g2,g3⟩:=(cells4 hbox).1;have HV:Aa (Ui A B Y Z (.agg #[.slice ya.1 ya.2.1 ya.2.2,.slice yb.1 yb.2.1 yb.2.2,.slice yy.1 yy.2.1 yy.2.2,.slice yz.1 yz.2.1 yz.2.2]) w8):=⟨⟨ya,yb,yy,yz,rfl,hat⟩⟩
  have HBf:Aa (Below w.heap.size w w8):=⟨HB.out.trans (hk1.k.bel.mono (by omega))⟩
  clear hsp hk1 hk2 hbox hat hz1;simp only[An,Nat.reduceAdd];generalize sp 2=y2,sp 5=y5,sp 8=y8,sp 11=y11,sp 12=y12,sp 13=y13 at *
  go_simp
  go_wp2;exact bodyPost_ret (v:=.agg #[.slice ya.1 ya.2.1 ya.2.2,.slice yb.1 yb.2.1 yb.2.2,.slice yy.1 yy.2.1 yy.2.2,.slice yz.1 yz.2.1 yz.2.2]) (by simp[results,Tryz.results60,go_sem,g0,g1,g2,g3]) rfl ⟨_,rfl,HV.out,HBf.out⟩
open Go Go.RowKit
def four:List Nat:=[3,7,11,15]
def pp:Nat:=2^130-5
theorem pY {M X q Y:Nat}(hM:2<=M):(M:Int) ∣ ((Ko X (q*Y%M) M:Nat):Int)-((X:Int)-(q:Nat)*(Y:Int)):=by
 rw[Vz hM,Nat.mod_mod];have hlt:=Nat.mod_lt (q*Y) (show 0<M by omega);obtain⟨A,hA⟩:∃A,X%M+M-q*Y%M=A:=⟨_,rfl⟩
 rw[hA];have e1:=Nat.div_add_mod A M;have e2:=Nat.div_add_mod X M;have e3:=Nat.div_add_mod (q*Y) M;refine⟨1-(A/M:Nat)-(X/M:Nat)+(q*Y/M:Nat),?_⟩;rw[Int.mul_add,Int.mul_sub,Int.mul_sub,Int.mul_one,<- Int.natCast_mul q Y,<- Int.natCast_mul,<- Int.natCast_mul,<- Int.natCast_mul];generalize M*(A/M)=x at *;generalize M*(X/M)=y at *;generalize M*(q*Y/M)=z at *;generalize q*Y%M=r at *;generalize q*Y=s at *;omega
theorem mN {U:Nat}:Al U=1 ↔ U=1:=by
 constructor
 .intro h;have h1:=(Bd U 1).1 (by omega);rcases Nat.eq_zero_or_pos U with h0|h0
  .subst h0;have:Al 0=0:=by decide
   omega
  .omega
 .intro h;subst h;decide
def jF (M N:Nat)(w:World)(en:Ending)(w':World):Prop :=
 ∃(x:Value) (X:Nat) (B:Bool),en=.returned (.tuple #[x,.bool B])/\Ak X x w'/\(B=true ↔ Nat.gcd M N=1)/\(Nat.gcd M N=1->X<M/\X*N%M=1%M)/\Below w.heap.size w w'
theorem dF {w:World}{v u:Value}{N M:Nat}(h:Ak N v w)(k:Ak M u w)(hM:2<=M)(lN:Al N<=100000)(lM:Al M<=100000) :
  Calls Tryz.prog 134 #[v,u] w (jF M N w):=by
 obtain⟨qn,mn,dn,rfl,hn⟩:=h;obtain⟨qm,mm,dm,rfl,hm⟩:=k;have HN:=Ac (Ak.of hn);have HM:=Ac (Ak.of hm);have HM2:=Ac hM;have HLN:Aa (Al N<=900000):=⟨by omega⟩
 have HLM:=Ac lM;have HLM9:Aa (Al M<=900000):=⟨by omega⟩
 have HMM:=Ac hm;have HSM:Aa (∀x,x<M->Al x<=100000):=⟨fun x hx=>Nat.le_trans (Do (Nat.le_of_lt hx)) lM⟩
 clear hn hm hM lN lM;go_enter Tryz.func134,Tryz.ntmps134
 go_wp2_with fail
 refine(Gg HN.out HM.out HLN.out HLM9.out (by have:=HM2.out;omega)).mono ?_;rintro en w1 ⟨_,rfl,⟨qv,mv,dv,rfl,hv⟩,hb1⟩;have hbe:Below w1.heap.size w1 (w1.alloc (.cells #[] 4)):=Bt;have hx0:Bb (w1.alloc (.cells #[] 4)) (some ⟨w1.heap.size,0,none⟩) 0 0 0:=aS _ _ w1.heap.size 0 rfl (by simp);obtain⟨w2,hw2⟩:∃W,w1.alloc (.cells #[] 4)=W:=⟨_,rfl⟩
 rw[hw2]at hbe hx0
 obtain⟨bx,hbx⟩:∃b,w1.heap.size=b:=⟨_,rfl⟩
 rw[hbx]at hx0
 have HV:=Ac (hv.below hbe);have HX0:=Ac hx0;have HB2:=Ac (Ae hb1 hbe);clear hv hb1 hbe hx0
 go_wp2_with fail
 clear hw2 hbx;refine(Kp 1 w2 (by decide)).mono ?_;rintro en w3 ⟨qy,my,dy,rfl,hy,hb3,_⟩;have HU3:Aa (Bb w3 qm mm dm M):=⟨HMM.out.below (Ae HB2.out hb3)⟩
 have HV3:Aa (Bb w3 qv mv dv (N%M)):=⟨HV.out.below hb3⟩
 have HX3:Aa (Bb w3 (some ⟨bx,0,none⟩) 0 0 0):=⟨HX0.out.below hb3⟩
 have HY3:Aa (Bb w3 qy my dy 1):=⟨hy⟩
 have HB3:=Ac (Ae HB2.out hb3);clear hy hb3 HV HX0 HB2;go_wp2
 go_loopg [6,7,8,9] (N%M) (fun k uv vv xv yv wr=>∃(U X Y:Nat) (pu:Option Addr) (nu cu:Nat) (pv:Option Addr) (nv cv:Nat) (px:Option Addr) (nx cx:Nat) (py:Option Addr) (ny cy:Nat),uv=.slice pu nu cu/\vv=.slice pv nv cv/\xv=.slice px nx cx/\yv=.slice py ny cy/\Aa (Bb wr pu nu cu U)/\Aa (Bb wr pv nv cv k)/\Aa (Bb wr px nx cx X)/\Aa (Bb wr py ny cy Y)/\Aa (To M N U k X Y)/\Aa (k<U/\X<M/\Y<M)/\Aa (Below w.heap.size w wr))
 case atStart=>exact⟨M,0,1,qm,mm,dm,qv,mv,dv,some ⟨bx,0,none⟩,0,0,qy,my,dy,rfl,rfl,rfl,rfl,HU3,HV3,HX3,HY3,⟨To.start⟩,⟨Nat.mod_lt _ (by have:=HM2.out;omega),by have:=HM2.out;omega,by have:=HM2.out;omega⟩,HB3⟩
 case round =>
  obtain⟨U,X,Y,pu,nu,cu,pv,nv,cv,px,nx,cx,py,ny,cy,rfl,rfl,rfl,rfl,HU,HV,HX,HY,HD,HL,HB⟩:=hrel;clear HU3 HV3 HX3 HY3 HB3;have hnv:=Cb HV.out;have hnu:=Cb HU.out;have HMr:Aa (Ak M (.slice qm mm dm) wr):=⟨HM.out.below HB.out⟩
  rcases Nat.eq_zero_or_pos gk with h0|h0
  .have hm0:nv=0:=by rw[hnv,h0];rfl
   have hdn:=(show To M N U 0 X Y from h0 ▸ HD.out).done;have HXM:Aa (X%M=X):=⟨Nat.mod_eq_of_lt HL.out.2.1⟩
   have HOf:=Ac (Gg (Ak.of HX.out) HMr.out (by have:=HSM.out X HL.out.2.1;omega) HLM9.out (by have:=HM2.out;omega));obtain⟨B,hB⟩:∃B,((nu:Int)==1)=B:=⟨_,rfl⟩
   have HRES:Aa ((B=true ↔ Nat.gcd M N=1)/\(Nat.gcd M N=1->X<M/\X*N%M=1%M)):=⟨by
    rw[<- hdn.1];refine⟨?_,fun h1=>⟨HL.out.2.1,hdn.2 h1⟩⟩;rw[<- hB,beq_iff_eq,<- mN,<- hnu];omega⟩
   clear hnv hnu h0 hdn HU HV HX HY HD HL;subst hm0
   go_wp2_with fail
   refine HOf.out.mono ?_;rintro en w9 ⟨x,rfl,hx,hb⟩;rw[HXM.out]at hx
   have HXX:=Ac hx;have HBf:=Ac (Ae HB.out hb);clear hx hb HOf HB;go_wp2
   go_ret2
   exact⟨x,X,B,rfl,HXX.out,HRES.out.1,HRES.out.2,HBf.out⟩
  .have hm0:0<nv:=by rw[hnv];exact Gq h0
   have HLT:Aa (U%gk<gk):=⟨Nat.mod_lt _ h0⟩
   have H0:=Ac h0;have HBU:Aa (U<=M/\U/gk<=M):=⟨HD.out.le,Nat.le_trans (Nat.div_le_self _ _) HD.out.le⟩
   have HlU:Aa (Al U<=100000/\Al gk<=100000/\Al (U/gk)<=100000):=⟨Nat.le_trans (Do HBU.out.1) HLM.out,Nat.le_trans (Do (Nat.le_trans (Nat.le_of_lt HL.out.1) HBU.out.1)) HLM.out,Nat.le_trans (Do HBU.out.2) HLM.out⟩
   clear hnv hnu h0
   go_wp2_with fail
   refine(Ys (Ak.of HU.out) (Ak.of HV.out) (by have:=HlU.out;omega) (by have:=HlU.out;omega) H0.out).mono ?_;rintro en w4 ⟨pq,nq,cq,pr,nr,cr,rfl,hq,hr,hb4⟩;have HQ4:=Ac hq;have HR4:=Ac hr;have HV4:=Ac (HV.out.below hb4);have HX4:=Ac (HX.out.below hb4);have HY4:=Ac (HY.out.below hb4);have HM4:=Ac (HMr.out.below hb4);have HB4:=Ac (Ae HB.out hb4);clear hq hr hb4 HU HV HX HY HMr HB
   go_wp2_with fail
   refine(Oj (Ak.of HQ4.out) (Ak.of HY4.out) HM4.out HlU.out.2.2 (HSM.out Y HL.out.2.2) HLM.out (by have:=HM2.out;omega)).mono ?_;rintro en w5 ⟨_,rfl,ht,hb5⟩;have HT5:=Ac ht;have HR5:=Ac (HR4.out.below hb5);have HV5:=Ac (HV4.out.below hb5);have HX5:=Ac (HX4.out.below hb5);have HY5:=Ac (HY4.out.below hb5);have HM5:=Ac (HM4.out.below hb5);have HB5:=Ac (Ae HB4.out hb5);clear ht hb5 HQ4 HR4 HV4 HX4 HY4 HM4 HB4
   go_wp2_with fail
   refine(lK (Ak.of HX5.out) HT5.out HM5.out (HSM.out X HL.out.2.1) (HSM.out _ (Nat.mod_lt _ (by have:=HM2.out;omega))) HLM.out HM2.out).mono ?_;rintro en w6 ⟨_,rfl,⟨pz,nz,cz,rfl,hz⟩,hb6⟩;have HZ6:=Ac hz;have HR6:=Ac (HR5.out.below hb6);have HV6:=Ac (HV5.out.below hb6);have HY6:=Ac (HY5.out.below hb6);have HB6:=Ac (Ae HB5.out hb6);have HD6:Aa (To M N gk (U%gk) Y (Ko X (U/gk*Y%M) M)):=⟨HD.out.step HL.out.1 (pY HM2.out)⟩
   have HL6:Aa (U%gk<gk/\Y<M/\Ko X (U/gk*Y%M) M<M):=⟨HLT.out,HL.out.2.2,Vy HM2.out⟩
   clear hz hb6 HR5 HV5 HX5 HY5 HM5 HB5 HD HL HT5;go_wp2
   go_roundg (U%gk)
   case measure=>exact HLT.out
   case rel=>exact⟨gk,Y,_,pv,nv,cv,pr,nr,cr,py,ny,cy,pz,nz,cz,rfl,rfl,rfl,rfl,HV6,HR6,HY6,HZ6,HD6,HL6,HB6⟩
theorem Qk {w:World}{v u:Value}{P Q G H A:Nat}(h:Cq P Q G H v w)(hu:Ak A u w)(lA:Al A<=100000)(lP:Al P<=100000)(hP:2<=P) :
  Calls Tryz.prog 106 #[v,u] w fun e w'=>∃x,e=.returned x/\Ak (Qs P A) x w'/\Below w.heap.size w w':=by
 obtain⟨p0,n0,c0,p1,n1,c1,p2,n2,c2,p3,n3,c3,rfl,h0,h1,h2,h3⟩:=h.ex;have hbx:Below w.heap.size w (w.alloc (.cells #[.slice p0 n0 c0,.slice p1 n1 c1,.slice p2 n2 c2,.slice p3 n3 c3] 30)):=Bt;have hbo:=Ce.made 30 w (.slice p0 n0 c0) (.slice p1 n1 c1) (.slice p2 n2 c2) (.slice p3 n3 c3);obtain⟨wa,hwa⟩:∃wa,w.alloc (.cells #[.slice p0 n0 c0,.slice p1 n1 c1,.slice p2 n2 c2,.slice p3 n3 c3] 30)=wa:=⟨_,rfl⟩
 rw[hwa]at hbx hbo
 have HB:=Ac hbx;have HBX:=Ac hbo;have HV:Aa (Cq P Q G H (.agg #[.slice p0 n0 c0,.slice p1 n1 c1,.slice p2 n2 c2,.slice p3 n3 c3]) wa):=⟨⟨p0,n0,c0,p1,n1,c1,p2,n2,c2,p3,n3,c3,rfl,h0.below hbx,h1.below hbx,h2.below hbx,h3.below hbx⟩⟩
 obtain⟨q0,m0,d0,rfl,hu0⟩:=hu;have HC:=Ac (dF (Ak.of (hu0.below hbx)) (Ak.of (h0.below hbx)) hP lA lP);have HP:=Ac hP;have g0:=HBX.out.cells.1;clear h h0 h1 h2 h3 hbx hbo hu0 lA lP hP;go_enter Tryz.func106,Tryz.ntmps106
 go_wp2_with fail
 refine HC.out.mono ?_;rintro en w1 ⟨x,X,B,rfl,hx,hB,hI,hb1⟩;have HX:=Ac hx;have HB1:=Ac (Ae HB.out hb1)
 cases B with
 | true =>
  have HE:Aa (X=Qs P A):=⟨eK HP.out ⟨hI,fun h=>absurd (hB.1 rfl) h⟩⟩
  clear hx hb1 hB hI g0;go_wp2;go_ret;exact⟨x,rfl,by rw[<- HE.out];exact HX.out,HB1.out⟩
 | false =>
  have HE:Aa (Qs P A=0):=⟨(Mb HP.out A).2 (fun h=>by have:=hB.2 h;cases this)⟩
  have HN:Aa (Bb (w1.alloc (.cells #[] 4)) (some ⟨w1.heap.size,0,none⟩) 0 0 0):=⟨aS _ _ w1.heap.size 0 rfl (by simp)⟩
  have HB2:Aa (Below w.heap.size w (w1.alloc (.cells #[] 4))):=⟨Ae HB1.out ((Below.refl _ _).alloc (Nat.le_refl _) _)⟩
  clear hx hb1 hB hI g0;go_wp2;go_ret;exact⟨_,rfl,by rw[HE.out];exact Ak.of HN.out,HB2.out⟩
theorem fI {p:Option Addr}{n c W:Nat}(hW:W<=n)(hc:n<=c)(w:World) :
  (Instr.sliceAt 60 (.slice p n c) none (some (.int .i64 (W:Int))) none).run Tryz.prog w=.ok (.slice p W c) w:=by
 have hel:Tryz.prog.elem 60 = 5 := by kernel_rfl
 have hu:Tryz.prog.underlying 60 = some (.slice (Tryz.prog.elem 60)):=by rw[hel];exact Tryz.underlying60
 rw[run_sliceAt_slice w 60 _ _ _ _ hu,run_slice_h w 60 _ _ _ hu .i64 _ (by omega) (by omega)];have hs:(sizeOf (Tryz.prog.elem 60)).run Tryz.prog w=.ok 1 w:=by rw[hel];simp[go_sem]
 rw[hs];simp only[Result.andThen_ok,sliced];have e:p.map (·.add (0*1))=p:=by
  cases p with
  | none=>rfl
  | some a=>obtain⟨b,off,sp⟩:=a;simp[Addr.add]
 rw[e];simp
theorem fH {p:Option Addr}{n c W:Nat}(hW:W<=n)(hc:n<=c)(hWc:W<c)(w:World) :
  (Instr.sliceAt 60 (.slice p n c) (some (.int .i64 (W:Int))) none none).run Tryz.prog w=.ok (.slice (p.map fun x=>x.add W) (n-W) (c-W)) w:=by
 have hel:Tryz.prog.elem 60 = 5 := by kernel_rfl
 have hu:Tryz.prog.underlying 60 = some (.slice (Tryz.prog.elem 60)):=by rw[hel];exact Tryz.underlying60
 rw[run_sliceAt_slice w 60 _ _ _ _ hu,run_slice_l w 60 _ _ _ hu .i64 _ (by omega) (by omega)];have hs:(sizeOf (Tryz.prog.elem 60)).run Tryz.prog w=.ok 1 w:=by rw[hel];simp[go_sem]
 rw[hs];have hne:¬c=W:=by omega
 simp[Result.andThen_ok,sliced,hne]
theorem Sx {w:World}{v:Value}{P Q G H A B Y Z nm cm ns cs:Nat}{xa xb xy xz:Option Addr×Nat×Nat}{pm ps:Option Addr}{msg sig:List Nat}(h:Cq P Q G H v w)(hc:Qw A B Y Z xa xb xy xz w)(lA:Al A<=100000)(lB:Al B<=100000)(lY:Al Y<=100000)(lZ:Al Z<=100000)(hQ:2<=Q)(hP:2<=P)(hPs:Am P<=16)(hQs:Am Q<=16)(hm:Ar w ⟨pm,nm,cm,msg⟩)(hz:pm=none->cm=0)(hn:nm<=1000)(hs:Ar w ⟨ps,ns,cs,sig⟩) :
  Calls Tryz.prog 59 #[v,.agg #[.slice xa.1 xa.2.1 xa.2.2,.slice xb.1 xb.2.1 xb.2.2,.slice xy.1 xy.2.1 xy.2.2,.slice xz.1 xz.2.1 xz.2.2],.slice pm nm cm,.slice ps ns cs] w fun e w'=>∃X,e=.returned (.bool X)/\(X=true ↔ Gt P Q A B Y Z msg sig)/\Below w.heap.size w w':=by
 obtain⟨p0,n0,c0,p1,n1,c1,p2,n2,c2,p3,n3,c3,rfl,h0,h1,h2,h3⟩:=h.ex;have hb1:Below w.heap.size w (w.alloc (.cells #[.slice p0 n0 c0,.slice p1 n1 c1,.slice p2 n2 c2,.slice p3 n3 c3] 30)):=Bt;have hbo:=Ce.made 30 w (.slice p0 n0 c0) (.slice p1 n1 c1) (.slice p2 n2 c2) (.slice p3 n3 c3);have hz1:(w.alloc (.cells #[.slice p0 n0 c0,.slice p1 n1 c1,.slice p2 n2 c2,.slice p3 n3 c3] 30)).heap.size=w.heap.size+1:=by simp
 obtain⟨wb,hwb⟩:∃wa,w.alloc (.cells #[.slice p0 n0 c0,.slice p1 n1 c1,.slice p2 n2 c2,.slice p3 n3 c3] 30)=wa:=⟨_,rfl⟩
 rw[hwb]at hb1 hbo hz1
 have hb2:Below wb.heap.size wb (wb.alloc (.cells #[.slice xa.1 xa.2.1 xa.2.2,.slice xb.1 xb.2.1 xb.2.2,.slice xy.1 xy.2.1 xy.2.2,.slice xz.1 xz.2.1 xz.2.2] 87)):=Bt;have hco:=Ce.made 87 wb (.slice xa.1 xa.2.1 xa.2.2) (.slice xb.1 xb.2.1 xb.2.2) (.slice xy.1 xy.2.1 xy.2.2) (.slice xz.1 xz.2.1 xz.2.2);obtain⟨wa,hwa⟩:∃W,wb.alloc (.cells #[.slice xa.1 xa.2.1 xa.2.2,.slice xb.1 xb.2.1 xb.2.2,.slice xy.1 xy.2.1 xy.2.2,.slice xz.1 xz.2.1 xz.2.2] 87)=W:=⟨_,rfl⟩
 rw[hwa]at hb2 hco
 rw[hz1]at hco
 have hbx:=Ae hb1 hb2;have HB:=Ac hbx;have HBX:=Ac (hbo.below hb2 hbo.lt);have HCX:=Ac hco;have HAT:=Ac (hc.below hbx);have HV:Aa (Cq P Q G H (.agg #[.slice p0 n0 c0,.slice p1 n1 c1,.slice p2 n2 c2,.slice p3 n3 c3]) wa):=⟨⟨p0,n0,c0,p1,n1,c1,p2,n2,c2,p3,n3,c3,rfl,h0.below hbx,h1.below hbx,h2.below hbx,h3.below hbx⟩⟩
 have HM:=Ac (hm.below hbx);have HZM:=Ac hz;have HNM:=Ac hn;have HQB:=Ac (Ak.of (h1.below hbx));have HSG:=Ac hs;have HLA:=Ac lA;have HLB:=Ac lB;have HLY:=Ac lY;have HLZ:=Ac lZ;have HPf:=Ac hPs;have HQf:=Ac hQs;have HPl:Aa (Al P<=100000):=⟨Pe hPs⟩
 have HQl:Aa (Al Q<=100000):=⟨Pe hQs⟩
 have HQ0:Aa (0<Q):=⟨by omega⟩
 have HP0:Aa (0<P):=⟨by omega⟩
 have HP2:=Ac hP;have HLEN:Aa (ns=sig.length):=⟨hs.row.len⟩
 have hcap:ns<=cs:=hs.row.cap;have hmax:cs<=9223372036854775807:=hs.row.max;obtain⟨W,hW⟩:∃W,Am Q=W:=⟨_,rfl⟩
 have HW:=Ac hW;have hW1:1<=W:=Nat.pos_of_ne_zero fun h=>by
  have h3:=Gp Q;rw[hW,h]at h3
  have h5:Q<1:=h3;omega
 rw[hW]at hQs
 have HWD:=Ac (Oi HV.out HQl.out);obtain⟨g0,g1,g2,g3⟩:=(cells4 HBX.out.at_).1;clear h h0 h1 h2 h3 hbx hbo hc hb1 hb2 hco lA lB lY lZ hQ hP hPs hm hz hn hs hW;go_enter Tryz.func59,Tryz.ntmps59
 go_wp2_with fail
 refine HWD.out.mono ?_;rintro en w1 ⟨rfl,hb⟩;rw[HW.out];have HBX_:=HBX.out.below hb HBX.out.lt;have HCX_:=HCX.out.below hb HCX.out.lt;have HAT_:=HAT.out.below hb;have HV_:=HV.out.below hb;have HM_:=HM.out.below hb;have HQB_:=HQB.out.below hb;have HB_:=Ae HB.out hb;clear HBX HCX HAT HV HM HQB HB;have HBX:=Ac HBX_;have HCX:=Ac HCX_;have HAT:=Ac HAT_;have HV:=Ac HV_;have HM:=Ac HM_;have HQB:=Ac HQB_;have HB:=Ac HB_;clear HBX_ HCX_ HAT_ HV_ HM_ HQB_ HB_;clear hb HWD g0 g1 g2 g3;obtain⟨k0,k1,k2,k3⟩:=(cells4 HCX.out.at_).1;go_wp2;clear k0 k1 k2 k3 hwa hwb;have ix0:∀w:World,(Instr.index 159 (.agg #[.slice xa.1 xa.2.1 xa.2.2,.slice xb.1 xb.2.1 xb.2.2,.slice xy.1 xy.2.1 xy.2.2,.slice xz.1 xz.2.1 xz.2.2]) (.int .i64 0)).run Tryz.prog w=.ok (.slice xa.1 xa.2.1 xa.2.2) w:=fun _=>by kernel_rfl
 have ix1:∀w:World,(Instr.index 159 (.agg #[.slice xa.1 xa.2.1 xa.2.2,.slice xb.1 xb.2.1 xb.2.2,.slice xy.1 xy.2.1 xy.2.2,.slice xz.1 xz.2.1 xz.2.2]) (.int .i64 1)).run Tryz.prog w=.ok (.slice xb.1 xb.2.1 xb.2.2) w:=fun _=>by kernel_rfl
 have ix2:∀w:World,(Instr.index 159 (.agg #[.slice xa.1 xa.2.1 xa.2.2,.slice xb.1 xb.2.1 xb.2.2,.slice xy.1 xy.2.1 xy.2.2,.slice xz.1 xz.2.1 xz.2.2]) (.int .i64 2)).run Tryz.prog w=.ok (.slice xy.1 xy.2.1 xy.2.2) w:=fun _=>by kernel_rfl
 have ix3:∀w:World,(Instr.index 159 (.agg #[.slice xa.1 xa.2.1 xa.2.2,.slice xb.1 xb.2.1 xb.2.2,.slice xy.1 xy.2.1 xy.2.2,.slice xz.1 xz.2.1 xz.2.2]) (.int .i64 3)).run Tryz.prog w=.ok (.slice xz.1 xz.2.1 xz.2.2) w:=fun _=>by kernel_rfl
 go_loopw [11,27] (fun _ iv wr=>∃k:Nat,k<=4/\iv=.int .i64 k/\Aa ((1<=k->Cg P Q A)/\(2<=k->Cg P Q B)/\(3<=k->Cg P Q Y)/\(4<=k->Cg P Q Z))/\Aa (Below w1.heap.size w1 wr)) (fun _ iv _=>4-(intOf iv).toNat)
 case atStart=>exact⟨0,by omega,rfl,⟨⟨fun h=>by omega,fun h=>by omega,fun h=>by omega,fun h=>by omega⟩⟩,⟨Below.refl _ _⟩⟩
 case round =>
  obtain⟨k,hk,rfl,HJ,HBw⟩:=hrel;obtain⟨g0,g1,g2,g3⟩:=(cells4 (HBX.out.below HBw.out HBX.out.lt).at_).1;rcases(by omega:k=0 ∨ k=1 ∨ k=2 ∨ k=3 ∨ k=4) with rfl|rfl|rfl|rfl|rfl
  .by_cases hmb:0<A/\A<P/\A^Q%P=1
   .have HDT:Aa (∀i:Decidable (0<A/\A<P/\A^Q%P=1),@decide _ i=true):=⟨fun i=>@decide_eq_true _ i hmb⟩
    have HJ2:Aa (Cg P Q A):=⟨hmb⟩
    clear hmb
    go_wp2_with fail
    refine(Cw (HV.out.below HBw.out) ((HAT.out.below HBw.out).1) HPl.out HQl.out HLA.out HP0.out).mono ?_;rintro en w2 ⟨rfl,hb2⟩;simp only[HDT.out];have HB2:=Ac (Ae HBw.out hb2);clear hb2 g0 g1 g2 g3;go_wp2;go_roundw
    case rel=>exact⟨1,by omega,rfl,⟨⟨fun _=>HJ2.out,fun h=>by omega,fun h=>by omega,fun h=>by omega⟩⟩,HB2⟩
    case measure=>simp[intOf]
   .have HDT:Aa (∀i:Decidable (0<A/\A<P/\A^Q%P=1),@decide _ i=false):=⟨fun i=>@decide_eq_false _ i hmb⟩
    have HF:Aa (false=true ↔ Gt P Q A B Y Z msg sig):=⟨⟨(fun h=>by cases h),fun h=>absurd h.2.1.1 hmb⟩⟩
    clear hmb
    go_wp2_with fail
    refine(Cw (HV.out.below HBw.out) ((HAT.out.below HBw.out).1) HPl.out HQl.out HLA.out HP0.out).mono ?_;rintro en w2 ⟨rfl,hb2⟩;simp only[HDT.out];have HBf:=Ac (Ae HB.out (Ae HBw.out hb2));clear hb2 g0 g1 g2 g3;go_wp2;go_ret;exact⟨false,rfl,HF.out,HBf.out⟩
  .by_cases hmb:0<B/\B<P/\B^Q%P=1
   .have HDT:Aa (∀i:Decidable (0<B/\B<P/\B^Q%P=1),@decide _ i=true):=⟨fun i=>@decide_eq_true _ i hmb⟩
    have HJ2:Aa (Cg P Q A/\Cg P Q B):=⟨⟨(HJ.out.1 (by omega)),hmb⟩⟩
    clear hmb
    go_wp2_with fail
    refine(Cw (HV.out.below HBw.out) ((HAT.out.below HBw.out).2.1) HPl.out HQl.out HLB.out HP0.out).mono ?_;rintro en w2 ⟨rfl,hb2⟩;simp only[HDT.out];have HB2:=Ac (Ae HBw.out hb2);clear hb2 g0 g1 g2 g3;go_wp2;go_roundw
    case rel=>exact⟨2,by omega,rfl,⟨⟨fun _=>HJ2.out.1,fun _=>HJ2.out.2,fun h=>by omega,fun h=>by omega⟩⟩,HB2⟩
    case measure=>simp[intOf]
   .have HDT:Aa (∀i:Decidable (0<B/\B<P/\B^Q%P=1),@decide _ i=false):=⟨fun i=>@decide_eq_false _ i hmb⟩
    have HF:Aa (false=true ↔ Gt P Q A B Y Z msg sig):=⟨⟨(fun h=>by cases h),fun h=>absurd h.2.1.2.1 hmb⟩⟩
    clear hmb
    go_wp2_with fail
    refine(Cw (HV.out.below HBw.out) ((HAT.out.below HBw.out).2.1) HPl.out HQl.out HLB.out HP0.out).mono ?_;rintro en w2 ⟨rfl,hb2⟩;simp only[HDT.out];have HBf:=Ac (Ae HB.out (Ae HBw.out hb2));clear hb2 g0 g1 g2 g3;go_wp2;go_ret;exact⟨false,rfl,HF.out,HBf.out⟩
  .by_cases hmb:0<Y/\Y<P/\Y^Q%P=1
   .have HDT:Aa (∀i:Decidable (0<Y/\Y<P/\Y^Q%P=1),@decide _ i=true):=⟨fun i=>@decide_eq_true _ i hmb⟩
    have HJ2:Aa (Cg P Q A/\Cg P Q B/\Cg P Q Y):=⟨⟨(HJ.out.1 (by omega)),(HJ.out.2.1 (by omega)),hmb⟩⟩
    clear hmb
    go_wp2_with fail
    refine(Cw (HV.out.below HBw.out) ((HAT.out.below HBw.out).2.2.1) HPl.out HQl.out HLY.out HP0.out).mono ?_;rintro en w2 ⟨rfl,hb2⟩;simp only[HDT.out];have HB2:=Ac (Ae HBw.out hb2);clear hb2 g0 g1 g2 g3;go_wp2;go_roundw
    case rel=>exact⟨3,by omega,rfl,⟨⟨fun _=>HJ2.out.1,fun _=>HJ2.out.2.1,fun _=>HJ2.out.2.2,fun h=>by omega⟩⟩,HB2⟩
    case measure=>simp[intOf]
   .have HDT:Aa (∀i:Decidable (0<Y/\Y<P/\Y^Q%P=1),@decide _ i=false):=⟨fun i=>@decide_eq_false _ i hmb⟩
    have HF:Aa (false=true ↔ Gt P Q A B Y Z msg sig):=⟨⟨(fun h=>by cases h),fun h=>absurd h.2.1.2.2.1 hmb⟩⟩
    clear hmb
    go_wp2_with fail
    refine(Cw (HV.out.below HBw.out) ((HAT.out.below HBw.out).2.2.1) HPl.out HQl.out HLY.out HP0.out).mono ?_;rintro en w2 ⟨rfl,hb2⟩;simp only[HDT.out];have HBf:=Ac (Ae HB.out (Ae HBw.out hb2));clear hb2 g0 g1 g2 g3;go_wp2;go_ret;exact⟨false,rfl,HF.out,HBf.out⟩
  .by_cases hmb:0<Z/\Z<P/\Z^Q%P=1
   .have HDT:Aa (∀i:Decidable (0<Z/\Z<P/\Z^Q%P=1),@decide _ i=true):=⟨fun i=>@decide_eq_true _ i hmb⟩
    have HJ2:Aa (Cg P Q A/\Cg P Q B/\Cg P Q Y/\Cg P Q Z):=⟨⟨(HJ.out.1 (by omega)),(HJ.out.2.1 (by omega)),(HJ.out.2.2.1 (by omega)),hmb⟩⟩
    clear hmb
    go_wp2_with fail
    refine(Cw (HV.out.below HBw.out) ((HAT.out.below HBw.out).2.2.2) HPl.out HQl.out HLZ.out HP0.out).mono ?_;rintro en w2 ⟨rfl,hb2⟩;simp only[HDT.out];have HB2:=Ac (Ae HBw.out hb2);clear hb2 g0 g1 g2 g3;go_wp2;go_roundw
    case rel=>exact⟨4,by omega,rfl,⟨⟨fun _=>HJ2.out.1,fun _=>HJ2.out.2.1,fun _=>HJ2.out.2.2.1,fun _=>HJ2.out.2.2.2⟩⟩,HB2⟩
    case measure=>simp[intOf]
   .have HDT:Aa (∀i:Decidable (0<Z/\Z<P/\Z^Q%P=1),@decide _ i=false):=⟨fun i=>@decide_eq_false _ i hmb⟩
    have HF:Aa (false=true ↔ Gt P Q A B Y Z msg sig):=⟨⟨(fun h=>by cases h),fun h=>absurd h.2.1.2.2.2 hmb⟩⟩
    clear hmb
    go_wp2_with fail
    refine(Cw (HV.out.below HBw.out) ((HAT.out.below HBw.out).2.2.2) HPl.out HQl.out HLZ.out HP0.out).mono ?_;rintro en w2 ⟨rfl,hb2⟩;simp only[HDT.out];have HBf:=Ac (Ae HB.out (Ae HBw.out hb2));clear hb2 g0 g1 g2 g3;go_wp2;go_ret;exact⟨false,rfl,HF.out,HBf.out⟩
  .have HMM:Aa (aC P Q A B Y Z):=⟨⟨HJ.out.1 (by omega),HJ.out.2.1 (by omega),HJ.out.2.2.1 (by omega),HJ.out.2.2.2 (by omega)⟩⟩
   have hb:=HBw.out;have HBX_:=HBX.out.below hb HBX.out.lt;have HCX_:=HCX.out.below hb HCX.out.lt;have HAT_:=HAT.out.below hb;have HV_:=HV.out.below hb;have HM_:=HM.out.below hb;have HQB_:=HQB.out.below hb;have HB_:=Ae HB.out hb;clear HBX HCX HAT HV HM HQB HB;have HBX:=Ac HBX_;have HCX:=Ac HCX_;have HAT:=Ac HAT_;have HV:=Ac HV_;have HM:=Ac HM_;have HQB:=Ac HQB_;have HB:=Ac HB_;clear HBX_ HCX_ HAT_ HV_ HM_ HQB_ HB_;clear hb HBw HJ g0 g1 g2 g3 ix0 ix1 ix2 ix3
   by_cases hnl:ns=2*W
   .have hne:((ns:Int)!=2*(W:Int))=false:=by rw[hnl];simp
    have hWn:W<=ns:=by omega
    have hS1:=fun w'=>fI (p:=ps) (n:=ns) (c:=cs) (W:=W) hWn hcap w'
    have hS2:=fun w'=>fH (p:=ps) (n:=ns) (c:=cs) (W:=W) hWn hcap (by omega) w'
    obtain⟨p2s,hp2⟩:∃p,ps.map (fun x=>x.add W)=p:=⟨_,rfl⟩
    obtain⟨c2s,hc2⟩:∃c,cs-W=c:=⟨_,rfl⟩
    have hnW:ns-W=W:=by omega
    have HR10:Aa (Bf w .u8 ps W cs (sig.take W)):=⟨HSG.out.row.take W hWn⟩
    have HR20:Aa (Bf w .u8 p2s W c2s (sig.drop W)):=⟨by
     have h:=HSG.out.row.back hWn;unfold aU at h;rw[if_neg (show ¬cs-W=0 by omega),hnW,hc2,hp2]at h
     exact h⟩
    simp only[hp2,hnW,hc2]at hS2;have HS1:=Ac hS1;have HS2:=Ac hS2;have HLS:Aa (sig.length=2*W):=⟨by have:=HLEN.out;omega⟩
    have HW1k:Aa (W<=1000):=⟨by omega⟩
    have HC8:Aa (Aw (sig.take W)):=⟨HSG.out.bytes.take W⟩
    have HS8:Aa (Aw (sig.drop W)):=⟨fun x hx=>HSG.out.bytes x (List.mem_of_mem_drop hx)⟩
    obtain⟨CC,hCC⟩:∃C,be (sig.take W)=C:=⟨_,rfl⟩
    obtain⟨SS,hSS⟩:∃C,be (sig.drop W)=C:=⟨_,rfl⟩
    have HCE:=Ac hCC;have HSE:=Ac hSS;have HOK:Aa (Gt P Q A B Y Z msg sig ↔ (CC<Q/\SS<Q)/\Nb P Q A B Y Z (Jq P A Y CC SS) (Jq P B Z CC SS) msg=CC):=⟨by
     unfold Gt Fu;rw[HW.out,hCC,hSS];exact⟨fun h=>⟨h.1.2,h.2.2⟩,fun h=>⟨⟨HLS.out,h.1⟩,HMM.out,h.2⟩⟩⟩
    clear hCC hSS hS1 hS2 hp2 hc2 hnW hWn hcap hmax hnl;have HR1:=Ac (HR10.out.below HB.out);have HR2:=Ac (HR20.out.below HB.out);go_wp2;clear hne;refine Ai (by kernel_rfl) (by kernel_rfl)
     [some (.slice ps ns cs),some (.int .i64 (W:Nat)),some (.slice ps W cs),none,some (.slice ps ns cs),some (.int .i64 (W:Nat)),some (.slice p2s W c2s),none,none,none]
     [false,false,false,true,false,false,false,true,true,true] rfl
     (fun w1 w2=>Below w1.heap.size w1 w2)
     (fun _ w'=>Below wr.heap.size wr w')
     (fun i v w'=>match i with
      | 3=>Ak CC v w'
      | 7=>Ak SS v w'
      | 8=>Ak CC v w'
      | 9=>Ak SS v w'
      | _=>True)
     ?_ (Below.refl _ _).drew ?_ ?_
    .intro i v w1 w2 hf hb;split at hf
     .exact hf.below hb
     .exact hf.below hb
     .exact hf.below hb
     .exact hf.below hb
     .trivial
    .simp only[Ba,Nat.reduceAdd];refine⟨?_,?_,?_,?_,?_,?_,?_,?_,?_,?_,trivial⟩
     all_goals intro D sp w' hD hW hdp hbx'
     case refine_3 =>
      have cv:=HS1.out w'
      with_reducible refine Ad ?_ ?_
      all_goals simp[Region.wanted,yielded,execOp,Act.eval,Act.put,go_sem,cv]
     case refine_4 =>
      (with_reducible refine Ab (w1:=w') (f := 97) (args:=#[.slice ps W cs]) ?_ ?_ ?_)
      .simp[Region.wanted,yielded,Act.put,go_sem]
      .simp[Act.eval,Act.put,go_sem]
      .refine(Nx w' _ W _ _ ((HR1.out.below hbx')) (HC8.out) HW1k.out).mono ?_;rintro en w9 ⟨q9,m9,d9,rfl,hu,hb,_⟩;rw[HCE.out]at hu
       exact⟨_,rfl,hb,Ak.of hu,Ae hbx' hb⟩
     case refine_7 =>
      have cv:=HS2.out w'
      with_reducible refine Ad ?_ ?_
      all_goals simp[Region.wanted,yielded,execOp,Act.eval,Act.put,go_sem,cv]
     case refine_8 =>
      (with_reducible refine Ab (w1:=w') (f := 97) (args:=#[.slice p2s W c2s]) ?_ ?_ ?_)
      .simp[Region.wanted,yielded,Act.put,go_sem]
      .simp[Act.eval,Act.put,go_sem]
      .refine(Nx w' _ W _ _ ((HR2.out.below hbx')) (HS8.out) HW1k.out).mono ?_;rintro en w9 ⟨q9,m9,d9,rfl,hu,hb,_⟩;rw[HSE.out]at hu
       exact⟨_,rfl,hb,Ak.of hu,Ae hbx' hb⟩
     case refine_9 =>
      have k3:Ak CC (sp 3) w':=(hdp 3 (mq (by kernel_rfl))).2
      (with_reducible refine Ag (w1:=w') (v:=sp 3) ?_ ?_ ?_)
      .simp[Region.wanted,yielded,Act.put,go_sem]
      .simp[execOp,Act.eval,Act.put,go_sem]
      .exact⟨Below.refl _ _,k3,hbx'⟩
     case refine_10 =>
      have k7:Ak SS (sp 7) w':=(hdp 7 (mq (by kernel_rfl))).2
      (with_reducible refine Ag (w1:=w') (v:=sp 7) ?_ ?_ ?_)
      .simp[Region.wanted,yielded,Act.put,go_sem]
      .simp[execOp,Act.eval,Act.put,go_sem]
      .exact⟨Below.refl _ _,k7,hbx'⟩
     all_goals ((with_reducible refine Ad ?_ ?_);all_goals first|(simp only[Region.wanted];done)|simp[Region.wanted,yielded,execOp,Act.eval,Act.put,go_sem])
    .intro sp w3 hsp hb;obtain⟨qc,mc,dc,ec,hc⟩:Ak CC (sp 8) w3:=hsp 8 rfl;obtain⟨qs,ms,ds,es,hs'⟩:Ak SS (sp 9) w3:=hsp 9 rfl;have HC:=Ac (Ak.of hc);have HS:=Ac (Ak.of hs');clear hsp hc hs' HR1 HR2;have HBX_:=HBX.out.below hb HBX.out.lt;have HCX_:=HCX.out.below hb HCX.out.lt;have HAT_:=HAT.out.below hb;have HV_:=HV.out.below hb;have HM_:=HM.out.below hb;have HQB_:=HQB.out.below hb;have HB_:=Ae HB.out hb;clear HBX HCX HAT HV HM HQB HB;have HBX:=Ac HBX_;have HCX:=Ac HCX_;have HAT:=Ac HAT_;have HV:=Ac HV_;have HM:=Ac HM_;have HQB:=Ac HQB_;have HB:=Ac HB_;clear HBX_ HCX_ HAT_ HV_ HM_ HQB_ HB_;clear hb;simp only[An,Nat.reduceAdd];rw[ec,es];clear ec es;generalize sp 3=y3,sp 7=y7 at *
     go_simp
     obtain⟨g0,g1,g2,g3⟩:=(cells4 HBX.out.at_).1;obtain⟨K1,hK1⟩:∃K,Bi CC Q=K:=⟨_,rfl⟩
     obtain⟨K2,hK2⟩:∃K,Bi SS Q=K:=⟨_,rfl⟩
     have HK1:=Ac hK1;have HK2:=Ac hK2;have HCb:Aa (Al CC<=1000000/\Al SS<=1000000/\Al Q<=1000000):=⟨by
      have h1:=Xq HC8.out;have h2:=Xq HS8.out;have h3:=HQl.out;rw[HCE.out]at h1
      rw[HSE.out]at h2
      have h4:(sig.take W).length<=W:=List.length_take_le _ _;have h5:(sig.drop W).length<=2*W:=by rw[List.length_drop,HLS.out];omega
      have h6:=HW1k.out;exact⟨by omega,by omega,by omega⟩⟩
     by_cases hcq:CC<Q
     .have hk1:¬0<=K1:=by have:=Ll.2 hcq;rw[hK1]at this;omega
      clear hK1
      go_wp2_with fail
      refine(Hr HC.out HQB.out HCb.out.1 HCb.out.2.2).mono ?_;rintro en w4 ⟨_,rfl,rfl,hb⟩;rw[HK1.out];clear g0 g1 g2 g3;have HBX_:=HBX.out.below hb HBX.out.lt;have HCX_:=HCX.out.below hb HCX.out.lt;have HAT_:=HAT.out.below hb;have HV_:=HV.out.below hb;have HM_:=HM.out.below hb;have HQB_:=HQB.out.below hb;have HB_:=Ae HB.out hb;have HC_:=HC.out.below hb;have HS_:=HS.out.below hb;clear HBX HCX HAT HV HM HQB HB HC HS;have HBX:=Ac HBX_;have HCX:=Ac HCX_;have HAT:=Ac HAT_;have HV:=Ac HV_;have HM:=Ac HM_;have HQB:=Ac HQB_;have HB:=Ac HB_;have HC:=Ac HC_;have HS:=Ac HS_;clear HBX_ HCX_ HAT_ HV_ HM_ HQB_ HB_ HC_ HS_;clear hb;obtain⟨g0,g1,g2,g3⟩:=(cells4 HBX.out.at_).1
      by_cases hsq:SS<Q
      .have hk2:¬0<=K2:=by have:=Ll.2 hsq;rw[hK2]at this;omega
       have HIN:Aa (CC<Q/\SS<Q):=⟨hcq,hsq⟩
       clear hK2 hcq hsq
       go_wp2_with fail
       refine(Hr HS.out HQB.out HCb.out.2.1 HCb.out.2.2).mono ?_;rintro en w5 ⟨_,rfl,rfl,hb⟩;rw[HK2.out];clear g0 g1 g2 g3;have HBX_:=HBX.out.below hb HBX.out.lt;have HCX_:=HCX.out.below hb HCX.out.lt;have HAT_:=HAT.out.below hb;have HV_:=HV.out.below hb;have HM_:=HM.out.below hb;have HQB_:=HQB.out.below hb;have HB_:=Ae HB.out hb;have HC_:=HC.out.below hb;have HS_:=HS.out.below hb;clear HBX HCX HAT HV HM HQB HB HC HS;have HBX:=Ac HBX_;have HCX:=Ac HCX_;have HAT:=Ac HAT_;have HV:=Ac HV_;have HM:=Ac HM_;have HQB:=Ac HQB_;have HB:=Ac HB_;have HC:=Ac HC_;have HS:=Ac HS_;clear HBX_ HCX_ HAT_ HV_ HM_ HQB_ HB_ HC_ HS_;clear hb;have HCl:Aa (Al CC<=100000):=⟨Dd HIN.out.1 HQf.out⟩
       have HSl:Aa (Al SS<=100000):=⟨Dd HIN.out.2 HQf.out⟩
       obtain⟨GS,hGS⟩:∃Z_,A^SS%P=Z_:=⟨_,rfl⟩
       obtain⟨ZZ,hZZ⟩:∃Z_,Qs P Y=Z_:=⟨_,rfl⟩
       obtain⟨ZC,hZC⟩:∃Z_,ZZ^CC%P=Z_:=⟨_,rfl⟩
       obtain⟨UU,hAA⟩:∃Z_,GS*ZC%P=Z_:=⟨_,rfl⟩
       have HGS:=Ac hGS;have HZZ:=Ac hZZ;have HZC:=Ac hZC;have HAA:=Ac hAA;have HUUE:Aa (Jq P A Y CC SS=UU):=⟨by unfold Jq;rw[hZZ,hGS,hZC,hAA]⟩
       have hzl:ZZ<P:=by
        have hi:=Mb HP2.out Y;rw[hZZ]at hi
        by_cases hg:Nat.gcd P Y=1
        .exact(hi.1 hg).1
        .rw[hi.2 hg];exact HP0.out
       have HZl:Aa (Al ZZ<=100000):=⟨Dd hzl HPf.out⟩
       have HGSl:Aa (Al GS<=100000):=⟨Dd (by rw[<- hGS];exact Nat.mod_lt _ HP0.out) HPf.out⟩
       have HZCl:Aa (Al ZC<=100000):=⟨Dd (by rw[<- hZC];exact Nat.mod_lt _ HP0.out) HPf.out⟩
       have HUUl:Aa (UU<P):=⟨by rw[<- hAA];exact Nat.mod_lt _ HP0.out⟩
       clear hGS hZZ hZC hAA hzl;go_wp2;refine Ai (by kernel_rfl) (by kernel_rfl)
        [some (.agg #[.slice p0 n0 c0,.slice p1 n1 c1,.slice p2 n2 c2,.slice p3 n3 c3]),some (.agg #[.slice p0 n0 c0,.slice p1 n1 c1,.slice p2 n2 c2,.slice p3 n3 c3]),some (.pointer (some ⟨w.heap.size+1,0,none⟩)),some (.slice xa.1 xa.2.1 xa.2.2),some (.slice qs ms ds),none,some (.agg #[.slice p0 n0 c0,.slice p1 n1 c1,.slice p2 n2 c2,.slice p3 n3 c3]),some (.agg #[.slice p0 n0 c0,.slice p1 n1 c1,.slice p2 n2 c2,.slice p3 n3 c3]),some (.pointer (some ⟨w.heap.size+1,2,none⟩)),some (.slice xy.1 xy.2.1 xy.2.2),none,some (.slice qc mc dc),none,none,none]
        [false,false,false,false,false,true,false,false,false,false,true,false,true,true,true] rfl
        (fun w1 w2=>Below w1.heap.size w1 w2)
        (fun _ w'=>Below w5.heap.size w5 w')
        (fun i v w'=>match i with
         | 5=>Ak GS v w'
         | 10=>Ak ZZ v w'
         | 12=>Ak ZC v w'
         | 13=>Ak UU v w'
         | 14=>Ak UU v w'
         | _=>True)
        ?_ (Below.refl _ _).drew ?_ ?_
       .intro i v w1 w2 hf hb;split at hf
        .exact hf.below hb
        .exact hf.below hb
        .exact hf.below hb
        .exact hf.below hb
        .exact hf.below hb
        .trivial
       .simp only[Ba,Nat.reduceAdd];refine⟨?_,?_,?_,?_,?_,?_,?_,?_,?_,?_,?_,?_,?_,?_,?_,trivial⟩
        all_goals intro D sp w' hD hW hdp hbx'
        case refine_1|refine_2|refine_7|refine_8 =>
         have g4:=(cells4 (HBX.out.below hbx' HBX.out.lt).at_).1
         with_reducible refine Ad ?_ ?_
         all_goals simp[Region.wanted,yielded,execOp,Act.eval,Act.put,go_sem,g4.1,g4.2.1,g4.2.2.1,g4.2.2.2]
        case refine_4 =>
         have g4:=(cells4 (HCX.out.below hbx' HCX.out.lt).at_).1
         with_reducible refine Ad ?_ ?_
         all_goals simp[Region.wanted,yielded,execOp,Act.eval,Act.put,go_sem,g4.1]
        case refine_6 =>
         (with_reducible refine Ab (w1:=w') (f := 86) (args:=#[.agg #[.slice p0 n0 c0,.slice p1 n1 c1,.slice p2 n2 c2,.slice p3 n3 c3],.slice xa.1 xa.2.1 xa.2.2,.slice qs ms ds]) ?_ ?_ ?_)
         .simp[Region.wanted,yielded,Act.put,go_sem]
         .simp[Act.eval,Act.put,go_sem]
         .refine(Ik (HV.out.below hbx') ((HAT.out.1.bits).below hbx') (HS.out.below hbx') HLA.out (HSl.out) HPl.out HP0.out).mono ?_;rintro en w9 ⟨u,rfl,hu,hb⟩;rw[HGS.out]at hu
          exact⟨u,rfl,hb,hu,Ae hbx' hb⟩
        case refine_10 =>
         have g4:=(cells4 (HCX.out.below hbx' HCX.out.lt).at_).1
         with_reducible refine Ad ?_ ?_
         all_goals simp[Region.wanted,yielded,execOp,Act.eval,Act.put,go_sem,g4.2.2.1]
        case refine_11 =>
         (with_reducible refine Ab (w1:=w') (f := 106) (args:=#[.agg #[.slice p0 n0 c0,.slice p1 n1 c1,.slice p2 n2 c2,.slice p3 n3 c3],.slice xy.1 xy.2.1 xy.2.2]) ?_ ?_ ?_)
         .simp[Region.wanted,yielded,Act.put,go_sem]
         .simp[Act.eval,Act.put,go_sem]
         .refine(Qk (HV.out.below hbx') ((HAT.out.2.2.1.bits).below hbx') HLY.out HPl.out HP2.out).mono ?_;rintro en w9 ⟨u,rfl,hu,hb⟩;rw[HZZ.out]at hu
          exact⟨u,rfl,hb,hu,Ae hbx' hb⟩
        case refine_13 =>
         have k10:Ak ZZ (sp 10) w':=(hdp 10 (mq (by kernel_rfl))).2
         (with_reducible refine Ab (w1:=w') (f := 86) (args:=#[.agg #[.slice p0 n0 c0,.slice p1 n1 c1,.slice p2 n2 c2,.slice p3 n3 c3],sp 10,.slice qc mc dc]) ?_ ?_ ?_)
         .simp[Region.wanted,yielded,Act.put,go_sem]
         .simp[Act.eval,Act.put,go_sem]
         .refine(Ik (HV.out.below hbx') (k10) (HC.out.below hbx') HZl.out (HCl.out) HPl.out HP0.out).mono ?_;rintro en w9 ⟨u,rfl,hu,hb⟩;rw[HZC.out]at hu
          exact⟨u,rfl,hb,hu,Ae hbx' hb⟩
        case refine_14 =>
         have k5:Ak GS (sp 5) w':=(hdp 5 (mq (by kernel_rfl))).2;have k12:Ak ZC (sp 12) w':=(hdp 12 (mq (by kernel_rfl))).2
         (with_reducible refine Ab (w1:=w') (f := 85) (args:=#[.agg #[.slice p0 n0 c0,.slice p1 n1 c1,.slice p2 n2 c2,.slice p3 n3 c3],sp 5,sp 12]) ?_ ?_ ?_)
         .simp[Region.wanted,yielded,Act.put,go_sem]
         .simp[Act.eval,Act.put,go_sem]
         .refine(Qj (HV.out.below hbx') k5 k12 HGSl.out HZCl.out HPl.out HP0.out).mono ?_;rintro en w9 ⟨u,rfl,hu,hb⟩;rw[HAA.out]at hu
          exact⟨u,rfl,hb,hu,Ae hbx' hb⟩
        case refine_15 =>
         have k13:Ak UU (sp 13) w':=(hdp 13 (mq (by kernel_rfl))).2
         (with_reducible refine Ag (w1:=w') (v:=sp 13) ?_ ?_ ?_)
         .simp[Region.wanted,yielded,Act.put,go_sem]
         .simp[execOp,Act.eval,Act.put,go_sem]
         .exact⟨Below.refl _ _,k13,hbx'⟩
        all_goals ((with_reducible refine Ad ?_ ?_);all_goals first|(simp only[Region.wanted];done)|simp[Region.wanted,yielded,execOp,Act.eval,Act.put,go_sem])
       .intro sp w6 hsp hb;obtain⟨qu,mu,du,eu,hu⟩:Ak UU (sp 14) w6:=hsp 14 rfl;have HU:=Ac (Ak.of hu);clear hsp hu HGS HZZ HZC HAA HZl HGSl HZCl;have HBX_:=HBX.out.below hb HBX.out.lt;have HCX_:=HCX.out.below hb HCX.out.lt;have HAT_:=HAT.out.below hb;have HV_:=HV.out.below hb;have HM_:=HM.out.below hb;have HQB_:=HQB.out.below hb;have HB_:=Ae HB.out hb;have HC_:=HC.out.below hb;have HS_:=HS.out.below hb;clear HBX HCX HAT HV HM HQB HB HC HS;have HBX:=Ac HBX_;have HCX:=Ac HCX_;have HAT:=Ac HAT_;have HV:=Ac HV_;have HM:=Ac HM_;have HQB:=Ac HQB_;have HB:=Ac HB_;have HC:=Ac HC_;have HS:=Ac HS_;clear HBX_ HCX_ HAT_ HV_ HM_ HQB_ HB_ HC_ HS_;clear hb;simp only[An,Nat.reduceAdd];rw[eu];clear eu;generalize sp 5=y5,sp 10=y10,sp 12=y12,sp 13=y13 at *
        go_simp
        obtain⟨GS,hGS⟩:∃Z_,B^SS%P=Z_:=⟨_,rfl⟩
        obtain⟨ZZ,hZZ⟩:∃Z_,Qs P Z=Z_:=⟨_,rfl⟩
        obtain⟨ZC,hZC⟩:∃Z_,ZZ^CC%P=Z_:=⟨_,rfl⟩
        obtain⟨VV,hAA⟩:∃Z_,GS*ZC%P=Z_:=⟨_,rfl⟩
        have HGS:=Ac hGS;have HZZ:=Ac hZZ;have HZC:=Ac hZC;have HAA:=Ac hAA;have HVVE:Aa (Jq P B Z CC SS=VV):=⟨by unfold Jq;rw[hZZ,hGS,hZC,hAA]⟩
        have hzl:ZZ<P:=by
         have hi:=Mb HP2.out Z;rw[hZZ]at hi
         by_cases hg:Nat.gcd P Z=1
         .exact(hi.1 hg).1
         .rw[hi.2 hg];exact HP0.out
        have HZl:Aa (Al ZZ<=100000):=⟨Dd hzl HPf.out⟩
        have HGSl:Aa (Al GS<=100000):=⟨Dd (by rw[<- hGS];exact Nat.mod_lt _ HP0.out) HPf.out⟩
        have HZCl:Aa (Al ZC<=100000):=⟨Dd (by rw[<- hZC];exact Nat.mod_lt _ HP0.out) HPf.out⟩
        have HVVl:Aa (VV<P):=⟨by rw[<- hAA];exact Nat.mod_lt _ HP0.out⟩
        clear hGS hZZ hZC hAA hzl;go_wp2;refine Ai (by kernel_rfl) (by kernel_rfl)
         [some (.agg #[.slice p0 n0 c0,.slice p1 n1 c1,.slice p2 n2 c2,.slice p3 n3 c3]),some (.agg #[.slice p0 n0 c0,.slice p1 n1 c1,.slice p2 n2 c2,.slice p3 n3 c3]),some (.pointer (some ⟨w.heap.size+1,1,none⟩)),some (.slice xb.1 xb.2.1 xb.2.2),some (.slice qs ms ds),none,some (.agg #[.slice p0 n0 c0,.slice p1 n1 c1,.slice p2 n2 c2,.slice p3 n3 c3]),some (.agg #[.slice p0 n0 c0,.slice p1 n1 c1,.slice p2 n2 c2,.slice p3 n3 c3]),some (.pointer (some ⟨w.heap.size+1,3,none⟩)),some (.slice xz.1 xz.2.1 xz.2.2),none,some (.slice qc mc dc),none,none,none]
         [false,false,false,false,false,true,false,false,false,false,true,false,true,true,true] rfl
         (fun w1 w2=>Below w1.heap.size w1 w2)
         (fun _ w'=>Below w6.heap.size w6 w')
         (fun i v w'=>match i with
          | 5=>Ak GS v w'
          | 10=>Ak ZZ v w'
          | 12=>Ak ZC v w'
          | 13=>Ak VV v w'
          | 14=>Ak VV v w'
          | _=>True)
         ?_ (Below.refl _ _).drew ?_ ?_
        .intro i v w1 w2 hf hb;split at hf
         .exact hf.below hb
         .exact hf.below hb
         .exact hf.below hb
         .exact hf.below hb
         .exact hf.below hb
         .trivial
        .simp only[Ba,Nat.reduceAdd];refine⟨?_,?_,?_,?_,?_,?_,?_,?_,?_,?_,?_,?_,?_,?_,?_,trivial⟩
         all_goals intro D sp w' hD hW hdp hbx'
         case refine_1|refine_2|refine_7|refine_8 =>
          have g4:=(cells4 (HBX.out.below hbx' HBX.out.lt).at_).1
          with_reducible refine Ad ?_ ?_
          all_goals simp[Region.wanted,yielded,execOp,Act.eval,Act.put,go_sem,g4.1,g4.2.1,g4.2.2.1,g4.2.2.2]
         case refine_4 =>
          have g4:=(cells4 (HCX.out.below hbx' HCX.out.lt).at_).1
          with_reducible refine Ad ?_ ?_
          all_goals simp[Region.wanted,yielded,execOp,Act.eval,Act.put,go_sem,g4.2.1]
         case refine_6 =>
          (with_reducible refine Ab (w1:=w') (f := 86) (args:=#[.agg #[.slice p0 n0 c0,.slice p1 n1 c1,.slice p2 n2 c2,.slice p3 n3 c3],.slice xb.1 xb.2.1 xb.2.2,.slice qs ms ds]) ?_ ?_ ?_)
          .simp[Region.wanted,yielded,Act.put,go_sem]
          .simp[Act.eval,Act.put,go_sem]
          .refine(Ik (HV.out.below hbx') ((HAT.out.2.1.bits).below hbx') (HS.out.below hbx') HLB.out (HSl.out) HPl.out HP0.out).mono ?_;rintro en w9 ⟨u,rfl,hu,hb⟩;rw[HGS.out]at hu
           exact⟨u,rfl,hb,hu,Ae hbx' hb⟩
         case refine_10 =>
          have g4:=(cells4 (HCX.out.below hbx' HCX.out.lt).at_).1
          with_reducible refine Ad ?_ ?_
          all_goals simp[Region.wanted,yielded,execOp,Act.eval,Act.put,go_sem,g4.2.2.2]
         case refine_11 =>
          (with_reducible refine Ab (w1:=w') (f := 106) (args:=#[.agg #[.slice p0 n0 c0,.slice p1 n1 c1,.slice p2 n2 c2,.slice p3 n3 c3],.slice xz.1 xz.2.1 xz.2.2]) ?_ ?_ ?_)
          .simp[Region.wanted,yielded,Act.put,go_sem]
          .simp[Act.eval,Act.put,go_sem]
          .refine(Qk (HV.out.below hbx') ((HAT.out.2.2.2.bits).below hbx') HLZ.out HPl.out HP2.out).mono ?_;rintro en w9 ⟨u,rfl,hu,hb⟩;rw[HZZ.out]at hu
           exact⟨u,rfl,hb,hu,Ae hbx' hb⟩
         case refine_13 =>
          have k10:Ak ZZ (sp 10) w':=(hdp 10 (mq (by kernel_rfl))).2
          (with_reducible refine Ab (w1:=w') (f := 86) (args:=#[.agg #[.slice p0 n0 c0,.slice p1 n1 c1,.slice p2 n2 c2,.slice p3 n3 c3],sp 10,.slice qc mc dc]) ?_ ?_ ?_)
          .simp[Region.wanted,yielded,Act.put,go_sem]
          .simp[Act.eval,Act.put,go_sem]
          .refine(Ik (HV.out.below hbx') (k10) (HC.out.below hbx') HZl.out (HCl.out) HPl.out HP0.out).mono ?_;rintro en w9 ⟨u,rfl,hu,hb⟩;rw[HZC.out]at hu
           exact⟨u,rfl,hb,hu,Ae hbx' hb⟩
         case refine_14 =>
          have k5:Ak GS (sp 5) w':=(hdp 5 (mq (by kernel_rfl))).2;have k12:Ak ZC (sp 12) w':=(hdp 12 (mq (by kernel_rfl))).2
          (with_reducible refine Ab (w1:=w') (f := 85) (args:=#[.agg #[.slice p0 n0 c0,.slice p1 n1 c1,.slice p2 n2 c2,.slice p3 n3 c3],sp 5,sp 12]) ?_ ?_ ?_)
          .simp[Region.wanted,yielded,Act.put,go_sem]
          .simp[Act.eval,Act.put,go_sem]
          .refine(Qj (HV.out.below hbx') k5 k12 HGSl.out HZCl.out HPl.out HP0.out).mono ?_;rintro en w9 ⟨u,rfl,hu,hb⟩;rw[HAA.out]at hu
           exact⟨u,rfl,hb,hu,Ae hbx' hb⟩
         case refine_15 =>
          have k13:Ak VV (sp 13) w':=(hdp 13 (mq (by kernel_rfl))).2
          (with_reducible refine Ag (w1:=w') (v:=sp 13) ?_ ?_ ?_)
          .simp[Region.wanted,yielded,Act.put,go_sem]
          .simp[execOp,Act.eval,Act.put,go_sem]
          .exact⟨Below.refl _ _,k13,hbx'⟩
         all_goals ((with_reducible refine Ad ?_ ?_);all_goals first|(simp only[Region.wanted];done)|simp[Region.wanted,yielded,execOp,Act.eval,Act.put,go_sem])
        .intro sp w7 hsp hb;obtain⟨qv,mv,dv,ev,hv⟩:Ak VV (sp 14) w7:=hsp 14 rfl;have HVV:=Ac (Ak.of hv);clear hsp hv HGS HZZ HZC HAA HZl HGSl HZCl HS;have HBX_:=HBX.out.below hb HBX.out.lt;have HCX_:=HCX.out.below hb HCX.out.lt;have HAT_:=HAT.out.below hb;have HV_:=HV.out.below hb;have HM_:=HM.out.below hb;have HQB_:=HQB.out.below hb;have HB_:=Ae HB.out hb;have HC_:=HC.out.below hb;have HU_:=HU.out.below hb;clear HBX HCX HAT HV HM HQB HB HC HU;have HBX:=Ac HBX_;have HCX:=Ac HCX_;have HAT:=Ac HAT_;have HV:=Ac HV_;have HM:=Ac HM_;have HQB:=Ac HQB_;have HB:=Ac HB_;have HC:=Ac HC_;have HU:=Ac HU_;clear HBX_ HCX_ HAT_ HV_ HM_ HQB_ HB_ HC_ HU_;clear hb;simp only[An,Nat.reduceAdd];rw[ev];clear ev;generalize sp 5=y5,sp 10=y10,sp 12=y12,sp 13=y13 at *
         go_simp
         obtain⟨g0,g1,g2,g3⟩:=(cells4 HBX.out.at_).1;obtain⟨k0,k1,k2,k3⟩:=(cells4 HCX.out.at_).1;obtain⟨WN,hWN⟩:∃Z0,Nb P Q A B Y Z UU VV msg=Z0:=⟨_,rfl⟩
         obtain⟨KC,hKC⟩:∃K,Bi WN CC=K:=⟨_,rfl⟩
         obtain⟨ANS,hE⟩:∃A,((KC:Int)==0)=A:=⟨_,rfl⟩
         have HKC:=Ac hKC;have HWN:=Ac hWN;have HWb:Aa (Al WN<=1000000):=⟨Nat.le_trans (Dd (by rw[<- hWN];exact Rh HQ0.out) HQf.out) (by decide)⟩
         have HF:Aa (ANS=true ↔ Gt P Q A B Y Z msg sig):=⟨by
          rw[HOK.out,HUUE.out,HVVE.out,hWN,<- hE,<- hKC,beq_iff_eq,Cd];exact⟨fun h=>⟨HIN.out,h⟩,fun h=>h.2⟩⟩
         clear hKC hWN
         go_wp2_with fail
         refine(Ud HV.out HAT.out HU.out HVV.out HMM.out.1.2.1 HMM.out.2.1.2.1 HMM.out.2.2.1.2.1 HMM.out.2.2.2.2.1 HUUl.out HVVl.out HPl.out HQl.out HQ0.out HPf.out HM.out HZM.out HNM.out).mono ?_;rintro en w8 ⟨_,rfl,⟨qw,mw,dw,rfl,hw⟩,hb⟩;rw[HWN.out]at hw
         have HW7:=Ac (Ak.of hw);have HC7:=Ac (HC.out.below hb);have HB7:=Ac (Ae HB.out hb);clear hw hb g0 g1 g2 g3 k0 k1 k2 k3
         go_wp2_with fail
         refine(Hr HW7.out HC7.out HWb.out HCb.out.1).mono ?_;rintro en w9 ⟨_,rfl,rfl,hb⟩;rw[HKC.out];have HBf:=Ac (Ae HB7.out hb);clear hb;go_wp2;go_ret;exact⟨ANS,rfl,HF.out,HBf.out⟩
      .have hk2:0<=K2:=by
        have h1:¬K2<0:=fun h=>hsq (Ll.1 (by rw[hK2];exact h))
        omega
       have HF:Aa (false=true ↔ Gt P Q A B Y Z msg sig):=⟨⟨(fun h=>by cases h),fun h=>absurd (HOK.out.1 h).1.2 hsq⟩⟩
       clear hK2 hcq hsq
       go_wp2_with fail
       refine(Hr HS.out HQB.out HCb.out.2.1 HCb.out.2.2).mono ?_;rintro en w5 ⟨_,rfl,rfl,hb⟩;rw[HK2.out];have HBf:=Ac (Ae HB.out hb);clear hb g0 g1 g2 g3;go_wp2;go_ret;exact⟨false,rfl,HF.out,HBf.out⟩
     .have hk1:0<=K1:=by
       have h1:¬K1<0:=fun h=>hcq (Ll.1 (by rw[hK1];exact h))
       omega
      have HF:Aa (false=true ↔ Gt P Q A B Y Z msg sig):=⟨⟨(fun h=>by cases h),fun h=>absurd (HOK.out.1 h).1.1 hcq⟩⟩
      clear hK1 hcq
      go_wp2_with fail
      refine(Hr HC.out HQB.out HCb.out.1 HCb.out.2.2).mono ?_;rintro en w5 ⟨_,rfl,rfl,hb⟩;rw[HK1.out];have HBf:=Ac (Ae HB.out hb);clear hb g0 g1 g2 g3;go_wp2;go_ret;exact⟨false,rfl,HF.out,HBf.out⟩
   .have hne:((ns:Int)!=2*(W:Int))=true:=by rw[bne_iff_ne];omega
    have HF:Aa (false=true ↔ Gt P Q A B Y Z msg sig):=⟨⟨(fun h=>by cases h),fun h=>by
     have h1:=h.1.1;have h2:=HLEN.out;rw[HW.out]at h1
     omega⟩⟩
    go_wp2;go_ret;exact⟨false,rfl,HF.out,HB.out⟩
end Go.Proofs.YthgoeiegdhphjaaGreatDoor
