/- The document's pledges of polynomials, and products of rows (ref13's All, Bare, Join); law13's same. -/
import Derived.Test.YtnbmfaihlefgfaaGreatDoorPdN
import Derived.Test.YtnbmfaihlefgfaaGreatDoorPlC
set_option maxRecDepth 1000000
set_option maxHeartbeats 16000000
set_option linter.all false
namespace Go.Proofs.YtnbmfaihlefgfaaGreatDoor
open Go Go.RowKit Go.Proofs.YtnbmfaihlefgfaaGreatDoor.Flow
theorem Ta {xs:List Nat}{N:Nat}(h:∀x∈xs,Aj x<=N)(i:Nat):Aj (xs.getD i 0)<=N:=by
 by_cases hi:i<xs.length
 .rw[De,List.getElem?_eq_getElem hi];exact h _ (List.getElem_mem hi)
 .rw[De,List.getElem?_eq_none (by omega)];exact Nat.zero_le _
theorem Rc {w:World}{p:Option Addr}{n c i:Nat}{xs:List Nat}(h:Em w p n c xs)(hi:i<=1000000)(hn:n<=1000) :
  Calls Tryz.prog 132 #[.slice p n c,.int .i64 (i:Nat)] w fun e w'=>∃x,e=.returned x/\Aq (xs.getD i 0) x w'/\Below w.heap.size w w':=by
 have HLN:=Ac h.len;obtain⟨X0,hX0⟩:∃X,xs.getD i 0=X:=⟨_,rfl⟩
 rw[hX0]
 by_cases hin:i<n
 .obtain⟨A,hA⟩:∃X,xs[i]? = some X:=⟨xs[i]'(by rw[<-HLN.out];exact hin),List.getElem?_eq_getElem _⟩
  obtain⟨b,off,rfl,hb,hc⟩:=h.at_ (by omega)
  obtain⟨q,m,d,h1,h2⟩:=hc i A hA;have hXA:A=X0:=by rw[<-hX0,De,hA];rfl
  subst hXA;have HR:Ab (Aq A (.slice q m d) w):=⟨Aq.of h2⟩
  have hcell:w.cell? ⟨b,off+i,none⟩=some (.slice q m d):=h1;have hi':(i:Int)<n:=by omega
  have hni:¬n<=i:=by omega
  clear h hc h1 h2 hA hX0 hb;go_enter Tryz.func132,Tryz.ntmps132;go_wp2;go_ret;exact⟨_,rfl,HR.out,Be _ _⟩
 .have h0:X0=0:=by rw[<-hX0,De,List.getElem?_eq_none (by rw[<-HLN.out];omega)];rfl
  subst h0;have hi':¬(i:Int)<n:=by omega
  have hbel:Below w.heap.size w (w.alloc (.cells #[] 4)):=Co;have HB:=Ac hbel;have HR:Ab (Aq 0 (.slice (some ⟨w.heap.size,0,none⟩) 0 0) (w.alloc (.cells #[] 4))):=⟨Aq.of (show Ed _ _ 0 0 (bitsOf 0) from ⟨by decide,Av _,by decide,.inr ⟨w.heap.size,0,rfl,by simp,fun i x hx=>by
   have:bitsOf 0=[]:=by decide
   rw[this]at hx;cases hx⟩⟩)⟩
  clear h hX0 hbel;go_enter Tryz.func132,Tryz.ntmps132;go_wp2;go_ret;exact⟨_,rfl,HR.out,HB.out⟩
theorem Ut {w:World}{v:Value}{P Q G H n c m d:Nat}{p pb:Option Addr}{xa xb:List Nat}(h:Cz P Q G H v w)(hA:Em w p n c xa)(hB:Em w pb m d xb)(lP:Aj P<=100000)(lG:Aj G<=100000)(lH:Aj H<=100000)(hP:2<=P)(hG:G^Q%P=1%P)(hH:H^Q%P=1%P)(hxa:∀x∈xa,Aj x<=100000)(hxb:∀x∈xb,Aj x<=100000)(hn:n<=1000)(hm:m<=1000) :
  Calls Tryz.prog 62 #[v,.slice p n c,.slice pb m d] w fun e w'=>∃u,e=.returned u/\Kv (max n m) (Fa P Q G H xa xb) u w'/\Below w.heap.size w w':=by
 obtain⟨p0,n0,c0,p1,n1,c1,p2,n2,c2,p3,n3,c3,rfl,h0,h1,h2,h3⟩:=h.ex;have hbx:Below w.heap.size w (w.alloc (.cells #[.slice p0 n0 c0,.slice p1 n1 c1,.slice p2 n2 c2,.slice p3 n3 c3] 30)):=Co;have hbo:=Cm.made 30 w (.slice p0 n0 c0) (.slice p1 n1 c1) (.slice p2 n2 c2) (.slice p3 n3 c3);obtain⟨wa,hwa⟩:∃wa,w.alloc (.cells #[.slice p0 n0 c0,.slice p1 n1 c1,.slice p2 n2 c2,.slice p3 n3 c3] 30)=wa:=⟨_,rfl⟩
 rw[hwa]at hbx hbo
 have HB:=Ac hbx;have HBX:=Ac hbo;have HV:Ab (Cz P Q G H (.agg #[.slice p0 n0 c0,.slice p1 n1 c1,.slice p2 n2 c2,.slice p3 n3 c3]) wa):=⟨⟨p0,n0,c0,p1,n1,c1,p2,n2,c2,p3,n3,c3,rfl,h0.below hbx,h1.below hbx,h2.below hbx,h3.below hbx⟩⟩
 have HGl:=Ac lG;have HPl:=Ac lP;have HP2:=Ac hP;have HP0:Ab (0<P):=⟨by omega⟩
 have HGM:=Ac hG;have HHM:=Ac hH;have HHl:=Ac lH;have HXA:=Ac hxa;have HXB:=Ac hxb;have HP:=Ac (hA.below hbx);have HQ:=Ac (hB.below hbx);have HLA:=Ac hA.len;have HLB:=Ac hB.len;obtain⟨L,hL⟩:∃L,max n m=L:=⟨_,rfl⟩
 obtain⟨LL,hLL⟩:∃l,Fa P Q G H xa xb=l:=⟨_,rfl⟩
 have HLEN:Ab (LL.length=L):=⟨by rw[<-hLL,Ii,<-hA.len,<-hB.len,hL]⟩
 have HGET:Ab (∀i,i<L->LL[i]? = some (Iz P Q G H (xa.getD i 0) (xb.getD i 0))):=⟨fun i hi=>by rw[<-hLL];exact Ni P Q G H xa xb i (by rw[<-hA.len,<-hB.len,hL];exact hi)⟩
 have HMX:Ab (max n m=L):=⟨hL⟩
 rw[hL,hLL];have hrm:=Ew.made wa (Av wa.heap.size);have hbm:Below wa.heap.size wa (wa.alloc (.cells #[] 28)):=Co;obtain⟨wb,hwb⟩:∃wb,wa.alloc (.cells #[] 28)=wb:=⟨_,rfl⟩
 rw[hwb]at hrm hbm
 have HR0:=Ac hrm;have HBm:=Ac hbm;clear h h0 h1 h2 h3 hA hB hrm hbm hxa hxb lP lG lH hP hG hH hLL hL hbx hbo;go_enter Tryz.func62,Tryz.ntmps62;go_wp2;clear hwa hwb
 go_loopw [7,8] (fun vv iv wr=>∃(k:Nat) (us:List (Option Addr×Nat×Nat)),k<=L/\iv=.int .i64 k/\Ab (Below wa.heap.size wa wr)/\Ab (Ew wr wa.heap.size vv us)/\Ab (Du wr us (LL.take k))) (fun _ iv _=>L-(intOf iv).toNat)
 case atStart=>exact⟨0,[],by omega,rfl,HBm,HR0,⟨Du.nil _⟩⟩
 case round=>
  obtain⟨k,us,hk,rfl,HBr,HRr,HTr⟩:=hrel;obtain⟨pv,cv,hv⟩:=HRr.out.slice;obtain⟨nz,hn1⟩:∃l,us.length=l:=⟨_,rfl⟩
  rw[hn1]at hv
  subst hv;have HW:=Ac HBr.out
  by_cases hkL:k<L
  .have HUS:Ab (us.length<=100000):=⟨by rw[HTr.out.len,List.length_take];have:=HMX.out;omega⟩
   obtain⟨AA,hAA⟩:∃A,xa.getD k 0=A:=⟨_,rfl⟩
   obtain⟨CC,hCC⟩:∃A,xb.getD k 0=A:=⟨_,rfl⟩
   obtain⟨NN,hNN⟩:∃A,Iz P Q G H AA CC=A:=⟨_,rfl⟩
   have HAA:=Ac hAA;have HCC:=Ac hCC;have HNN:Ab (G^AA%P*(H^CC%P)%P=NN):=⟨by rw[<-hNN,Wa HGM.out HHM.out]⟩
   have HNk:Ab (LL[k]? = some NN):=⟨by rw[HGET.out k hkL,hAA,hCC,hNN]⟩
   have HTK:Ab (LL.take (k+1)=LL.take k++[NN]):=⟨Cp HNk.out⟩
   have HAl:Ab (Aj AA<=100000):=⟨by rw[<-hAA];exact Ta HXA.out k⟩
   have HCl:Ab (Aj CC<=100000):=⟨by rw[<-hCC];exact Ta HXB.out k⟩
   have HPw:=Ac (HP.out.below HW.out);have HQw:=Ac (HQ.out.below HW.out);have HVw:=Ac (HV.out.below HW.out);have HBXw:=Ac (HBX.out.below HW.out HBX.out.lt);have HRS:=Ac HRr.out;have HBW:Ab (wa.heap.size<=wr.heap.size):=⟨HBr.out.size⟩
   have hk9:k<=1000:=by have:=HMX.out;omega
   clear hAA hCC hNN hn1;have hcase:((k:Int)<n) ∨ (¬(k:Int)<n/\(k:Int)<m):=by have:=HMX.out;omega
   rcases hcase with hc1|⟨hc1,hc2⟩
   all_goals
    go_wp2;refine Al (by kernel_rfl) (by kernel_rfl)
     [some (.slice pv nz cv),some (.agg #[.slice p0 n0 c0,.slice p1 n1 c1,.slice p2 n2 c2,.slice p3 n3 c3]),some (.slice p n c),some (.int .i64 (k:Nat)),none,some (.slice pb m d),some (.int .i64 (k:Nat)),none,none,none,none,none]
     [false,false,false,false,true,false,false,true,true,true,true,true] rfl
     (fun _ _=>True) (fun D sp w'=>AH wr wa.heap.size (.slice pv nz cv) us AA CC NN (D 4) (D 7) (D 8) (D 9) (D 10) (D 11) (sp 4) (sp 7) (sp 8) (sp 9) (sp 10) (sp 11) w') (fun _ _ _=>True) (fun _ _ _ _ _ _=>trivial)
     AH.start ?_ ?_
    .simp only[Bf,Nat.reduceAdd];refine⟨?_,?_,?_,?_,?_,?_,?_,?_,?_,?_,?_,?_,trivial⟩
     case refine_2=>
      intro D sp w' hD hW hdp hg;have d8:D 8=false:=hW 8 (mq (by kernel_rfl));rw[d8]at hg
      have d10:=hg.n8;rw[d10]at hg
      have hB4:=HBXw.out.below (hg.pre rfl) HBXw.out.lt;have g0:=hB4.cells.1;have g1:=hB4.cells.2.1;have g2:=hB4.cells.2.2.1;have g3:=hB4.cells.2.2.2;simp[asked,Region.wanted,Oper.gives,execOp,Act.eval,Act.put,go_sem,g0,g1,g2,g3]
     case refine_5=>
      intro D sp w' hD hW hdp hg;rw[hD]at hg
      have d10:=hg.n4;rw[d10]at hg
      (with_reducible refine Aa (w1:=w') (f := 132) (args:=#[.slice p n c,.int .i64 (k:Nat)]) ?_ ?_ ?_)
      .simp only[Region.wanted]
      .simp[Act.eval,Act.put,go_sem]
      .refine(Rc (HPw.out.below (hg.pre rfl)) (by omega) (by omega)).mono ?_;rintro en w9 ⟨u,rfl,hu,hb⟩;rw[HAA.out]at hu
       exact⟨u,rfl,trivial,trivial,by simpa [upd,d10]using(hg.later hb).put4 hu⟩
     case refine_8=>
      intro D sp w' hD hW hdp hg;rw[hD]at hg
      have d10:=hg.n7;rw[d10]at hg
      (with_reducible refine Aa (w1:=w') (f := 132) (args:=#[.slice pb m d,.int .i64 (k:Nat)]) ?_ ?_ ?_)
      .simp only[Region.wanted]
      .simp[Act.eval,Act.put,go_sem]
      .refine(Rc (HQw.out.below (hg.pre rfl)) (by omega) (by omega)).mono ?_;rintro en w9 ⟨u,rfl,hu,hb⟩;rw[HCC.out]at hu
       exact⟨u,rfl,trivial,trivial,by simpa [upd,d10]using(hg.later hb).put7 hu⟩
     case refine_9=>
      intro D sp w' hD hW hdp hg;have d4:D 4=true:=(hdp 4 (mq (by kernel_rfl))).1;have d7:D 7=true:=(hdp 7 (mq (by kernel_rfl))).1;rw[hD,d4,d7]at hg
      have d10:=hg.n8;rw[d10]at hg
      (with_reducible refine Aa (w1:=w') (f := 71) (args:=#[.agg #[.slice p0 n0 c0,.slice p1 n1 c1,.slice p2 n2 c2,.slice p3 n3 c3],sp 4,sp 7]) ?_ ?_ ?_)
      .simp only[Region.wanted]
      .simp[Act.eval,Act.put,go_sem]
      .refine(Xb (HVw.out.below (hg.pre rfl)) (hg.p4 rfl rfl) (hg.p7 rfl rfl) HAl.out HCl.out HPl.out HGl.out HHl.out HP0.out HNN.out).mono ?_;rintro en w9 ⟨u,rfl,hu,hb⟩;exact⟨u,rfl,trivial,trivial,by simpa [upd,d10,d4,d7]using(hg.later hb).put8 hu⟩
     case refine_10=>
      intro D sp w' hD hW hdp hg;have d8:D 8=true:=(hdp 8 (mq (by kernel_rfl))).1;rw[hD,d8]at hg
      have d10:=hg.n9;rw[d10]at hg
      have hx:∃q m d,sp 8=.slice q m d/\Ay w' q m d NN:=hg.p8 rfl rfl
      (with_reducible refine Az hx fun qx hx1=>Az hx1 fun mx hx2=>Az hx2 fun dx hx3=>?_)
      have h1:=hx3.1;have hba:Below w'.heap.size w' (w'.alloc (.cells #[.slice qx mx dx] 28)):=Co;have hN:=(hg.later hba).put9 (x:=(qx,mx,dx)) (Ko w' _ _) (Ay.below hx3.2 hba)
      (with_reducible refine Ai (w1:=w'.alloc (.cells #[.slice qx mx dx] 28)) (v:=.slice (some ⟨w'.heap.size,0,none⟩) 1 1) ?_ ?_ ?_)
      .simp only[Region.wanted]
      .simp[execOp,Act.eval,Act.put,go_sem,h1]
      .exact⟨trivial,trivial,by simpa [upd,d10,d8]using hN⟩
     case refine_11=>
      intro D sp w' hD hW hdp hg;have d9:D 9=true:=(hdp 9 (mq (by kernel_rfl))).1;rw[hD,d9]at hg
      (with_reducible refine Az (hg.put10 HRS.out HBW.out HUS.out 47) fun g hg1=>Az hg1 fun v' hg2=>Az hg2 fun w5 hg3=>?_)
      have h4:=hg3.1;have hr:=hg3.2.1
      (with_reducible refine Ai (w1:=w5) (v:=v') ?_ ?_ ?_)
      .simp only[Region.wanted]
      .simp[execOp,resolve,invoke,builtin,Act.eval,Act.put,h4,hr,Result.andThen]
      .exact⟨trivial,trivial,by simpa [upd,d9]using hg3.2.2⟩
     case refine_12=>
      intro D sp w' hD hW hdp hg;have d10:D 10=true:=(hdp 10 (mq (by kernel_rfl))).1;rw[hD,d10]at hg
      (with_reducible refine Ai (w1:=w') (v:=sp 10) ?_ ?_ ?_)
      .simp only[Region.wanted]
      .simp[execOp,Act.eval,Act.put,go_sem]
      .exact⟨trivial,trivial,by simpa [upd,d10]using hg.put11⟩
     all_goals
      intro D sp w' hD hW hdp hg;simp[asked,Region.wanted,Oper.gives,execOp,Act.eval,Act.put,go_sem]
    .intro sp w9 hsp hg;obtain⟨w1',x',k1,k2,k3,k4⟩:=hg.fin rfl;have e11:=(hg.same rfl).2;have HBn:Ab (Below wa.heap.size wa w9):=⟨(Ae HBr.out k1).grown k2 (Ae HBr.out k1).size (fun g hg=>(HRr.out.own hg).1)⟩
     have HSn:Ab (Ew w9 wa.heap.size (sp 10) (us++[x'])):=⟨k3⟩
     have HTn:Ab (Du w9 (us++[x']) (LL.take (k+1))):=⟨by
      rw[HTK.out];exact((HTr.out.below k1).grown (HRr.out.below k1) k2).snoc k4⟩
     clear hsp hg k1 k2 k3 k4;simp only[An,Nat.reduceAdd];generalize sp 4=z4,sp 7=z7,sp 8=z8,sp 9=z9,sp 10=z10,sp 11=z11 at *;subst e11
     go_simp
     go_wp2;go_roundw
     case rel=>exact⟨k+1,_,by omega,by go_num,HBn,HSn,HTn⟩
     case measure=>simp[intOf];omega
  .obtain rfl:k=L:=by omega
   have hc1:¬(k:Int)<n:=by have:=HMX.out;omega
   have hc2:¬(k:Int)<m:=by have:=HMX.out;omega
   rw[List.take_of_length_le (by rw[HLEN.out];exact Av _)]at HTr
   obtain⟨q9,d9,e9,hp9⟩:=HRr.out.nlist HTr.out;rw[HLEN.out]at e9 hp9
   simp only[Value.slice.injEq]at e9;obtain⟨rfl,rfl,rfl⟩:=e9;have HN9:=Ac hp9;have HBF:=Ac (Ae HB.out HBr.out);clear hp9 hn1 HTr;go_wp2;go_ret;exact⟨_,rfl,⟨_,_,rfl,HN9.out⟩,HBF.out⟩
end Go.Proofs.YtnbmfaihlefgfaaGreatDoor
