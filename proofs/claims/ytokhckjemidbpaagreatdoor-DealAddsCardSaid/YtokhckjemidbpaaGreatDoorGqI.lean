/- The product of powers of a group, bit by bit of all exponents at once. -/
import Derived.Test.YtokhckjemidbpaaGreatDoorCpE
import Derived.Test.YtokhckjemidbpaaGreatDoorCuC
set_option maxRecDepth 1000000
set_option maxHeartbeats 16000000
set_option linter.all false
namespace Go.Proofs.YtokhckjemidbpaaGreatDoor
open Go Go.RowKit Go.Proofs.YtokhckjemidbpaaGreatDoor.Flow
def Jb (bs ps:List Nat):Prop:=ps≠[]/\ps.length<=32/\∀i P,ps[i]? = some P->Lk bs P/\P ∉ ps.take i
open Classical in
theorem Tb {w:World}{e:Nat}{pp:Option Addr}{np cp:Nat}{ps:List Nat}{pb:Option Addr}{nb cb:Nat}{bs:List Nat}(hp:Aq w e pp np cp ps)(hb:Aq w e pb nb cb bs)(he:e<=200) :
  Calls Tryz.prog 238 #[.slice pp np cp,.slice pb nb cb] w fun en w'=>en=.returned (.bool (decide (Jb bs ps)))/\Below w.heap.size w w':=by
 have hNmax:np<=9223372036854775807:=Er hp.cap hp.max;have hcap:=hp.cap;have hcmax:=hp.max;have HP:=Ab hp;have HLP:=Ab hp.len;have HB0:=Ab hb;obtain⟨ANS,hANS⟩:∃X,decide (Jb bs ps)=X:=⟨_,rfl⟩
 have HANS:=Ab hANS;rw[hANS];clear hANS hp hb
 by_cases h1:np=0
 .have HF:Aa (ANS=false):=⟨by
   rw[<-HANS.out];exact decide_eq_false fun h=>h.1 (List.eq_nil_of_length_eq_zero (by rw[<-HLP.out];exact h1))⟩
  subst h1;go_enter Tryz.func238,Tryz.ntmps238;go_wp2;go_ret;exact⟨by rw[HF.out];rfl,Ba _ _⟩
 by_cases h2:32<np
 .have HF:Aa (ANS=false):=⟨by
   rw[<-HANS.out];exact decide_eq_false fun h=>by have:=h.2.1;have:=HLP.out;omega⟩
  have h1':((np:Int)==0)=false:=by rw[beq_eq_false_iff_ne];omega
  have h2':(32:Int)<np:=by omega
  go_enter Tryz.func238,Tryz.ntmps238;go_wp2;go_ret;exact⟨by rw[HF.out];rfl,Ba _ _⟩
 have h1':((np:Int)==0)=false:=by rw[beq_eq_false_iff_ne];omega
 have h2':¬(32:Int)<np:=by omega
 go_enter Tryz.func238,Tryz.ntmps238;go_wp2
 go_loopw [5,6,17] (fun _ _ iv wr=>∃(k:Nat),k<=np/\iv=.int .i64 k/\Aa (Below w.heap.size w wr)/\Aa (∀i P,i<k->ps[i]? = some P->Lk bs P/\P ∉ ps.take i)) (fun _ _ iv _=>np-(intOf iv).toNat)
 case atStart=>exact⟨0,by omega,rfl,⟨Ba _ _⟩,⟨fun i P h=>by omega⟩⟩
 case round=>
  obtain⟨k,hk,rfl,HBr,HD⟩:=hrel
  by_cases hkn:k<np
  .obtain⟨PP,hPk⟩:∃P,ps[k]? = some P:=⟨ps[k]'(by rw[<-HLP.out];exact hkn),List.getElem?_eq_getElem _⟩
   have HPl:=Ab (HP.out.below HBr.out);obtain⟨b,off,rfl,hb,hc⟩:=HPl.out.at_ (by omega)
   obtain⟨q,m,d,hx,hnx,hlim⟩:=hc k PP hPk;have hkn':(k:Int)<np:=by omega
   have hkc:¬cp<k:=by omega
   have HPk:=Ab hPk;have hba:Below wr.heap.size wr (wr.alloc (.cells #[.slice q m d] 37)):=Bt;have HBP:=Ab (Ae.made wr (.slice q m d));obtain⟨wb,hwb⟩:∃wb,wr.alloc (.cells #[.slice q m d] 37)=wb:=⟨_,rfl⟩
   rw[hwb]at hba HBP
   have HF:=Ab ((Fit.of hnx hlim).below hba);have HBwb:=Ab (Af HBr.out hba);have HL:=Ab (HB0.out.below HBwb.out);have HT:=Ab ((HPl.out.take (Nat.le_of_lt hkn)).below hba);clear hc hnx hlim hPk hba
   by_cases hkp:Lk bs PP
   .have HKN:Aa (decide (Lk bs PP)=true):=⟨decide_eq_true hkp⟩
    obtain⟨CC,hCC⟩:∃X,decide (PP∈ps.take k)=X:=⟨_,rfl⟩
    have HC:=Ab hCC;have HKP:=Ab hkp;clear hCC hkp;go_wp2;refine Ak (by kernel_rfl) (by kernel_rfl)
     [some (.agg #[.slice q m d]),some (.slice pb nb cb),none,some (.bool false),some (.bool false),some (.slice (some ⟨b,off,none⟩) np cp),some (.int .i64 k),some (.slice (some ⟨b,off,none⟩) k cp),some (.agg #[.slice q m d]),none,some (.bool CC)]
     [false,false,true,false,false,false,false,false,false,true,false] rfl
     (fun w1 w2=>Below w1.heap.size w1 w2)
     (fun _ w'=>Below wb.heap.size wb w')
     (fun i v w'=>match i with
      | 2=>v=.bool true
      | 9=>v=.bool CC
      | _=>True)
     ?_ (Ba _ _).drew ?_ ?_
    .intro i v w1 w2 hf hb;split at hf
     .exact hf
     .exact hf
     .trivial
    .simp only[Bb,Nat.reduceAdd];refine⟨?_,?_,?_,?_,?_,?_,?_,?_,?_,?_,?_,trivial⟩
     all_goals intro D sp w' hD hW hdp hbx'
     case refine_1|refine_9=>
      have c0:=(HBP.out.below hbx' HBP.out.lt).cell
      with_reducible refine Ad ?_ ?_
      all_goals simp[Region.wanted,yielded,execOp,Act.eval,Act.put,go_sem,c0]
     case refine_3=>
      (with_reducible refine Ac (w1:=w') (f := 248) (args:=#[.agg #[.slice q m d],.slice pb nb cb]) ?_ ?_ ?_)
      .simp[Region.wanted,yielded,Act.put,go_sem]
      .simp[Act.eval,Act.put,go_sem]
      .refine(Qh (HF.out.below hbx') (HL.out.below hbx') he).mono ?_;rintro en w9 ⟨rfl,hb⟩;rw[HKN.out];exact⟨_,rfl,hb,rfl,Af hbx' hb⟩
     case refine_4=>
      have k2:(sp 2)=.bool true:=(hdp 2 (mq (by kernel_rfl))).2
      with_reducible refine Ad ?_ ?_
      all_goals simp[Region.wanted,yielded,execOp,Act.eval,Act.put,go_sem,k2]
     case refine_8=>
      (with_reducible refine Ah (w1:=w') (v:=.slice (some ⟨b,off,none⟩) k cp) ?_ ?_ ?_)
      .simp[Region.wanted,yielded,Act.put,go_sem]
      .simp[execOp,Act.eval,Act.put,go_sem,hkc]
      .exact⟨rfl,rfl⟩
     case refine_10=>
      (with_reducible refine Ac (w1:=w') (f := 249) (args:=#[.slice (some ⟨b,off,none⟩) k cp,.agg #[.slice q m d]]) ?_ ?_ ?_)
      .simp[Region.wanted,yielded,Act.put,go_sem]
      .simp[Act.eval,Act.put,go_sem]
      .refine(Lg w' e _ k cp (ps.take k) _ PP (HT.out.below hbx') (HF.out.below hbx') (by omega)).mono ?_;rintro en w9 ⟨rfl,hb⟩;rw[HC.out];exact⟨_,rfl,hb,rfl,Af hbx' hb⟩
     case refine_11=>
      have k9:(sp 9)=.bool CC:=(hdp 9 (mq (by kernel_rfl))).2
      with_reducible refine Ad ?_ ?_
      all_goals simp[Region.wanted,yielded,execOp,Act.eval,Act.put,go_sem,k9]
     all_goals ((with_reducible refine Ad ?_ ?_);all_goals first|(simp only[Region.wanted];done)|simp[Region.wanted,yielded,execOp,Act.eval,Act.put,go_sem])
    .intro sp w7 hsp hbx';have HBe:=Ab (Af HBwb.out hbx');clear hsp hbx';simp only[Al,Nat.reduceAdd];generalize sp 2=y2,sp 9=y9 at *
     go_simp
     cases CC with
     | true=>
      have HA:Aa (ANS=false):=⟨by
       rw[<-HANS.out];exact decide_eq_false fun h=>(h.2.2 k PP HPk.out).2 (of_decide_eq_true HC.out)⟩
      go_wp2;go_ret;exact⟨by rw[HA.out];rfl,HBe.out⟩
     | false=>
      have HD':Aa (∀i P,i<k+1->ps[i]? = some P->Lk bs P/\P ∉ ps.take i):=⟨fun i P hi hP=>by
       rcases(by omega:i<k ∨ i=k) with h|rfl
       .exact HD.out i P h hP
       .have:=HPk.out;rw[hP]at this
        cases this;exact⟨HKP.out,of_decide_eq_false HC.out⟩⟩
      go_wp2;go_roundw
      case rel=>exact⟨k+1,by omega,by go_num,HBe,HD'⟩
      case measure=>simp[intOf];omega
   .have HKN:Aa (decide (Lk bs PP)=false):=⟨decide_eq_false hkp⟩
    have HA:Aa (ANS=false):=⟨by
     rw[<-HANS.out];exact decide_eq_false fun h=>hkp (h.2.2 k PP HPk.out).1⟩
    clear hkp;go_wp2;refine Ak (by kernel_rfl) (by kernel_rfl)
     [some (.agg #[.slice q m d]),some (.slice pb nb cb),none,some (.bool true),some (.bool true),some (undef),some (undef),some (undef),some (undef),some (undef),some (.bool true)]
     [false,false,true,false,false,false,false,false,false,false,false] rfl
     (fun w1 w2=>Below w1.heap.size w1 w2)
     (fun _ w'=>Below wb.heap.size wb w')
     (fun i v w'=>match i with
      | 2=>v=.bool false
      | _=>True)
     ?_ (Ba _ _).drew ?_ ?_
    .intro i v w1 w2 hf hb;split at hf
     .exact hf
     .trivial
    .simp only[Bb,Nat.reduceAdd];refine⟨?_,?_,?_,?_,?_,?_,?_,?_,?_,?_,?_,trivial⟩
     all_goals intro D sp w' hD hW hdp hbx'
     case refine_1=>
      have c0:=(HBP.out.below hbx' HBP.out.lt).cell
      with_reducible refine Ad ?_ ?_
      all_goals simp[Region.wanted,yielded,execOp,Act.eval,Act.put,go_sem,c0]
     case refine_3=>
      (with_reducible refine Ac (w1:=w') (f := 248) (args:=#[.agg #[.slice q m d],.slice pb nb cb]) ?_ ?_ ?_)
      .simp[Region.wanted,yielded,Act.put,go_sem]
      .simp[Act.eval,Act.put,go_sem]
      .refine(Qh (HF.out.below hbx') (HL.out.below hbx') he).mono ?_;rintro en w9 ⟨rfl,hb⟩;rw[HKN.out];exact⟨_,rfl,hb,rfl,Af hbx' hb⟩
     case refine_4=>
      have k2:(sp 2)=.bool false:=(hdp 2 (mq (by kernel_rfl))).2
      with_reducible refine Ad ?_ ?_
      all_goals simp[Region.wanted,yielded,execOp,Act.eval,Act.put,go_sem,k2]
     case refine_6|refine_7|refine_8|refine_9|refine_10=>
      (with_reducible refine Fh ?_ ?_)
      ·(simp[Region.wanted,yielded,Act.put,go_sem]<;>exact fun h=>by cases h)
      .exact⟨rfl,rfl⟩
     all_goals ((with_reducible refine Ad ?_ ?_);all_goals first|(simp only[Region.wanted];done)|simp[Region.wanted,yielded,execOp,Act.eval,Act.put,go_sem])
    .intro sp w7 hsp hbx';have HBe:=Ab (Af HBwb.out hbx');clear hsp hbx';simp only[Al,Nat.reduceAdd];generalize sp 2=y2 at *
     go_simp
     go_wp2;go_ret;exact⟨by rw[HA.out];rfl,HBe.out⟩
  .obtain rfl:k=np:=by omega
   have hkn':¬(k:Int)<k:=by omega
   have HF:Aa (ANS=true):=⟨by
    rw[<-HANS.out];exact decide_eq_true ⟨fun e=>h1 (by rw[HLP.out,e];rfl),by rw[<-HLP.out];omega,fun i P hP=>HD.out i P (by rw[HLP.out];exact(List.getElem?_eq_some_iff.1 hP).1) hP⟩⟩
   go_wp2;go_ret;exact⟨by rw[HF.out];rfl,HBr.out⟩
theorem Lx {N Bs:Nat}{ps bs:List Nat}(hN:2<=N):Gp N Bs ps bs ↔ Jb bs ps/\((∀p∈ps,(N-1)%p=0)/\N-1+1<Tp (N-1) ps*Tp (N-1) ps)/\(Bs^(N-1)%N=1/\∀p∈ps,Nat.gcd ((Bs^((N-1)/p)%N+N-1)%N) N=1):=by
 rw[show N-1+1=N by omega];constructor
 .intro h;have hm:∀p∈ps,∃i,mK N Bs bs ps i p:=fun p hp=>by
   obtain⟨i,hi⟩:=List.getElem?_of_mem hp;exact⟨i,h.each i p hi⟩
  refine⟨⟨h.some,h.few,fun i p hp=>?_⟩,⟨fun p hp=>?_,h.great⟩,h.one,fun p hp=>?_⟩
  .have:=h.each i p hp;refine⟨?_,this.1⟩;rcases this.2.1 with k|k
   .exact .inl k
   .exact .inr ⟨this.2.2.1,k⟩
  .obtain⟨i,hi⟩:=hm p hp;exact hi.2.2.2.1
  .obtain⟨i,hi⟩:=hm p hp;exact hi.2.2.2.2
 .rintro⟨h1,h2,h3⟩;refine⟨hN,h1.1,h1.2.1,fun i p hp=>?_,h3.1,h2.2⟩;have hk:=h1.2.2 i p hp;have hm:=List.mem_of_getElem? hp;refine⟨hk.2,?_,?_,h2.1 p hm,h3.2 p hm⟩
  .rcases hk.1 with k|k
   .exact .inl k
   .exact .inr k.2
  .rcases hk.1 with k|k
   .exact k.1
   .exact k.1
theorem Ve {bs ps:List Nat}(h:Jb bs ps):∀p∈ps,2<=p:=fun p hp=>by
 obtain⟨i,hi⟩:=List.getElem?_of_mem hp;rcases(h.2.2 i p hi).1 with k|k
 .exact k.1
 .exact k.1
open Classical in
theorem oD (e:Nat)(he:e<=100):∀(w:World) (N B:Nat) (p0:Option Addr) (n0 c0:Nat) (p1:Option Addr) (n1 c1:Nat) (pp:Option Addr) (np cp:Nat) (ps:List Nat) (pb:Option Addr) (nb cb:Nat) (bs:List Nat),
  Ag w p0 n0 c0 N->N<An e->Ag w p1 n1 c1 B->B<An e->Aq w e pp np cp ps->Aq w e pb nb cb bs->np<=1000->nb<=1000 ->
  Calls Tryz.prog 218 #[.agg #[.slice p0 n0 c0,.slice p1 n1 c1,.slice pp np cp],.slice pb nb cb] w fun en w'=>en=.returned (.bool (decide (Gp N B ps bs)))/\Below w.heap.size w w':=by
 intro w N Bs p0 n0 c0 p1 n1 c1 pp np cp ps pb nb cb bs hN hNl hB hBl hp hb hnp hnb;have hbx:Below w.heap.size w (w.alloc (.cells #[.slice p0 n0 c0,.slice p1 n1 c1,.slice pp np cp] 189)):=Bt;have HBX3:=Ab (If.made 189 w (.slice p0 n0 c0) (.slice p1 n1 c1) (.slice pp np cp));obtain⟨wa,hwa⟩:∃wa,w.alloc (.cells #[.slice p0 n0 c0,.slice p1 n1 c1,.slice pp np cp] 189)=wa:=⟨_,rfl⟩
 rw[hwa]at hbx HBX3
 have HNF:=Ab ((Fit.of hN hNl).below hbx);have HBF:=Ab ((Fit.of hB hBl).below hbx);have HP:=Ab (hp.below hbx);have HBe:=Ab (hb.below hbx);have HLP:=Ab hp.len;have HX:=Ab hbx;obtain⟨ANS,hANS⟩:∃X,decide (Gp N Bs ps bs)=X:=⟨_,rfl⟩
 have HANS:=Ab hANS;rw[hANS];have hca:=HBX3.out.cells.1;clear hANS hN hNl hB hBl hp hb hbx;go_enter Tryz.func218,Tryz.ntmps218
 go_wp2_with fail
 refine(He HNF.out (by omega)).mono ?_;rintro en w1 ⟨hb1,⟨hlow,rfl⟩|⟨hN2,r,rfl,hR,_⟩⟩
 .have HF:Aa (ANS=false):=⟨by rw[<-HANS.out];exact decide_eq_false fun h=>by have:=h.two;omega⟩
  have HBe1:=Ab (Af HX.out hb1);clear hb1 hca;go_wp2;go_ret;exact⟨by rw[HF.out];rfl,HBe1.out⟩
 have HR:=Ab hR;have HB1:=Ab hb1;have HX1:=Ab (HBX3.out.below hb1 HBX3.out.lt);clear hb1 hR hca;go_wp2;refine Aj (by kernel_rfl) (by kernel_rfl)
  [some (.pointer (some ⟨w.heap.size,0,none⟩)),some (.agg #[.slice p0 n0 c0]),none,none,none,none,some (.bool true),none,none,some (.bool true)]
  [false,false,true,true,true,true,false,true,true,false] rfl
  (fun w2 w3=>Am w1.heap.size w2 w3)
  (fun D sp w'=>Below w1.heap.size w1 w'/\(D 7=true->Kd (sp 7) w1.heap.size (N-1) (D 8) w'))
  (fun i v w'=>match i with
   | 2=>Fit 1 1 v w'
   | 3=>Fy (N-1) v w'
   | 4=>Fy (N-1) v w'
   | 5=>Cu (N-1) v w'
   | _=>True)
  ?_ ⟨(Ba _ _).drew,(fun a=>by cases a)⟩ ?_ ?_
 .intro i v w2 w3 hf hb;split at hf
  .exact Fit.keep hf hb
  .exact Fy.keep hf hb
  .exact Fy.keep hf hb
  .exact Cu.keep hf hb
  .trivial
 .simp only[Az,Nat.reduceAdd];refine⟨?_,?_,?_,?_,?_,?_,?_,?_,?_,?_,trivial⟩
  case refine_2=>
   intro D sp w' hD hW hdp hg;have c0:=(HX1.out.below hg.1 HX1.out.lt).cells.1;simp[asked,Region.wanted,Oper.gives,execOp,Act.eval,Act.put,go_sem,c0]
  case refine_3=>
   intro D sp w' hD hW hdp hg
   (with_reducible refine Ac (w1:=w') (f := 17) (args:=#[.int .u64 1]) ?_ ?_ ?_)
   .simp only[Region.wanted]
   .simp[Act.eval,Act.put,go_sem]
   .refine(Ea w').mono ?_;rintro en w5 ⟨u,rfl,hu,hb⟩;exact⟨u,rfl,Am.of hb hg.1.size,hu,Af hg.1 hb,by simpa [upd]using fun a=>(hg.2 a).later hb⟩
  case refine_4=>
   intro D sp w' hD hW hdp hg;have k2:Fit 1 1 (sp 2) w':=(hdp 2 (mq (by kernel_rfl))).2
   (with_reducible refine Ac (w1:=w') (f := 113) (args:=#[.agg #[.slice p0 n0 c0],sp 2]) ?_ ?_ ?_)
   .simp only[Region.wanted]
   .simp[Act.eval,Act.put,go_sem]
   .refine(Uq ((HNF.out.below HB1.out).below hg.1) k2 (by omega) (by omega) (by omega)).mono ?_;rintro en w5 ⟨u,rfl,hu,hb⟩;exact⟨u,rfl,Am.of hb hg.1.size,hu,Af hg.1 hb,by simpa [upd]using fun a=>(hg.2 a).later hb⟩
  case refine_5=>
   intro D sp w' hD hW hdp hg;have k3:Fy (N-1) (sp 3) w':=(hdp 3 (mq (by kernel_rfl))).2
   (with_reducible refine Ah (w1:=w') (v:=sp 3) ?_ ?_ ?_)
   .simp only[Region.wanted]
   .simp[execOp,Act.eval,Act.put,go_sem]
   .exact⟨Am.same _ _,k3,hg.1,by simpa [upd]using hg.2⟩
  case refine_6=>
   intro D sp w' hD hW hdp hg;have hx:∃p n c,sp 4=.tuple #[.agg #[.slice p n c],.bool true]/\Ag w' p n c (N-1):=(hdp 4 (mq (by kernel_rfl))).2
   (with_reducible refine Av hx fun p hx1=>Av hx1 fun n hx2=>Av hx2 fun c hx3=>?_)
   have h1:=hx3.1
   (with_reducible refine Ah (w1:=w') (v:=.agg #[.slice p n c]) ?_ ?_ ?_)
   .simp only[Region.wanted]
   .simp[execOp,Act.eval,Act.put,go_sem,h1]
   .exact⟨Am.same _ _,⟨p,n,c,rfl,hx3.2⟩,hg.1,by simpa [upd]using hg.2⟩
  case refine_7=>
   intro D sp w' hD hW hdp hg;have hx:∃p n c,sp 4=.tuple #[.agg #[.slice p n c],.bool true]/\Ag w' p n c (N-1):=(hdp 4 (mq (by kernel_rfl))).2
   (with_reducible refine Av hx fun p hx1=>Av hx1 fun n hx2=>Av hx2 fun c hx3=>?_)
   have h1:=hx3.1;simp[asked,Region.wanted,Oper.gives,execOp,Act.eval,Act.put,go_sem,h1]
  case refine_8=>
   intro D sp w' hD hW hdp hg;have h8:D 8=false:=hW 8 (mq (by kernel_rfl))
   (with_reducible refine Ah (w1:=w'.alloc (.cells #[.slice none 0 0] 37)) (v:=.pointer (some ⟨w'.heap.size,0,none⟩)) ?_ ?_ ?_)
   .simp only[Region.wanted]
   .simp[execOp,go_sem]
   .have hb:Below w'.heap.size w' (w'.alloc (.cells #[.slice none 0 0] 37)):=Bt;refine⟨Am.of hb hg.1.size,trivial,Af hg.1 hb,fun _=>?_⟩;have:=Kd.made w' hg.1.size (N-1);simpa [upd,h8]using this
  case refine_9=>
   intro D sp w' hD hW hdp hg;have hx:∃p n c,sp 5=.agg #[.slice p n c]/\Ag w' p n c (N-1):=(hdp 5 (mq (by kernel_rfl))).2;have hy:∃b,sp 7=.pointer (some ⟨b,0,none⟩)/\w1.heap.size<=b/\∃p n c,Ae w' b (.slice p n c)/\(D 8=true->Ag w' p n c (N-1)):=hg.2 (hdp 7 (mq (by kernel_rfl))).1
   (with_reducible refine Av hx fun p hx1=>Av hx1 fun n hx2=>Av hx2 fun c hx3=>Av hy fun bb hy1=>?_)
   have hlo:=hy1.2.1
   (with_reducible refine Av hy1.2.2 fun p2 hy2=>Av hy2 fun n2 hy3=>Av hy3 fun c2 hy4=>?_)
   have g1:=hx3.1;have g2:=hy1.1;have hbx0:=hy4.1;have g3:=hbx0.cell;have g4:=hbx0.free
   (with_reducible refine Ap (w1:=w'.setCell ⟨bb,0,none⟩ (.slice p n c)) ?_ ?_ ?_)
   .simp only[Region.wanted]
   .simp[execOp,Act.eval,Act.put,go_sem,g1,g2,g3,g4]
   .exact⟨Am.store hbx0 hlo _,trivial,hg.1.setCell hlo _,fun _=>⟨bb,by simpa [upd]using g2,hlo,p,n,c,hbx0.set _,fun _=>hx3.2.store hbx0 _⟩⟩
  all_goals
   intro D sp w' hD hW hdp hg;simp[asked,Region.wanted,Oper.gives,execOp,Act.eval,Act.put,go_sem]
 .intro sp w2 hsp hg;obtain⟨b7,e7,lo7,p7,n7,c7,x7,v7⟩:=hg.2 rfl;replace v7:=v7 rfl;have HB2:=Ab (Af HB1.out hg.1);have HX2:=Ab (HX1.out.below hg.1 HX1.out.lt);have HR2:=Ab (HR.out.below hg.1);have HX7:=Ab x7;have HL7:=Ab (Fit.of v7 (Nat.lt_of_le_of_lt (Nat.sub_le N 1) HNF.out.lim));clear hsp hg x7 v7;simp only[Al,Nat.reduceAdd];rw[e7];clear e7;generalize sp 2=y2,sp 3=y3,sp 4=y4,sp 5=y5,sp 8=y8 at *
  go_simp
  have d2:=HX2.out.cells.2.2;obtain⟨S1,hS1⟩:∃X,decide (Jb bs ps)=X:=⟨_,rfl⟩
  have HS1:=Ab hS1;clear hS1
  go_wp2_with fail
  refine(Tb (HP.out.below HB2.out) (HBe.out.below HB2.out) (by omega)).mono ?_;rintro en w3 ⟨rfl,hb3⟩;rw[HS1.out];have HX3:=Ab (HX2.out.below hb3 HX2.out.lt);have HB3:=Ab (Af HB2.out hb3);have HR3:=Ab (HR2.out.below hb3);have HX73:=Ab (HX7.out.below hb3 HX7.out.lt);have HL73:=Ab (HL7.out.below hb3);clear hb3 d2
  cases S1 with
  | false=>
   have HF:Aa (ANS=false):=⟨by rw[<-HANS.out];exact decide_eq_false fun h=>(of_decide_eq_false HS1.out) ((Lx hN2).1 h).1⟩
   have HE:=Ab (Af HX.out HB3.out);go_wp2;go_ret;exact⟨by rw[HF.out];rfl,HE.out⟩
  | true=>
   have HK:Aa (Jb bs ps):=⟨of_decide_eq_true HS1.out⟩
   obtain⟨S2,hS2⟩:∃X,decide ((∀p∈ps,(N-1)%p=0)/\N-1+1<Tp (N-1) ps*Tp (N-1) ps)=X:=⟨_,rfl⟩
   have HS2:=Ab hS2;clear hS2;have d2:=HX3.out.cells.2.2;have d7:=HX73.out.cell
   go_wp2_with fail
   refine(Xi HL73.out (HP.out.below HB3.out) he (by omega) (Ve HK.out) hnp).mono ?_;rintro en w4 ⟨rfl,hb4⟩;rw[HS2.out];have HX4:=Ab (HX3.out.below hb4 HX3.out.lt);have HB4:=Ab (Af HB3.out hb4);have HR4:=Ab (HR3.out.below hb4);have HX74:=Ab (HX73.out.below hb4 HX73.out.lt);have HL74:=Ab (HL73.out.below hb4);clear hb4 d2 d7
   cases S2 with
   | false=>
    have HF:Aa (ANS=false):=⟨by rw[<-HANS.out];exact decide_eq_false fun h=>(of_decide_eq_false HS2.out) ((Lx hN2).1 h).2.1⟩
    have HE:=Ab (Af HX.out HB4.out);go_wp2;go_ret;exact⟨by rw[HF.out];rfl,HE.out⟩
   | true=>
    obtain⟨S3,hS3⟩:∃X,decide (Bs^(N-1)%N=1/\∀p∈ps,Nat.gcd ((Bs^((N-1)/p)%N+N-1)%N) N=1)=X:=⟨_,rfl⟩
    have HS3:=Ab hS3;have HF:Aa (ANS=S3):=⟨by
     rw[<-HANS.out,<-hS3];exact decide_eq_decide.2 ⟨fun h=>((Lx hN2).1 h).2.2,fun h=>(Lx hN2).2 ⟨HK.out,of_decide_eq_true HS2.out,h⟩⟩⟩
    clear hS3;have d1:=HX4.out.cells.2.1;have d2:=HX4.out.cells.2.2;have d7:=HX74.out.cell
    go_wp2_with fail
    refine(Yx HR4.out (HBF.out.below HB4.out) HL74.out (HP.out.below HB4.out) he (Ve HK.out)).mono ?_;rintro en w5 ⟨rfl,hb5⟩;rw[HS3.out];have HE:=Ab (Af HX.out (Af HB4.out hb5));clear hb5 d1 d2 d7;go_wp2;go_ret;exact⟨by rw[HF.out];rfl,HE.out⟩
theorem Aq.tight {w:World}{e f:Nat}{p:Option Addr}{n c:Nat}{Ns:List Nat}(h:Aq w e p n c Ns)(hl:∀N∈Ns,N<An f):Aq w f p n c Ns:=by
 refine⟨h.len,h.cap,h.max,h.nil,fun h0=>?_⟩;obtain⟨b,off,h1,h2,h3⟩:=h.at_ h0
 exact⟨b,off,h1,h2,fun i N hN=>let ⟨q,m,d,k1,k2,_⟩:=h3 i N hN;⟨q,m,d,k1,k2,hl N (List.mem_of_getElem? hN)⟩⟩
theorem Aq.wide {w:World}{e f:Nat}{p:Option Addr}{n c:Nat}{Ns:List Nat}(h:Aq w e p n c Ns)(hf:e<=f):Aq w f p n c Ns:=by
 refine⟨h.len,h.cap,h.max,h.nil,fun h0=>?_⟩;obtain⟨b,off,h1,h2,h3⟩:=h.at_ h0
 exact⟨b,off,h1,h2,fun i N hN=>let ⟨q,m,d,k1,k2,k3⟩:=h3 i N hN;⟨q,m,d,k1,k2,Da k3 (Cc hf)⟩⟩
theorem Ep.wide {w:World}{e f:Nat}{p:Option Addr}{n c:Nat}{l:List Bo}(h:Ep w e p n c l)(hf:e<=f):Ep w f p n c l:=by
 refine⟨h.len,h.cap,h.max,h.nil,fun h0=>?_⟩;obtain⟨b,off,h1,h2,h3⟩:=h.at_ h0
 refine⟨b,off,h1,h2,fun i s hs=>?_⟩;obtain⟨q0,m0,d0,q1,m1,d1,q2,m2,d2,k0,k1,k2,k3,k4,k5,k6,k7⟩:=h3 i s hs;exact⟨q0,m0,d0,q1,m1,d1,q2,m2,d2,k0,k1,k2,k3,Da k4 (Cc hf),k5,Da k6 (Cc hf),k7.wide hf⟩
theorem cY (w:World)(e:Nat)(l:List Bo)(he:e<=900000):eY 217 #[] w e l (fun s=>@decide (Em s) (Classical.propDecidable _)):=by
 refine⟨fun W M u _ _ hu=>?_⟩;rw[Array.append_empty];exact cX hu he
theorem gL (n:Nat)(h:n<=1000000)(w:World):(Instr.makeSlice 62 (.int .i64 0) (.int .i64 (n:Nat))).run Tryz.prog w =
  .ok (.slice (some ⟨w.heap.size,0,none⟩) 0 n) (w.alloc (.cells (madeCells #[.slice none 0 0] n) 37)):=by
 obtain⟨i,hi,hz,hs,hb⟩:=info_parts Tryz.info_Nat;have:=run_make (P:=Tryz.prog) w 62 37 i (.agg #[.slice none 0 0]) Tryz.underlying62 hi hz .i64 .i64 0 n (by omega) (by omega) (by rw[hb];omega) (by omega);simp only[Int.toNat_natCast,hs,Nat.mul_one]at this;rw[this];rfl
theorem Fn.made (w:World)(B n:Nat)(hn:n<=1000000)(hB:B<=w.heap.size)(bad:Nat->Prop):Fn Ag 37 B bad (w.alloc (.cells (madeCells #[.slice Option.none 0 0] n) 37)) (.slice (some ⟨w.heap.size,0,Option.none⟩) 0 n) [] :=
 ⟨[],World.ownsRow_made w _ n hB (by simp only[maxLen];omega) (by rw[size_madeCells,Nat.mul_one]),rfl,fun i N h=>by simp at h⟩
theorem Sy {l:List Bo}{k:Nat}{s:Bo}(h:l[k]? = some s):By [] (l.take (k+1)) ↔ By [] (l.take k)/\Gp s.n s.base s.ps ((l.take k).map (·.n)):=by
 rw[Cz h,Sz,List.nil_append]
theorem iJ {l:List Bo}(k:Nat)(h:By [] l):By [] (l.take k):=by
 rw[<-List.take_append_drop k l]at h
 exact((Oc _ _ _).1 h).1
open Classical in
theorem oJ (f:Nat)(hf:f<=100):∀(w:World) (p:Option Addr) (n c:Nat) (l:List Bo),Ep w 200 p n c l->n<=60->(∀s∈l,s.ps.length<=1000)->(∀s∈l,¬Em s->s.n<An f/\s.base<An f/\∀q∈s.ps,q<An f) ->
  Calls Tryz.prog 181 #[.slice p n c] w fun en w'=>en=.returned (.int .i64 (if ∃s∈l,Em s then 4 else if By [] l then 0 else 8))/\Below w.heap.size w w':=by
 intro w p n c l h hn hps hlim;have HH:=Ab h;have HLN:=Ab h.len;have HPS:=Ab hps;have HLIM:=Ab hlim;obtain⟨ANS,hANS⟩:∃X:Int,(if ∃s∈l,Em s then 4 else if By [] l then 0 else 8)=X:=⟨_,rfl⟩
 have HANS:=Ab hANS;rw[hANS];clear h hps hlim hANS;have hn64:¬(64:Int)<n:=by omega
 obtain⟨S0,hS0⟩:∃X,l.any (fun s=>decide (Em s))=X:=⟨_,rfl⟩
 have HS0:=Ab hS0;clear hS0;go_enter Tryz.func181,Tryz.ntmps181
 go_wp2_with fail
 refine(Rx w 200 p n c l _ _ (enters_of Tryz.func217 (by kernel_rfl) rfl) (fun s=>decide (Em s)) HH.out (cY _ 200 l (by decide))).mono ?_;rintro en w1 ⟨rfl,hb1⟩;rw[HS0.out];have HB1:=Ab hb1;clear hb1
 cases S0 with
 | true=>
  have HF:Aa (ANS=4):=⟨by
   rw[<-HANS.out];obtain⟨s,hs,ht⟩:=List.any_eq_true.1 HS0.out;exact if_pos ⟨s,hs,of_decide_eq_true ht⟩⟩
  go_wp2;go_ret;exact⟨by rw[HF.out];rfl,HB1.out⟩
 | false=>
  have hnl:∀s∈l,¬Em s:=fun s hs ht=>by
   have:=List.any_eq_false.1 HS0.out s hs;exact this (decide_eq_true ht)
  have HNL:=Ab hnl;have HANS2:Aa ((if By [] l then 0 else 8:Int)=ANS):=⟨by
   rw[<-HANS.out];exact(if_neg (fun h=>by obtain⟨s,hs,ht⟩:=h;exact hnl s hs ht)).symm⟩
  have HLT:Aa (∀s∈l,s.n<An f/\s.base<An f/\∀q∈s.ps,q<An f):=⟨fun s hs=>HLIM.out s hs (hnl s hs)⟩
  clear hnl;have hmk:=fun wx=>gL n (by omega) wx
  have HOV:=Ab (Fn.made w1 w.heap.size n (by omega) HB1.out.size (fun g=>w.heap.size<=g));have hbm:Below w1.heap.size w1 (w1.alloc (.cells (madeCells #[.slice none 0 0] n) 37)):=Bt;have HBM:=Ab (Af HB1.out hbm);clear hbm;go_wp2
  go_loopw [3,5,18] (fun vv _ iv wr=>∃k:Nat,k<=n/\iv=.int .i64 k/\Aa (Below w.heap.size w wr)/\Aa (Fn Ag 37 w.heap.size (fun g=>w.heap.size<=g) wr vv ((l.take k).map (·.n)))/\Aa (By [] (l.take k))) (fun _ _ iv _=>n-(intOf iv).toNat)
  case atStart=>exact⟨0,by omega,rfl,HBM,HOV,⟨trivial⟩⟩
  case round=>
   obtain⟨k,hk,rfl,HB,HO,HC⟩:=hrel
   by_cases hkn:k<n
   .obtain⟨S,hSk⟩:∃s,l[k]? = some s:=⟨l[k]'(by rw[<-HLN.out];exact hkn),List.getElem?_eq_getElem _⟩
    have HSk:=Ab hSk;have HM:=Ab (List.mem_of_getElem? hSk);obtain⟨b,off,rfl,hb,hc⟩:=HH.out.at_ (by omega)
    obtain⟨q0,m0,d0,q1,m1,d1,q2,m2,d2,y0,y1,y2,y3,y4,y5,y6,y7⟩:=hc k S hSk;have HNA:=Ab y3;have HNB:=Ab y5;have HNP:=Ab (y7.tight (HLT.out S HM.out).2.2);have hcl:∀o,wr.cell? ⟨b,o,none⟩=w.cell? ⟨b,o,none⟩:=fun o=>HB.out.cell (p:=⟨b,o,none⟩) hb
    have x0:wr.cell? ⟨b,off+k*3,none⟩=some (.slice q0 m0 d0):=by rw[hcl];exact y0
    have x1:wr.cell? ⟨b,off+k*3+1,none⟩=some (.slice q1 m1 d1):=by rw[hcl];exact y1
    have x2:wr.cell? ⟨b,off+k*3+2,none⟩=some (.slice q2 m2 d2):=by rw[hcl];exact y2
    have hkn':(k:Int)<n:=by omega
    have hbx:Below wr.heap.size wr (wr.alloc (.cells #[.slice q0 m0 d0,.slice q1 m1 d1,.slice q2 m2 d2] 189)):=Bt;have HBX3:=Ab (If.made 189 wr (.slice q0 m0 d0) (.slice q1 m1 d1) (.slice q2 m2 d2));obtain⟨wa,hwa⟩:∃wa,wr.alloc (.cells #[.slice q0 m0 d0,.slice q1 m1 d1,.slice q2 m2 d2] 189)=wa:=⟨_,rfl⟩
    rw[hwa]at hbx HBX3
    have HBa:=Ab (Af HB.out hbx);have HOa:=Ab (HO.out.below hbx);have hmem:∀N∈(l.take k).map (·.n),N<An f:=fun N hN=>by
     obtain⟨s,hs,rfl⟩:=List.mem_map.1 hN;exact(HLT.out s (List.mem_of_mem_take hs)).1
    have HL60:Aa (((l.take k).map (·.n)).length<=1000):=⟨by rw[List.length_map,List.length_take];omega⟩
    obtain⟨Ks,hKs⟩:∃Ks,(l.take k).map (·.n)=Ks:=⟨_,rfl⟩
    have HKs:=Ab hKs;rw[hKs]at hmem HL60 HOa HO
    clear hKs;obtain⟨nk,hnk⟩:∃nk,Ks.length=nk:=⟨_,rfl⟩
    obtain⟨p1,c1,rfl,hp1⟩:=HOa.out.plist hmem;have HNk:=Ab hnk;rw[hnk]at hp1 HL60 HOa HO
    rw[hnk];clear hnk;have HP1:=Ab hp1;have z0:=HBX3.out.cells.1;have z1:=HBX3.out.cells.2.1;have z2:=HBX3.out.cells.2.2;clear hc hcl y0 y1 y2 y3 y4 y5 y6 y7 hbx hmem hp1 hSk;obtain⟨D,hD⟩:∃X,decide (Gp S.n S.base S.ps Ks)=X:=⟨_,rfl⟩
    have HD:=Ab hD;clear hD
    go_wp2_with fail
    refine(oD f hf wa S.n S.base q0 m0 d0 q1 m1 d1 q2 m2 d2 S.ps _ _ _ _ (HNA.out.below HBa.out) (HLT.out S HM.out).1 (HNB.out.below HBa.out) (HLT.out S HM.out).2.1 (HNP.out.below HBa.out) HP1.out (by rw[HNP.out.len];exact HPS.out S HM.out) HL60.out).mono ?_;rintro en w3 ⟨rfl,hb3⟩;rw[HD.out];have HB3:=Ab (Af HBa.out hb3);have HO3:=Ab (HOa.out.below hb3);have HX3:=Ab (HBX3.out.below hb3 HBX3.out.lt);clear hb3 x0 x1 x2 z0 z1 z2
    cases D with
    | false=>
     have HF:Aa (ANS=8):=⟨by
      rw[<-HANS2.out,if_neg];intro hh;exact of_decide_eq_false HD.out (by rw[<-HKs.out];exact((Sy HSk.out).1 (iJ (k+1) hh)).2)⟩
     go_wp2;go_ret;exact⟨by rw[HF.out];rfl,HB3.out⟩
    | true=>
     have HC':Aa (By [] (l.take (k+1))):=⟨(Sy HSk.out).2 ⟨HC.out,by rw[HKs.out];exact of_decide_eq_true HD.out⟩⟩
     have HTk:Aa ((l.take (k+1)).map (·.n)=Ks++[S.n]):=⟨by rw[Cz HSk.out,List.map_append,HKs.out];rfl⟩
     have hb4:Below w3.heap.size w3 (w3.alloc (.cells #[.slice q0 m0 d0] 37)):=Bt;have hx4:(w3.alloc (.cells #[.slice q0 m0 d0] 37)).cell? ⟨w3.heap.size,0,none⟩=some (.slice q0 m0 d0):=(Ae.made w3 (.slice q0 m0 d0)).cell;obtain⟨w4,hw4⟩:∃w4,w3.alloc (.cells #[.slice q0 m0 d0] 37)=w4:=⟨_,rfl⟩
     rw[hw4]at hb4 hx4
     have hB4:=Af HB3.out hb4;have hfirm:Gk (fun w=>Ag w q0 m0 d0 S.n) (fun g=>w.heap.size<=g) w4:=Cj.firm (HNA.out.below hB4) fun q hq hle=>by
      have:=Cj.lt HNA.out q hq;omega
     obtain⟨i1,hi1,hz1,hs1,hbb1⟩:=info_parts Tryz.info_Nat;obtain⟨v9,w9,happ,ho9,hg9,_⟩:=(HO3.out.below hb4).app Tryz.underlying62 hi1 hz1 hs1 hbb1 rfl (by decide) hB4.size (a:=⟨w3.heap.size,0,none⟩) (c:=1) (x:=(q0,m0,d0)) hx4 hfirm (fun g hg=>(HO3.out.block g hg).1) (by rw[HNk.out];exact Er HL60.out (by decide)) 62;have HO9:=Ab ho9;have HB9:Aa (Below w.heap.size w w9):=⟨hB4.grown hg9 hB4.size fun g hg=>(HO3.out.block g hg).1⟩
     have z0:=HX3.out.cells.1;clear hb4 hx4 hB4 hfirm hi1 hz1 hs1 hbb1 ho9 hg9
     go_wp2_with (at_builtin;refine Lib.wpList_append_run _ rfl _ _ _ _ rfl _ _ rfl rfl _ _ happ ?_;refine Gn.out ?_)
     refine⟨?_⟩;clear happ z0;go_wp2;go_roundw
     case rel=>exact⟨k+1,by omega,by go_num,HB9,⟨by rw[HTk.out];exact HO9.out⟩,HC'⟩
     case measure=>simp[intOf];omega
   .obtain rfl:k=n:=by omega
    have hkn':¬(k:Int)<k:=by omega
    have htk:l.take k=l:=List.take_of_length_le (by rw[<-HLN.out];exact Aw _);rw[htk]at HC
    have HF:Aa (ANS=0):=⟨by rw[<-HANS2.out,if_pos HC.out]⟩
    clear htk;go_wp2;go_ret;exact⟨by rw[HF.out];rfl,HB.out⟩
theorem Aq.lim {w:World}{e:Nat}{p:Option Addr}{n c:Nat}{Ns:List Nat}(h:Aq w e p n c Ns):∀N∈Ns,N<An e:=fun N hN=>by
 obtain⟨i,hi⟩:=List.getElem?_of_mem hN;obtain⟨b,off,_,_,h3⟩:=h.at_ (by rw[h.len];have:=(List.getElem?_eq_some_iff.1 hi).1;omega)
 obtain⟨_,_,_,_,_,h4⟩:=h3 i N hi;exact h4
theorem Ep.lim {w:World}{e:Nat}{p:Option Addr}{n c:Nat}{l:List Bo}(h:Ep w e p n c l):∀s∈l,s.n<An e/\s.base<An e/\∀q∈s.ps,q<An e:=fun s hs=>by
 obtain⟨i,hi⟩:=List.getElem?_of_mem hs;obtain⟨b,off,_,_,h3⟩:=h.at_ (by rw[h.len];have:=(List.getElem?_eq_some_iff.1 hi).1;omega)
 obtain⟨_,_,_,_,_,_,_,_,_,_,_,_,_,k4,_,k6,k7⟩:=h3 i s hi;exact⟨k4,k6,k7.lim⟩
theorem Xt {e N:Nat}(he:e<=32)(h:N<An e):¬1024<Bh N:=by
 have:Bh N<=32*e:=(Ec N _).2 (by
  have:An e=2^(32*e):=by unfold An;rw[Nat.pow_mul]
  rw[<-this];exact h)
 omega
theorem kE (w:World)(e f:Nat)(l:List Bo)(b:Nat)(v:Value)(N:Nat)(hb:b<w.heap.size)(hc:w.cell? ⟨b,0,none⟩=some v)(hv:Fit f N (.agg #[v]) w)(he:e<=900000)(hf:f<=900000) :
  eY 179 #[.pointer (some ⟨b,0,none⟩)] w e l (fun s=>decide (s.n=N)):=by
 refine⟨fun W s u hbw _ hu=>?_⟩;have hc':W.cell? ⟨b,0,none⟩=some v:=(hbw.cell (p:=⟨b,0,none⟩) hb).trans hc;have hv':=hv.below hbw;obtain⟨q0,m0,d0,q1,m1,d1,q2,m2,d2,rfl,h0,l0,h1,l1,h2⟩:=hu.ex;have hbW:b<W.heap.size:=Da hb hbw.size;have hbx:Below W.heap.size W (W.alloc (.cells #[.slice q0 m0 d0,.slice q1 m1 d1,.slice q2 m2 d2] 189)):=Bt;have HBX3:=Ab (If.made 189 W (.slice q0 m0 d0) (.slice q1 m1 d1) (.slice q2 m2 d2));obtain⟨wa,hwa⟩:∃wa,W.alloc (.cells #[.slice q0 m0 d0,.slice q1 m1 d1,.slice q2 m2 d2] 189)=wa:=⟨_,rfl⟩
 rw[hwa]at hbx HBX3
 have hc2:wa.cell? ⟨b,0,none⟩=some v:=(hbx.cell (p:=⟨b,0,none⟩) hbW).trans hc';have HA:=Ab ((Fit.of h0 l0).below hbx);have HV:=Ab (hv'.below hbx);have HX:=Ab hbx;have hca:=HBX3.out.cells.1;obtain⟨pv,nv,cv,hev,_,_⟩:=hv;cases hev;obtain⟨SN,hSN⟩:∃x,s.n=x:=⟨_,rfl⟩
 rw[hSN]at HA
 have HSN:=Ab hSN;clear hSN hu h0 l0 h1 l1 h2 hbx hv' hc' hc;go_enter Tryz.func179,Tryz.ntmps179
 go_wp2_with fail
 refine(Hs HA.out HV.out he hf).mono ?_;rintro en w1 ⟨_,rfl,rfl,hb1⟩;have HB1:=Ab (Af HX.out hb1);have e0:((Bm SN N:Int)==0)=decide (SN=N):=by
  by_cases hnm:SN=N
  .simp[hnm,Bv.2]
  .have:Bm SN N≠0:=fun h0=>hnm (Bv.1 h0)
   simp[hnm,this]
 have HE:=Ab e0;clear e0 hb1 hc2 hca;generalize Bm SN N=K at *;go_wp2;go_ret;exact⟨by rw[HSN.out,<-HE.out];rfl,HB1.out⟩
open Classical in
theorem eO (e:Nat)(he:e<=32):∀(w:World) (N:Nat) (v:Value) (p:Option Addr) (n c:Nat) (l:List Bo),Fit e N v w->Ep w e p n c l->n<=60->(∀s∈l,s.ps.length<=1000) ->
  Calls Tryz.prog 126 #[v,.slice p n c] w fun en w'=>en=.returned (.bool (decide (Ch N ∨ (By [] l/\∃s∈l,s.n=N))))/\Below w.heap.size w w':=by
 intro w N v p n c l hv h hn hps;obtain⟨pu,nu,cu,rfl,hu1,hu2⟩:=hv;have hbx:=Dw.mk1 w (.slice pu nu cu) 37;obtain⟨wa,hwa⟩:∃wa,w.alloc (.cells #[.slice pu nu cu] 37)=wa:=⟨_,rfl⟩
 have hbox:=Ae.made w (.slice pu nu cu);rw[hwa]at hbx hbox
 have HBOX:=Ab hbox;have HX:=Ab hbx.bel;have HF:=Ab ((Fit.of hu1 hu2).below hbx.bel);have HP:=Ab (h.below hbx.bel);have HPS:=Ab hps;have HLIM:=Ab h.lim;obtain⟨ANS,hANS⟩:∃X,decide (Ch N ∨ (By [] l/\∃s∈l,s.n=N))=X:=⟨_,rfl⟩
 have HANS:=Ab hANS;rw[hANS];have hca:=hbox.cell;clear hANS hps h hu1 hu2 hbx hbox;obtain⟨S,hS⟩:∃X,decide (Ch N)=X:=⟨_,rfl⟩
 have HS:=Ab hS;clear hS;go_enter Tryz.func126,Tryz.ntmps126
 go_wp2_with fail
 refine(Je wa N e _ HF.out (by omega)).mono ?_;rintro en w1 ⟨rfl,hb1⟩;rw[HS.out];have HB1:=Ab hb1;have HBOX1:=Ab (HBOX.out.below hb1 HBOX.out.lt);clear hb1 hca
 cases S with
 | true=>
  have HA:Aa (ANS=true):=⟨by rw[<-HANS.out];exact decide_eq_true (.inl (of_decide_eq_true HS.out))⟩
  have HE:=Ab (Af HX.out HB1.out);go_wp2;go_ret;exact⟨by rw[HA.out];rfl,HE.out⟩
 | false=>
  obtain⟨C,hC⟩:∃X,l.any (fun s=>decide (s.n=N))=X:=⟨_,rfl⟩
  have HC:=Ab hC;clear hC;have HAS:=Ab (kE w1 e e l w.heap.size (.slice pu nu cu) N HBOX1.out.lt HBOX1.out.cell (HF.out.below HB1.out) (by omega) (by omega))
  go_wp2_with fail
  refine(Rx w1 e p n c l _ _ (enters_of Tryz.func179 (by kernel_rfl) rfl) _ (HP.out.below HB1.out) HAS.out).mono ?_;rintro en w2 ⟨rfl,hb2⟩;rw[HC.out];have HB2:=Ab (Af HB1.out hb2);clear hb2
  cases C with
  | false=>
   have HA:Aa (ANS=false):=⟨by
    rw[<-HANS.out];refine decide_eq_false fun hh=>?_
    rcases hh with hh|⟨_,s,hs,hsn⟩
    .exact of_decide_eq_false HS.out hh
    .exact List.any_eq_false.1 HC.out s hs (decide_eq_true hsn)⟩
   have HE:=Ab (Af HX.out HB2.out);go_wp2;go_ret;exact⟨by rw[HA.out];rfl,HE.out⟩
  | true=>
   have hnl:∀s∈l,¬Em s:=fun s hs ht=>by
    have:=HLIM.out s hs;rcases ht with ht|ht|⟨q,hq,ht⟩
    .exact Xt he this.1 ht
    .exact Xt he this.2.1 ht
    .exact Xt he (this.2.2 q hq) ht
   have hne:¬ ∃s∈l,Em s:=fun hh=>by obtain⟨s,hs,ht⟩:=hh;exact hnl s hs ht
   have hex:∃s∈l,s.n=N:=by
    obtain⟨s,hs,ht⟩:=List.any_eq_true.1 HC.out;exact⟨s,hs,of_decide_eq_true ht⟩
   have HNE:=Ab hne;have HEX:=Ab hex;clear hnl hne hex
   go_wp2_with fail
   refine(oJ e (by omega) w2 p n c l ((HP.out.below HB2.out).wide (by omega)) hn HPS.out (fun s hs _=>HLIM.out s hs)).mono ?_;rintro en w3 ⟨rfl,hb3⟩;rw[if_neg HNE.out];have HE:=Ab (Af HX.out (Af HB2.out hb3));clear hb3
   by_cases hch:By [] l
   .rw[if_pos hch];have HA:Aa (ANS=true):=⟨by rw[<-HANS.out];exact decide_eq_true (.inr ⟨hch,HEX.out⟩)⟩
    clear hch;go_wp2;go_ret;exact⟨by rw[HA.out];rfl,HE.out⟩
   .rw[if_neg hch];have HA:Aa (ANS=false):=⟨by
     rw[<-HANS.out];refine decide_eq_false fun hh=>?_
     rcases hh with hh|hh
     .exact of_decide_eq_false HS.out hh
     .exact hch hh.1⟩
    clear hch;go_wp2;go_ret;exact⟨by rw[HA.out];rfl,HE.out⟩
structure Tf (B:Nat) (w:World) (e:Nat) (p:Option Addr) (n c:Nat) (Ns:List Nat):Prop where
 pl:Aq w e p n c Ns
 lo:0<n->∀q,p=some q->q.block<B
theorem Tf.keep {B:Nat}{w w':World}{e:Nat}{p:Option Addr}{n c:Nat}{Ns:List Nat}(h:Tf B w e p n c Ns)(k:Am B w w'):Tf B w' e p n c Ns:=by
 refine⟨⟨h.pl.len,h.pl.cap,h.pl.max,h.pl.nil,fun h0=>?_⟩,h.lo⟩;obtain⟨b,off,h1,h2,h3⟩:=h.pl.at_ h0
 have hb:b<B:=h.lo h0 _ h1;exact⟨b,off,h1,Da h2 k.bel.size,fun i N hN=>
  let ⟨q,m,d,k1,k2,k3⟩:=h3 i N hN
  ⟨q,m,d,(k.bel.cell (p:=⟨b,off+i,none⟩) hb).trans k1,k.nat _ _ _ _ k2,k3⟩⟩
theorem Tf.of {B:Nat}{w w':World}{e:Nat}{p:Option Addr}{n c:Nat}{Ns:List Nat}(h:Aq w e p n c Ns)(hb:Below w.heap.size w w')(hB:w.heap.size<=B):Tf B w' e p n c Ns :=
 ⟨h.below hb,fun h0 q hq=>by
  obtain⟨b,off,h1,h2,_⟩:=h.at_ h0
  rw[h1]at hq;cases hq
  exact Da h2 hB⟩
structure Ps (B:Nat) (w:World) (b P Q G H:Nat):Prop where
 ex:∃rp rq pg ng cg ph nh ch,w.heap[b]? = some (.cells #[.pointer (some ⟨rp,0,none⟩),.pointer (some ⟨rq,0,none⟩),.slice pg ng cg,.slice ph nh ch] 141 (0,0))/\(Ring w rp P 33/\Ring w rq Q 33/\Ag w pg ng cg G/\G<An 33/\Ag w ph nh ch H/\H<An 33)/\b<B/\rp<B/\rq<B
theorem Ps.at_ {B:Nat}{w:World}{b P Q G H:Nat}(h:Ps B w b P Q G H):Au w b P Q G H :=
 let ⟨rp,rq,pg,ng,cg,ph,nh,ch,h1,h2,_⟩:=h.ex
 ⟨rp,rq,pg,ng,cg,ph,nh,ch,h1,h2⟩
theorem Ps.keep {B:Nat}{w w':World}{b P Q G H:Nat}(h:Ps B w b P Q G H)(k:Am B w w'):Ps B w' b P Q G H :=
 let ⟨rp,rq,pg,ng,cg,ph,nh,ch,h1,h2,h3,h4,h5⟩:=h.ex
 ⟨rp,rq,pg,ng,cg,ph,nh,ch,(k.bel.block b h3).trans h1,⟨h2.1.keep h4 k,h2.2.1.keep h5 k,k.nat _ _ _ _ h2.2.2.1,h2.2.2.2.1,k.nat _ _ _ _ h2.2.2.2.2.1,h2.2.2.2.2.2⟩,h3,h4,h5⟩
theorem Ps.of {B:Nat}{w w':World}{b P Q G H:Nat}(h:Au w b P Q G H)(hb:Below w.heap.size w w')(hB:w.heap.size<=B):Ps B w' b P Q G H:=by
 have hl:=h.lt;obtain⟨rp,rq,pg,ng,cg,ph,nh,ch,h1,h2⟩:=h.ex;have l1:=h2.1.at_.lt
 have l2:=h2.2.1.at_.lt
 obtain⟨rp',rq',pg',ng',cg',ph',nh',ch',k1,k2⟩:=(h.below hb).ex;rw[hb.block b hl,h1]at k1
 simp only[Option.some.injEq,Obj.cells.injEq,Array.mk.injEq,List.cons.injEq,Value.pointer.injEq,Addr.mk.injEq,and_true]at k1;obtain⟨rfl,rfl,e3,e4⟩:=k1;cases e3;cases e4;exact⟨rp,rq,pg,ng,cg,ph,nh,ch,(hb.block b hl).trans h1,k2,by omega,by omega,by omega⟩
structure jC (d:Bool) (b:Nat) (p0:Option Addr) (n0 c0 N:Nat) (w:World):Prop where
 z:d=false->Ae w b (.slice p0 n0 c0)
 o:d=true->∃p n c,Ae w b (.slice p n c)/\Ag w p n c N
theorem jC.later {d:Bool}{b n0 c0 N:Nat}{p0:Option Addr}{w w':World}(h:jC d b p0 n0 c0 N w)(hb:Below w.heap.size w w'):jC d b p0 n0 c0 N w' :=
 ⟨fun e=>(h.z e).below hb (h.z e).lt,fun e=>let ⟨p,n,c,h1,h2⟩:=h.o e;⟨p,n,c,h1.below hb h1.lt,h2.below hb⟩⟩
theorem jC.put {b n0 c0 N:Nat}{p0:Option Addr}{w:World}(h:jC false b p0 n0 c0 N w){p:Option Addr}{n c:Nat}(hx:Ag w p n c N):∃q m k,Ae w b (.slice q m k)/\jC true b p0 n0 c0 N (w.setCell ⟨b,0,none⟩ (.slice p n c)) :=
 ⟨p0,n0,c0,h.z rfl,(fun e=>by cases e),fun _=>⟨p,n,c,(h.z rfl).set _,hx.store (h.z rfl) _⟩⟩
theorem iQ (X I:Nat):Oi X (I:Int)=X/2^I%2:=by
 unfold Oi bit;rw[if_pos (by omega),Int.toNat_natCast];have:X/2^I%2=0 ∨ X/2^I%2=1:=by omega
 rcases this with h|h<;>simp[h]
theorem eG {Bs Es:List Nat}{k b e:Nat}(h1:Bs[k]? = some b)(h2:Es[k]? = some e):(Bs.zip Es)[k]? = some (b,e):=by
 rw[List.getElem?_zip_eq_some];exact⟨h1,h2⟩
theorem Uu (P:Nat):∀(Bs Es:List Nat),Bx ((Bs.map fun x=>x%P).zip Es)%P=Bx (Bs.zip Es)%P
 | [],_=>rfl
 | _::_,[]=>rfl
 | b::Bs,e::Es=>by
  show (b%P)^e*Bx ((Bs.map fun x=>x%P).zip Es)%P=b^e*Bx (Bs.zip Es)%P;rw[Nat.mul_mod,Uu P Bs Es,<-Nat.pow_mod,<-Nat.mul_mod]
def Dg (w:World)(b N:Nat):Prop:=∃p n c,Ae w b (.slice p n c)/\Ag w p n c N
theorem fZ {w:World}{b P Q G H e1 e2 n c m d:Nat}{p q:Option Addr}{Bs Es:List Nat}(hg:Au w b P Q G H)(hB:Aq w e1 p n c Bs)(hE:Aq w e2 q m d Es)(he1:e1<=200)(he2:e2<=200)(hn:n<=1000)(hm:m<=1000) :
  Calls Tryz.prog 149 #[.pointer (some ⟨b,0,none⟩),.slice p n c,.slice q m d] w fun e w'=>∃x,e=.returned (.tuple #[x,.int .i64 (if n=m then 0 else 1)])/\Fit 33 (if n=m then Kl P 1 (Bs.zip Es) else 0) x w'/\Below w.heap.size w w':=by
 have hb6:=Ae.made w (.slice none 0 0);have hbel:Below w.heap.size w (w.alloc (.cells #[.slice none 0 0] 37)):=Bt;obtain⟨wa,hwa⟩:∃wa,w.alloc (.cells #[.slice none 0 0] 37)=wa:=⟨_,rfl⟩
 rw[hwa]at hb6 hbel
 have HBX:=Ab hb6;have HB:=Ab hbel;have HG:=Ab hg;have HBS:=Ab hB;have HES:=Ab hE;have HP2:=Ab hg.lims.1;have HPl:=Ab hg.lims.2.1;clear hb6 hbel hg hB hE
 by_cases hnm:n=m
 .subst hnm;rw[if_pos rfl,if_pos rfl];go_enter Tryz.func149,Tryz.ntmps149
  go_wp2_with fail
  refine(lK (HG.out.below HB.out) (HBS.out.below HB.out) he1 hn).mono ?_;rintro en w1 ⟨g,rfl,hpl,hb1⟩;have HW:=Ab hpl;have HB1:=Ab (Af HB.out hb1);have HBX1:=Ab (HBX.out.below hb1 HBX.out.lt);clear hpl hb1 HBX
  go_wp2_with fail
  refine(Ea w1).mono ?_;rintro en w2 ⟨_,rfl,⟨p1,n1,c1,rfl,hn1,_⟩,hb2⟩;have hb3:Below w2.heap.size w2 (w2.alloc (.cells #[.slice p1 n1 c1] 37)):=Bt;have hX3:=Ae.made w2 (.slice p1 n1 c1);obtain⟨w3,hw3⟩:∃w3,w2.alloc (.cells #[.slice p1 n1 c1] 37)=w3:=⟨_,rfl⟩
  rw[hw3]at hb3 hX3
  have HN3:=Ab (hn1.below hb3);have HX3:=Ab hX3;have hb13:=Af hb2 hb3;have HB13:=Ab hb13;have HB3:=Ab (Af HB1.out hb13);have HS12:Aa (w1.heap.size<=w2.heap.size):=⟨hb2.size⟩
  have HBX3:Aa (Ae w3 w.heap.size (.slice none 0 0)/\w.heap.size<w2.heap.size):=⟨HBX1.out.below hb13 HBX1.out.lt,Da HBX1.out.lt hb2.size⟩
  clear hn1 hb2 hb3 hX3 hb13 HBX1
  go_wp2_with fail
  refine(kJ (HES.out.below HB3.out) he2 (by omega)).mono ?_;rintro en w4 ⟨rfl,hb4⟩;obtain⟨M,hM⟩:∃M,Gr Es=M:=⟨_,rfl⟩
  rw[hM];have hM1:M<=10000:=by
   rw[<-hM];refine Zo Es fun x hx=>?_
   have:=In (HES.out.lim x hx);omega
  obtain⟨L,hL⟩:∃L,(Bs.map fun x=>x%P).zip Es=L:=⟨_,rfl⟩
  have HTop:Aa (Bx (Me M L)%P=1):=⟨by
   rw[Yy M L fun x hx=>by
    rw[<-hL]at hx
    have:=(List.of_mem_zip hx).2;rw[<-hM];exact Zn Es _ this]
   exact Nat.mod_eq_of_lt (by have:=HP2.out;omega)⟩
  have HBot:Aa (Bx (Me 0 L)%P=Kl P 1 (Bs.zip Es)):=⟨by rw[iD,<-hL,Uu,gB HP2.out]⟩
  have HLl:Aa (L.length=n):=⟨by rw[<-hL,List.length_zip,List.length_map,<-HBS.out.len,<-HES.out.len,Nat.min_self]⟩
  have HLL:=Ab hL;have HG4:Aa (Ps w2.heap.size w4 b P Q G H):=⟨Ps.of HG.out (Af HB3.out hb4) (by have:=HBX3.out.2;omega)⟩
  have HW4:Aa (Tf w2.heap.size w4 33 (some ⟨g,0,none⟩) n n (Bs.map fun x=>x%P)):=⟨Tf.of HW.out (Af HB13.out hb4) HS12.out⟩
  have HE4:Aa (Tf w2.heap.size w4 e2 q n d Es):=⟨Tf.of HES.out (Af HB3.out hb4) (by have:=HBX3.out.2;omega)⟩
  have HX4:Aa (Dg w4 w2.heap.size (Bx (Me M L)%P)):=⟨_,_,_,HX3.out.below hb4 HX3.out.lt,by rw[HTop.out];exact HN3.out.below hb4⟩
  have HB4:=Ab (Af HB3.out hb4);have HBX4:Aa (Ae w4 w.heap.size (.slice none 0 0)):=⟨HBX3.out.1.below hb4 HBX3.out.1.lt⟩
  have HL4:Aa (w2.heap.size<=w4.heap.size):=⟨Nat.le_of_lt (Da HX3.out.lt hb4.size)⟩
  have HWS:Aa (w.heap.size<w2.heap.size):=⟨HBX3.out.2⟩
  clear hb4 hM hL HX3 HN3 HBX3 HTop HB13 HS12 HW HB3 HB1 HB;go_wp2
  go_loopw [10,11,12] (fun iv _ _ wr=>∃(k:Nat) (z:Int),k<=M/\iv=.int .i64 z/\z=(k:Int)-1/\Aa (Am w2.heap.size w4 wr)/\Aa (Dg wr w2.heap.size (Bx (Me k L)%P))) (fun iv _ _ _=>(intOf iv+1).toNat)
  case atStart=>exact⟨M,(M:Int)-1,by omega,by go_num,rfl,⟨Am.same _ _⟩,HX4⟩
  case round=>
   obtain⟨k,z,hk,rfl,hz,HKr,HXr⟩:=hrel;obtain⟨pz,nz,cz,hzb,hzn⟩:=HXr.out;have HZB:=Ab hzb;have c9:=hzb.cell
   by_cases hk0:0<k
   .obtain⟨I,rfl⟩:∃I,k=I+1:=⟨k-1,by omega⟩
    obtain rfl:z=(I:Nat):=by omega
    clear hz;obtain⟨A,hA⟩:∃A,Bx (Me (I+1) L)=A:=⟨_,rfl⟩
    rw[hA]at hzn
    have HA:=Ab hA;have HF:Aa (Fit 33 (A%P) (.agg #[.slice pz nz cz]) wr):=⟨Fit.of hzn (Nat.lt_trans (Nat.mod_lt _ (by have:=HP2.out;omega)) HPl.out)⟩
    have HGr:=Ab (HG4.out.keep HKr.out);clear hzn hzb hA hk0
    go_wp2_with fail
    refine(Ku HGr.out.at_ HF.out HF.out (by decide) (by decide)).mono ?_;rintro en w5 ⟨_,rfl,⟨p5,n5,c5,rfl,hn5,_⟩,hb5⟩;have hX5:=HZB.out.below hb5 HZB.out.lt;have k9:=hX5.cell;have f9:=hX5.free;have HK6:Aa (Am w2.heap.size w4 (w5.setCell ⟨w2.heap.size,0,none⟩ (.slice p5 n5 c5))):=⟨HKr.out.trans ((Am.of hb5 (Nat.le_of_lt HZB.out.lt)).trans (Am.store hX5 (Aw _) _))⟩
    have HX6:Aa (Dg (w5.setCell ⟨w2.heap.size,0,none⟩ (.slice p5 n5 c5)) w2.heap.size (A*A*Bx (Nd I (L.take 0))%P)):=⟨p5,n5,c5,hX5.set _,by
     have:A*A*Bx (Nd I (L.take 0))%P=(A%P)*(A%P)%P:=by
      rw[show Bx (Nd I (L.take 0))=1 from rfl,Nat.mul_one,Nat.mul_mod]
     rw[this];exact hn5.store hX5 _⟩
    obtain⟨w6,hw6⟩:∃w6,w5.setCell ⟨w2.heap.size,0,none⟩ (.slice p5 n5 c5)=w6:=⟨_,rfl⟩
    rw[hw6]at HK6 HX6
    clear hb5 hn5 hX5 c9;obtain⟨wo,hwo⟩:∃x,x=wr:=⟨_,rfl⟩
    subst hwo;go_wp2
    go_loopw [40,11,12] (fun jv _ _ wr=>∃j:Nat,j<=n/\jv=.int .i64 j/\Aa (Am w2.heap.size w4 wr)/\Aa (Dg wr w2.heap.size (A*A*Bx (Nd I (L.take j))%P))) (fun jv _ _ _=>n-(intOf jv).toNat)
    case atStart=>exact⟨0,by omega,rfl,HK6,HX6⟩
    case round=>
     obtain⟨j,hj,rfl,HKi,HXi⟩:=hrel;obtain⟨px,nx,cx,hxb,hxn⟩:=HXi.out;have HXB:=Ab hxb;have HXN:=Ab hxn
     by_cases hjn:j<n
     .obtain⟨X,hXj⟩:∃X,Es[j]? = some X:=⟨Es[j]'(by rw[<-HES.out.len];exact hjn),List.getElem?_eq_getElem _⟩
      obtain⟨Y,hYj⟩:∃Y,(Bs.map fun x=>x%P)[j]? = some Y:=⟨(Bs.map fun x=>x%P)[j]'(by rw[List.length_map,<-HBS.out.len];exact hjn),List.getElem?_eq_getElem _⟩
      obtain⟨b2,off,rfl,hb2,hc2⟩:=(HE4.out.keep HKi.out).pl.at_ (by omega)
      obtain⟨q2,m2,d2,hx2,hn2,hl2⟩:=hc2 j X hXj;have hbw:Below wr.heap.size wr (wr.alloc (.cells #[.slice q2 m2 d2] 37)):=Bt;have hbx:=Ae.made wr (.slice q2 m2 d2);obtain⟨wb,hwb⟩:∃wb,wr.alloc (.cells #[.slice q2 m2 d2] 37)=wb:=⟨_,rfl⟩
      rw[hwb]at hbw hbx
      have cb:=hbx.cell;have HNX:=Ab (hn2.below hbw);have hm9:m2<1000000:=by have:=hn2.len_le hl2;omega
      have HT:Aa (Nd I (L.take (j+1))=Nd I (L.take j)++[(Y,X/2^I%2)]):=⟨iP (by rw[<-HLL.out];exact eG hYj hXj)⟩
      have HKw:Aa (Am w2.heap.size wr wb):=⟨Am.of hbw (Nat.le_of_lt HXB.out.lt)⟩
      have HXBw:=Ab (HXB.out.below hbw HXB.out.lt);have HYj:=Ab hYj;have hjn':(j:Int)<n:=by omega
      clear hc2 hn2 hl2 hXj hYj hbw hbx hxb hxn hb2
      go_wp2_with fail
      refine(Vw wb q2 m2 d2 X (I:Nat) HNX.out hm9 (by omega) (by omega)).mono ?_;rintro en w8 ⟨rfl,hb8⟩;rw[iQ];have HK8:Aa (Am w2.heap.size wr w8):=⟨HKw.out.trans (Am.of hb8 (Nat.le_of_lt HXBw.out.lt))⟩
      have HX8:=Ab (HXBw.out.below hb8 HXBw.out.lt);obtain⟨bt,hbt⟩:∃t,X/2^I%2=t:=⟨_,rfl⟩
      have hb01:bt=0 ∨ bt=1:=by omega
      rw[hbt]at HT ⊢
      clear hb8 hbt cb;rcases hb01 with rfl|rfl
      .have HXE:Aa (Dg w8 w2.heap.size (A*A*Bx (Nd I (L.take (j+1)))%P)):=⟨px,nx,cx,HX8.out,by rw[HT.out,Mp,Nat.pow_zero,Nat.mul_one];exact HK8.out.nat _ _ _ _ HXN.out⟩
       have HKE:Aa (Am w2.heap.size w4 w8):=⟨HKi.out.trans HK8.out⟩
       go_wp2;go_roundw
       case rel=>exact⟨j+1,by omega,by go_num,HKE,HXE⟩
       case measure=>simp[intOf];omega
      .obtain⟨b3,off3,he3,_,hc3⟩:=(HW4.out.keep (HKi.out.trans HK8.out)).pl.at_ (by omega)
       obtain⟨pw,nw,cw,hw1,hw2,hw4⟩:=hc3 j Y HYj.out;cases he3;rw[Nat.zero_add]at hw1
       have HCW:=Ab hw1;have HFW:Aa (Fit 33 Y (.agg #[.slice pw nw cw]) w8):=⟨Fit.of hw2 hw4⟩
       have HGL:Aa (g<w2.heap.size):=⟨HW4.out.lo (by omega) _ rfl⟩
       obtain⟨V0,hV0⟩:∃V,A*A*Bx (Nd I (L.take j))=V:=⟨_,rfl⟩
       rw[hV0]at HXN
       have HFX:Aa (Fit 33 (V0%P) (.agg #[.slice px nx cx]) w8):=⟨Fit.of (HK8.out.nat _ _ _ _ HXN.out) (Nat.lt_trans (Nat.mod_lt _ (by have:=HP2.out;omega)) HPl.out)⟩
       obtain⟨Z,hZ⟩:∃Z,V0%P*Y%P=Z:=⟨_,rfl⟩
       have HZ:=Ab hZ;have HZE:Aa (A*A*Bx (Nd I (L.take (j+1)))%P=Z):=⟨by rw[HT.out,Mp,Nat.pow_one,<-Nat.mul_assoc,hV0,<-hZ,Nat.mod_mul_mod]⟩
       have HG1:=Ab (HG4.out.keep (HKi.out.trans HK8.out));have HLE:Aa (w2.heap.size<=w8.heap.size):=⟨Nat.le_of_lt HX8.out.lt⟩
       have HKE:Aa (Am w2.heap.size w4 w8):=⟨HKi.out.trans HK8.out⟩
       clear hc3 hw1 hw2 hw4 hV0 hZ HK8 HKi;go_wp2;refine Aj (by kernel_rfl) (by kernel_rfl)
        [some (.pointer (some ⟨b,0,none⟩)),some (.agg #[.slice px nx cx]),some (.slice (some ⟨g,0,none⟩) n n),some (.int .i64 (j:Nat)),some (.pointer (some ⟨g,j,none⟩)),some (.agg #[.slice pw nw cw]),none,none]
        [false,false,false,false,false,false,true,true] rfl
        (fun wA wB=>Am (w2.heap.size) wA wB)
        (fun D sp w'=>RG (w2.heap.size) w8 [] w'/\jC (D 7) (w2.heap.size) px nx cx (Z) w')
        (fun i v w'=>match i with
         | 6=>Fit 33 Z v w'
         | _=>True)
        ?_ ⟨RG.start HLE.out (fun x hx=>by cases hx),⟨fun _=>HX8.out,fun e=>by cases e⟩⟩ ?_ ?_
       .intro i v wA wB hf hb;split at hf
        .exact hf.keep hb
        .trivial
       .simp only[Az,Nat.reduceAdd];refine⟨?_,?_,?_,?_,?_,?_,?_,?_,trivial⟩
        all_goals intro D sp w' hD hW hdp hg
        case refine_2=>
         have c0:=(hg.2.z (hW 7 (mq (by kernel_rfl)))).cell
         with_reducible refine Ad ?_ ?_
         all_goals simp[Region.wanted,yielded,execOp,Act.eval,Act.put,go_sem,c0]
        case refine_5=>
         have hnj:¬n<=j:=Nat.not_le.2 hjn
         with_reducible refine Ad ?_ ?_
         all_goals simp[Region.wanted,yielded,execOp,Act.eval,Act.put,go_sem,hnj]
        case refine_6=>
         have c0:w'.cell? ⟨g,j,none⟩=some (.slice pw nw cw):=(hg.1.keep.bel.cell (p:=⟨g,j,none⟩) HGL.out).trans HCW.out
         with_reducible refine Ad ?_ ?_
         all_goals simp[Region.wanted,yielded,execOp,Act.eval,Act.put,go_sem,c0]
        case refine_7=>
         (with_reducible refine Ac (w1:=w') (f := 124) (args:=#[.pointer (some ⟨b,0,none⟩),.agg #[.slice px nx cx],.agg #[.slice pw nw cw]]) ?_ ?_ ?_)
         .simp[Region.wanted,yielded,Act.put,go_sem]
         .simp[Act.eval,Act.put,go_sem]
         .refine(Ku (HG1.out.keep hg.1.keep).at_ (HFX.out.keep hg.1.keep) (HFW.out.keep hg.1.keep) (by decide) (by decide)).mono ?_;rintro en w9 ⟨u,rfl,hu,hb⟩;rw[HZ.out]at hu
          exact⟨u,rfl,Am.of hb hg.1.base,hu,hg.1.later hb,by simpa [upd]using hg.2.later hb⟩
        case refine_8=>
         have hx:∃p n c,sp 6=.agg #[.slice p n c]/\Ag w' p n c (Z)/\Z<An (33):=(hdp 6 (mq (by kernel_rfl))).2
         (with_reducible refine Av hx fun p hx1=>Av hx1 fun n hx2=>Av hx2 fun c hx3=>?_)
         have h1:=hx3.1;rw[hD]at hg
         have hp:=hg.2.put (hx3.2.1)
         (with_reducible refine Av hp fun q hy1=>Av hy1 fun m hy2=>Av hy2 fun k hy3=>?_)
         have h6:=hy3.1.cell;have h7:=hy3.1.free
         (with_reducible refine Ap (w1:=w'.setCell ⟨w2.heap.size,0,none⟩ (.slice p n c)) ?_ ?_ ?_)
         .simp[Region.wanted,yielded,Act.put,go_sem]
         .simp[execOp,Act.eval,Act.put,go_sem,h1,h6,h7]
         .refine⟨Am.store hy3.1 (Aw _) _,trivial,hg.1.store hy3.1 (Aw _) (fun x hx=>by cases hx) _,?_⟩;have h8:=hy3.2;simpa [upd]using h8
        all_goals ((with_reducible refine Ad ?_ ?_);all_goals first|(simp only[Region.wanted];done)|simp[Region.wanted,yielded,execOp,Act.eval,Act.put,go_sem])
       .intro sp w9 hsp hg;obtain⟨hg1,hg2⟩:=hg;obtain⟨pf,nf,cf,hf1,hf2⟩:=hg2.o rfl;have HXE:Aa (Dg w9 w2.heap.size (A*A*Bx (Nd I (L.take (j+1)))%P)):=⟨pf,nf,cf,hf1,by rw[HZE.out];exact hf2⟩
        have HK9:Aa (Am w2.heap.size w4 w9):=⟨HKE.out.trans hg1.keep⟩
        clear hsp hg1 hg2 hf1 hf2;simp only[Al,Nat.reduceAdd];generalize sp 6=y6,sp 7=y7 at *
        go_simp
        go_wp2;go_roundw
        case rel=>exact⟨j+1,by omega,by go_num,HK9,HXE⟩
        case measure=>simp[intOf];omega
     .obtain rfl:j=n:=by omega
      have hjn':¬(j:Int)<j:=by omega
      have HXE:Aa (Dg wr w2.heap.size (Bx (Me I L)%P)):=⟨px,nx,cx,HXB.out,by
       rw[Yz I L,HA.out];have:=HXN.out;rw[List.take_of_length_le (by rw[HLl.out];exact Aw _)]at this
       exact this⟩
      clear hxb hxn;go_wp2;go_roundw
      case rel=>exact⟨I,(I:Int)-1,by omega,by go_num,by omega,HKi,HXE⟩
      case measure=>simp[intOf]
   .obtain rfl:k=0:=by omega
    obtain rfl:z = -1:=by omega
    clear hz;have hrb:Ae wr w.heap.size (.slice none 0 0):=HBX4.out.below (B:=w2.heap.size) HKr.out.bel HWS.out;have k6:=hrb.cell;have f6:=hrb.free;rw[HBot.out]at hzn
    have HNF:=Ab (hzn.store hrb (.slice pz nz cz));have HLM:Aa (Kl P 1 (Bs.zip Es)<An 33):=⟨Nat.lt_trans (Si HP2.out _ _ (by have:=HP2.out;omega)) HPl.out⟩
    have hbf:Below w.heap.size w (wr.setCell ⟨w.heap.size,0,none⟩ (.slice pz nz cz)):=(HB4.out.trans (HKr.out.bel.mono (Nat.le_of_lt HWS.out))).setCell (Aw _) _;have HBF:=Ab hbf;clear hzn hzb hrb hbf hk0;go_wp2;exact bodyPost_ret (v:=.tuple #[.agg #[.slice pz nz cz],.int .i64 0]) (by simp[results,Tryz.results149,go_sem,k6]) rfl ⟨_,rfl,Fit.of HNF.out HLM.out,HBF.out⟩
 .rw[if_neg hnm,if_neg hnm];have hne:((n:Int)==(m:Nat))=false:=by rw[beq_eq_false_iff_ne];omega
  have hne2:¬(n:Int)=(m:Nat):=by omega
  have k6:=HBX.out.cell;have f6:=HBX.out.free;have hbf:Below w.heap.size w (wa.setCell ⟨w.heap.size,0,none⟩ (.slice none 0 0)):=HB.out.setCell (Aw _) _;have HBF:=Ab hbf;clear hnm hbf;go_enter Tryz.func149,Tryz.ntmps149;go_wp2;exact bodyPost_ret (v:=.tuple #[.agg #[.slice none 0 0],.int .i64 1]) (by simp[results,Tryz.results149,go_sem,k6]) rfl ⟨_,rfl,Fit.of (Ag.nil _) (by decide),HBF.out⟩
end Go.Proofs.YtokhckjemidbpaaGreatDoor
