/- Chains, of the program. -/
import Derived.Test.YtnbmfaihlefgfaaGreatDoorCpF
import Derived.Test.YtnbmfaihlefgfaaGreatDoorCpE
import Derived.Test.YtnbmfaihlefgfaaGreatDoorCurP
set_option maxRecDepth 1000000
set_option maxHeartbeats 16000000
set_option linter.all false
namespace Go.Proofs.YtnbmfaihlefgfaaGreatDoor
open Go Go.RowKit Go.Proofs.YtnbmfaihlefgfaaGreatDoor.Flow
def Gx (bs ps:List Nat):Prop:=ps≠[]/\ps.length<=32/\∀i P,ps[i]? = some P->Ja bs P/\P ∉ ps.take i
open Classical in
theorem Ps {w:World}{e:Nat}{pp:Option Addr}{np cp:Nat}{ps:List Nat}{pb:Option Addr}{nb cb:Nat}{bs:List Nat}(hp:Au w e pp np cp ps)(hb:Au w e pb nb cb bs)(he:e<=200) :
  Calls Tryz.prog 240 #[.slice pp np cp,.slice pb nb cb] w fun en w'=>en=.returned (.bool (decide (Gx bs ps)))/\Below w.heap.size w w':=by
 have hNmax:np<=9223372036854775807:=Eu hp.cap hp.max;have hcap:=hp.cap;have hcmax:=hp.max;have HP:=Ab hp;have HLP:=Ab hp.len;have HB0:=Ab hb;obtain⟨ANS,hANS⟩:∃X,decide (Gx bs ps)=X:=⟨_,rfl⟩
 have HANS:=Ab hANS;rw[hANS];clear hANS hp hb
 by_cases h1:np=0
 .have HF:Aa (ANS=false):=⟨by
   rw[<-HANS.out];exact decide_eq_false fun h=>h.1 (List.eq_nil_of_length_eq_zero (by rw[<-HLP.out];exact h1))⟩
  subst h1;go_enter Tryz.func240,Tryz.ntmps240;go_wp2;go_ret;exact⟨by rw[HF.out];rfl,Aw _ _⟩
 by_cases h2:32<np
 .have HF:Aa (ANS=false):=⟨by
   rw[<-HANS.out];exact decide_eq_false fun h=>by have:=h.2.1;have:=HLP.out;omega⟩
  have h1':((np:Int)==0)=false:=by rw[beq_eq_false_iff_ne];omega
  have h2':(32:Int)<np:=by omega
  go_enter Tryz.func240,Tryz.ntmps240;go_wp2;go_ret;exact⟨by rw[HF.out];rfl,Aw _ _⟩
 have h1':((np:Int)==0)=false:=by rw[beq_eq_false_iff_ne];omega
 have h2':¬(32:Int)<np:=by omega
 go_enter Tryz.func240,Tryz.ntmps240;go_wp2
 go_loopw [5,6,17] (fun _ _ iv wr=>∃(k:Nat),k<=np/\iv=.int .i64 k/\Aa (Below w.heap.size w wr)/\Aa (∀i P,i<k->ps[i]? = some P->Ja bs P/\P ∉ ps.take i)) (fun _ _ iv _=>np-(intOf iv).toNat)
 case atStart=>exact⟨0,by omega,rfl,⟨Aw _ _⟩,⟨fun i P h=>by omega⟩⟩
 case round=>
  obtain⟨k,hk,rfl,HBr,HD⟩:=hrel
  by_cases hkn:k<np
  .obtain⟨PP,hPk⟩:∃P,ps[k]? = some P:=⟨ps[k]'(by rw[<-HLP.out];exact hkn),List.getElem?_eq_getElem _⟩
   have HPl:=Ab (HP.out.below HBr.out);obtain⟨b,off,rfl,hb,hc⟩:=HPl.out.at_ (by omega)
   obtain⟨q,m,d,hx,hnx,hlim⟩:=hc k PP hPk;have hkn':(k:Int)<np:=by omega
   have hkc:¬cp<k:=by omega
   have HPk:=Ab hPk;have hba:Below wr.heap.size wr (wr.alloc (.cells #[.slice q m d] 36)):=Cu;have HBP:=Ab (Ad.made wr (.slice q m d));obtain⟨wb,hwb⟩:∃wb,wr.alloc (.cells #[.slice q m d] 36)=wb:=⟨_,rfl⟩
   rw[hwb]at hba HBP
   have HF:=Ab ((Fit.of hnx hlim).below hba);have HBwb:=Ab (Ae HBr.out hba);have HL:=Ab (HB0.out.below HBwb.out);have HT:=Ab ((HPl.out.take (Nat.le_of_lt hkn)).below hba);clear hc hnx hlim hPk hba
   by_cases hkp:Ja bs PP
   .have HKN:Aa (decide (Ja bs PP)=true):=⟨decide_eq_true hkp⟩
    obtain⟨CC,hCC⟩:∃X,decide (PP∈ps.take k)=X:=⟨_,rfl⟩
    have HC:=Ab hCC;have HKP:=Ab hkp;clear hCC hkp;go_wp2;refine Aj (by kernel_rfl) (by kernel_rfl)
     [some (.agg #[.slice q m d]),some (.slice pb nb cb),none,some (.bool false),some (.bool false),some (.slice (some ⟨b,off,none⟩) np cp),some (.int .i64 k),some (.slice (some ⟨b,off,none⟩) k cp),some (.agg #[.slice q m d]),none,some (.bool CC)]
     [false,false,true,false,false,false,false,false,false,true,false] rfl
     (fun w1 w2=>Below w1.heap.size w1 w2)
     (fun _ w'=>Below wb.heap.size wb w')
     (fun i v w'=>match i with
      | 2=>v=.bool true
      | 9=>v=.bool CC
      | _=>True)
     ?_ (Aw _ _).drew ?_ ?_
    .intro i v w1 w2 hf hb;split at hf
     .exact hf
     .exact hf
     .trivial
    .simp only[Bc,Nat.reduceAdd];refine⟨?_,?_,?_,?_,?_,?_,?_,?_,?_,?_,?_,trivial⟩
     all_goals intro D sp w' hD hW hdp hbx'
     case refine_1|refine_9=>
      have c0:=(HBP.out.below hbx' HBP.out.lt).cell
      with_reducible refine Af ?_ ?_
      all_goals simp[Region.wanted,yielded,execOp,Act.eval,Act.put,go_sem,c0]
     case refine_3=>
      (with_reducible refine Ac (w1:=w') (f := 250) (args:=#[.agg #[.slice q m d],.slice pb nb cb]) ?_ ?_ ?_)
      .simp[Region.wanted,yielded,Act.put,go_sem]
      .simp[Act.eval,Act.put,go_sem]
      .refine(Mz (HF.out.below hbx') (HL.out.below hbx') he).mono ?_;rintro en w9 ⟨rfl,hb⟩;rw[HKN.out];exact⟨_,rfl,hb,rfl,Ae hbx' hb⟩
     case refine_4=>
      have k2:(sp 2)=.bool true:=(hdp 2 (mq (by kernel_rfl))).2
      with_reducible refine Af ?_ ?_
      all_goals simp[Region.wanted,yielded,execOp,Act.eval,Act.put,go_sem,k2]
     case refine_8=>
      (with_reducible refine Ai (w1:=w') (v:=.slice (some ⟨b,off,none⟩) k cp) ?_ ?_ ?_)
      .simp[Region.wanted,yielded,Act.put,go_sem]
      .simp[execOp,Act.eval,Act.put,go_sem,hkc]
      .exact⟨rfl,rfl⟩
     case refine_10=>
      (with_reducible refine Ac (w1:=w') (f := 251) (args:=#[.slice (some ⟨b,off,none⟩) k cp,.agg #[.slice q m d]]) ?_ ?_ ?_)
      .simp[Region.wanted,yielded,Act.put,go_sem]
      .simp[Act.eval,Act.put,go_sem]
      .refine(Iv w' e _ k cp (ps.take k) _ PP (HT.out.below hbx') (HF.out.below hbx') (by omega)).mono ?_;rintro en w9 ⟨rfl,hb⟩;rw[HC.out];exact⟨_,rfl,hb,rfl,Ae hbx' hb⟩
     case refine_11=>
      have k9:(sp 9)=.bool CC:=(hdp 9 (mq (by kernel_rfl))).2
      with_reducible refine Af ?_ ?_
      all_goals simp[Region.wanted,yielded,execOp,Act.eval,Act.put,go_sem,k9]
     all_goals ((with_reducible refine Af ?_ ?_);all_goals first|(simp only[Region.wanted];done)|simp[Region.wanted,yielded,execOp,Act.eval,Act.put,go_sem])
    .intro sp w7 hsp hbx';have HBe:=Ab (Ae HBwb.out hbx');clear hsp hbx';simp only[Al,Nat.reduceAdd];generalize sp 2=y2,sp 9=y9 at *
     go_simp
     cases CC with
     | true=>
      have HA:Aa (ANS=false):=⟨by
       rw[<-HANS.out];exact decide_eq_false fun h=>(h.2.2 k PP HPk.out).2 (of_decide_eq_true HC.out)⟩
      go_wp2;go_ret;exact⟨by rw[HA.out];rfl,HBe.out⟩
     | false=>
      have HD':Aa (∀i P,i<k+1->ps[i]? = some P->Ja bs P/\P ∉ ps.take i):=⟨fun i P hi hP=>by
       rcases(by omega:i<k ∨ i=k) with h|rfl
       .exact HD.out i P h hP
       .have:=HPk.out;rw[hP]at this
        cases this;exact⟨HKP.out,of_decide_eq_false HC.out⟩⟩
      go_wp2;go_roundw
      case rel=>exact⟨k+1,by omega,by go_num,HBe,HD'⟩
      case measure=>simp[intOf];omega
   .have HKN:Aa (decide (Ja bs PP)=false):=⟨decide_eq_false hkp⟩
    have HA:Aa (ANS=false):=⟨by
     rw[<-HANS.out];exact decide_eq_false fun h=>hkp (h.2.2 k PP HPk.out).1⟩
    clear hkp;go_wp2;refine Aj (by kernel_rfl) (by kernel_rfl)
     [some (.agg #[.slice q m d]),some (.slice pb nb cb),none,some (.bool true),some (.bool true),some (undef),some (undef),some (undef),some (undef),some (undef),some (.bool true)]
     [false,false,true,false,false,false,false,false,false,false,false] rfl
     (fun w1 w2=>Below w1.heap.size w1 w2)
     (fun _ w'=>Below wb.heap.size wb w')
     (fun i v w'=>match i with
      | 2=>v=.bool false
      | _=>True)
     ?_ (Aw _ _).drew ?_ ?_
    .intro i v w1 w2 hf hb;split at hf
     .exact hf
     .trivial
    .simp only[Bc,Nat.reduceAdd];refine⟨?_,?_,?_,?_,?_,?_,?_,?_,?_,?_,?_,trivial⟩
     all_goals intro D sp w' hD hW hdp hbx'
     case refine_1=>
      have c0:=(HBP.out.below hbx' HBP.out.lt).cell
      with_reducible refine Af ?_ ?_
      all_goals simp[Region.wanted,yielded,execOp,Act.eval,Act.put,go_sem,c0]
     case refine_3=>
      (with_reducible refine Ac (w1:=w') (f := 250) (args:=#[.agg #[.slice q m d],.slice pb nb cb]) ?_ ?_ ?_)
      .simp[Region.wanted,yielded,Act.put,go_sem]
      .simp[Act.eval,Act.put,go_sem]
      .refine(Mz (HF.out.below hbx') (HL.out.below hbx') he).mono ?_;rintro en w9 ⟨rfl,hb⟩;rw[HKN.out];exact⟨_,rfl,hb,rfl,Ae hbx' hb⟩
     case refine_4=>
      have k2:(sp 2)=.bool false:=(hdp 2 (mq (by kernel_rfl))).2
      with_reducible refine Af ?_ ?_
      all_goals simp[Region.wanted,yielded,execOp,Act.eval,Act.put,go_sem,k2]
     case refine_6|refine_7|refine_8|refine_9|refine_10=>
      (with_reducible refine Fk ?_ ?_)
      ·(simp[Region.wanted,yielded,Act.put,go_sem]<;>exact fun h=>by cases h)
      .exact⟨rfl,rfl⟩
     all_goals ((with_reducible refine Af ?_ ?_);all_goals first|(simp only[Region.wanted];done)|simp[Region.wanted,yielded,execOp,Act.eval,Act.put,go_sem])
    .intro sp w7 hsp hbx';have HBe:=Ab (Ae HBwb.out hbx');clear hsp hbx';simp only[Al,Nat.reduceAdd];generalize sp 2=y2 at *
     go_simp
     go_wp2;go_ret;exact⟨by rw[HA.out];rfl,HBe.out⟩
  .obtain rfl:k=np:=by omega
   have hkn':¬(k:Int)<k:=by omega
   have HF:Aa (ANS=true):=⟨by
    rw[<-HANS.out];exact decide_eq_true ⟨fun e=>h1 (by rw[HLP.out,e];rfl),by rw[<-HLP.out];omega,fun i P hP=>HD.out i P (by rw[HLP.out];exact(List.getElem?_eq_some_iff.1 hP).1) hP⟩⟩
   go_wp2;go_ret;exact⟨by rw[HF.out];rfl,HBr.out⟩
theorem Jk {N Bs:Nat}{ps bs:List Nat}(hN:2<=N):Fa N Bs ps bs ↔ Gx bs ps/\((∀p∈ps,(N-1)%p=0)/\N-1+1<Qg (N-1) ps*Qg (N-1) ps)/\(Bs^(N-1)%N=1/\∀p∈ps,Nat.gcd ((Bs^((N-1)/p)%N+N-1)%N) N=1):=by
 rw[show N-1+1=N by omega];constructor
 .intro h;have hm:∀p∈ps,∃i,dE N Bs bs ps i p:=fun p hp=>by
   obtain⟨i,hi⟩:=List.getElem?_of_mem hp;exact⟨i,h.each i p hi⟩
  refine⟨⟨h.some,h.few,fun i p hp=>?_⟩,⟨fun p hp=>?_,h.great⟩,h.one,fun p hp=>?_⟩
  .have:=h.each i p hp;refine⟨?_,this.1⟩;rcases this.2.1 with k|k
   .exact .inl k
   .exact .inr ⟨this.2.2.1,k⟩
  .obtain⟨i,hi⟩:=hm p hp;exact hi.2.2.2.1
  .obtain⟨i,hi⟩:=hm p hp;exact hi.2.2.2.2
 .rintro⟨h1,h2,h3⟩;refine⟨hN,h1.1,h1.2.1,fun i p hp=>?_,h3.1,h2.2⟩;have hk:=h1.2.2 i p hp;have hm:=List.mem_of_getElem? hp;refine⟨hk.2,?_,?_,h2.1 p hm,h3.2 p hm⟩
  .rcases hk.1 with k|k
   .exact .inl k
   .exact .inr k.2
  .rcases hk.1 with k|k
   .exact k.1
   .exact k.1
theorem Rg {bs ps:List Nat}(h:Gx bs ps):∀p∈ps,2<=p:=fun p hp=>by
 obtain⟨i,hi⟩:=List.getElem?_of_mem hp;rcases(h.2.2 i p hi).1 with k|k
 .exact k.1
 .exact k.1
open Classical in
theorem eR (e:Nat)(he:e<=100):∀(w:World) (N B:Nat) (p0:Option Addr) (n0 c0:Nat) (p1:Option Addr) (n1 c1:Nat) (pp:Option Addr) (np cp:Nat) (ps:List Nat) (pb:Option Addr) (nb cb:Nat) (bs:List Nat),
  Ag w p0 n0 c0 N->N<Am e->Ag w p1 n1 c1 B->B<Am e->Au w e pp np cp ps->Au w e pb nb cb bs->np<=1000->nb<=1000 ->
  Calls Tryz.prog 222 #[.agg #[.slice p0 n0 c0,.slice p1 n1 c1,.slice pp np cp],.slice pb nb cb] w fun en w'=>en=.returned (.bool (decide (Fa N B ps bs)))/\Below w.heap.size w w':=by
 intro w N Bs p0 n0 c0 p1 n1 c1 pp np cp ps pb nb cb bs hN hNl hB hBl hp hb hnp hnb;have hbx:Below w.heap.size w (w.alloc (.cells #[.slice p0 n0 c0,.slice p1 n1 c1,.slice pp np cp] 182)):=Cu;have HBX3:=Ab (Mn.made 182 w (.slice p0 n0 c0) (.slice p1 n1 c1) (.slice pp np cp));obtain⟨wa,hwa⟩:∃wa,w.alloc (.cells #[.slice p0 n0 c0,.slice p1 n1 c1,.slice pp np cp] 182)=wa:=⟨_,rfl⟩
 rw[hwa]at hbx HBX3
 have HNF:=Ab ((Fit.of hN hNl).below hbx);have HBF:=Ab ((Fit.of hB hBl).below hbx);have HP:=Ab (hp.below hbx);have HBe:=Ab (hb.below hbx);have HLP:=Ab hp.len;have HX:=Ab hbx;obtain⟨ANS,hANS⟩:∃X,decide (Fa N Bs ps bs)=X:=⟨_,rfl⟩
 have HANS:=Ab hANS;rw[hANS];have hca:=HBX3.out.cells.1;clear hANS hN hNl hB hBl hp hb hbx;go_enter Tryz.func222,Tryz.ntmps222
 go_wp2_with fail
 refine(Hd HNF.out (by omega)).mono ?_;rintro en w1 ⟨hb1,⟨hlow,rfl⟩|⟨hN2,r,rfl,hR,_⟩⟩
 .have HF:Aa (ANS=false):=⟨by rw[<-HANS.out];exact decide_eq_false fun h=>by have:=h.two;omega⟩
  have HBe1:=Ab (Ae HX.out hb1);clear hb1 hca;go_wp2;go_ret;exact⟨by rw[HF.out];rfl,HBe1.out⟩
 have HR:=Ab hR;have HB1:=Ab hb1;have HX1:=Ab (HBX3.out.below hb1 HBX3.out.lt);clear hb1 hR hca;go_wp2;refine Ak (by kernel_rfl) (by kernel_rfl)
  [some (.pointer (some ⟨w.heap.size,0,none⟩)),some (.agg #[.slice p0 n0 c0]),none,none,none,none,some (.bool true),none,none,some (.bool true)]
  [false,false,true,true,true,true,false,true,true,false] rfl
  (fun w2 w3=>Ao w1.heap.size w2 w3)
  (fun D sp w'=>Below w1.heap.size w1 w'/\(D 7=true->Hw (sp 7) w1.heap.size (N-1) (D 8) w'))
  (fun i v w'=>match i with
   | 2=>Fit 1 1 v w'
   | 3=>Eo (N-1) v w'
   | 4=>Eo (N-1) v w'
   | 5=>Ch (N-1) v w'
   | _=>True)
  ?_ ⟨(Aw _ _).drew,(fun a=>by cases a)⟩ ?_ ?_
 .intro i v w2 w3 hf hb;split at hf
  .exact Fit.keep hf hb
  .exact Eo.keep hf hb
  .exact Eo.keep hf hb
  .exact Ch.keep hf hb
  .trivial
 .simp only[Bb,Nat.reduceAdd];refine⟨?_,?_,?_,?_,?_,?_,?_,?_,?_,?_,trivial⟩
  case refine_2=>
   intro D sp w' hD hW hdp hg;have c0:=(HX1.out.below hg.1 HX1.out.lt).cells.1;simp[asked,Region.wanted,Oper.gives,execOp,Act.eval,Act.put,go_sem,c0]
  case refine_3=>
   intro D sp w' hD hW hdp hg
   (with_reducible refine Ac (w1:=w') (f := 21) (args:=#[.int .u64 1]) ?_ ?_ ?_)
   .simp only[Region.wanted]
   .simp[Act.eval,Act.put,go_sem]
   .refine(Du w').mono ?_;rintro en w5 ⟨u,rfl,hu,hb⟩;exact⟨u,rfl,Ao.of hb hg.1.size,hu,Ae hg.1 hb,by simpa [upd]using fun a=>(hg.2 a).later hb⟩
  case refine_4=>
   intro D sp w' hD hW hdp hg;have k2:Fit 1 1 (sp 2) w':=(hdp 2 (mq (by kernel_rfl))).2
   (with_reducible refine Ac (w1:=w') (f := 130) (args:=#[.agg #[.slice p0 n0 c0],sp 2]) ?_ ?_ ?_)
   .simp only[Region.wanted]
   .simp[Act.eval,Act.put,go_sem]
   .refine(Ra ((HNF.out.below HB1.out).below hg.1) k2 (by omega) (by omega) (by omega)).mono ?_;rintro en w5 ⟨u,rfl,hu,hb⟩;exact⟨u,rfl,Ao.of hb hg.1.size,hu,Ae hg.1 hb,by simpa [upd]using fun a=>(hg.2 a).later hb⟩
  case refine_5=>
   intro D sp w' hD hW hdp hg;have k3:Eo (N-1) (sp 3) w':=(hdp 3 (mq (by kernel_rfl))).2
   (with_reducible refine Ai (w1:=w') (v:=sp 3) ?_ ?_ ?_)
   .simp only[Region.wanted]
   .simp[execOp,Act.eval,Act.put,go_sem]
   .exact⟨Ao.same _ _,k3,hg.1,by simpa [upd]using hg.2⟩
  case refine_6=>
   intro D sp w' hD hW hdp hg;have hx:∃p n c,sp 4=.tuple #[.agg #[.slice p n c],.bool true]/\Ag w' p n c (N-1):=(hdp 4 (mq (by kernel_rfl))).2
   (with_reducible refine Ba hx fun p hx1=>Ba hx1 fun n hx2=>Ba hx2 fun c hx3=>?_)
   have h1:=hx3.1
   (with_reducible refine Ai (w1:=w') (v:=.agg #[.slice p n c]) ?_ ?_ ?_)
   .simp only[Region.wanted]
   .simp[execOp,Act.eval,Act.put,go_sem,h1]
   .exact⟨Ao.same _ _,⟨p,n,c,rfl,hx3.2⟩,hg.1,by simpa [upd]using hg.2⟩
  case refine_7=>
   intro D sp w' hD hW hdp hg;have hx:∃p n c,sp 4=.tuple #[.agg #[.slice p n c],.bool true]/\Ag w' p n c (N-1):=(hdp 4 (mq (by kernel_rfl))).2
   (with_reducible refine Ba hx fun p hx1=>Ba hx1 fun n hx2=>Ba hx2 fun c hx3=>?_)
   have h1:=hx3.1;simp[asked,Region.wanted,Oper.gives,execOp,Act.eval,Act.put,go_sem,h1]
  case refine_8=>
   intro D sp w' hD hW hdp hg;have h8:D 8=false:=hW 8 (mq (by kernel_rfl))
   (with_reducible refine Ai (w1:=w'.alloc (.cells #[.slice none 0 0] 36)) (v:=.pointer (some ⟨w'.heap.size,0,none⟩)) ?_ ?_ ?_)
   .simp only[Region.wanted]
   .simp[execOp,go_sem]
   .have hb:Below w'.heap.size w' (w'.alloc (.cells #[.slice none 0 0] 36)):=Cu;refine⟨Ao.of hb hg.1.size,trivial,Ae hg.1 hb,fun _=>?_⟩;have:=Hw.made w' hg.1.size (N-1);simpa [upd,h8]using this
  case refine_9=>
   intro D sp w' hD hW hdp hg;have hx:∃p n c,sp 5=.agg #[.slice p n c]/\Ag w' p n c (N-1):=(hdp 5 (mq (by kernel_rfl))).2;have hy:∃b,sp 7=.pointer (some ⟨b,0,none⟩)/\w1.heap.size<=b/\∃p n c,Ad w' b (.slice p n c)/\(D 8=true->Ag w' p n c (N-1)):=hg.2 (hdp 7 (mq (by kernel_rfl))).1
   (with_reducible refine Ba hx fun p hx1=>Ba hx1 fun n hx2=>Ba hx2 fun c hx3=>Ba hy fun bb hy1=>?_)
   have hlo:=hy1.2.1
   (with_reducible refine Ba hy1.2.2 fun p2 hy2=>Ba hy2 fun n2 hy3=>Ba hy3 fun c2 hy4=>?_)
   have g1:=hx3.1;have g2:=hy1.1;have hbx0:=hy4.1;have g3:=hbx0.cell;have g4:=hbx0.free
   (with_reducible refine Ap (w1:=w'.setCell ⟨bb,0,none⟩ (.slice p n c)) ?_ ?_ ?_)
   .simp only[Region.wanted]
   .simp[execOp,Act.eval,Act.put,go_sem,g1,g2,g3,g4]
   .exact⟨Ao.store hbx0 hlo _,trivial,hg.1.setCell hlo _,fun _=>⟨bb,by simpa [upd]using g2,hlo,p,n,c,hbx0.set _,fun _=>hx3.2.store hbx0 _⟩⟩
  all_goals
   intro D sp w' hD hW hdp hg;simp[asked,Region.wanted,Oper.gives,execOp,Act.eval,Act.put,go_sem]
 .intro sp w2 hsp hg;obtain⟨b7,e7,lo7,p7,n7,c7,x7,v7⟩:=hg.2 rfl;replace v7:=v7 rfl;have HB2:=Ab (Ae HB1.out hg.1);have HX2:=Ab (HX1.out.below hg.1 HX1.out.lt);have HR2:=Ab (HR.out.below hg.1);have HX7:=Ab x7;have HL7:=Ab (Fit.of v7 (Nat.lt_of_le_of_lt (Nat.sub_le N 1) HNF.out.lim));clear hsp hg x7 v7;simp only[Al,Nat.reduceAdd];rw[e7];clear e7;generalize sp 2=y2,sp 3=y3,sp 4=y4,sp 5=y5,sp 8=y8 at *
  go_simp
  have d2:=HX2.out.cells.2.2;obtain⟨S1,hS1⟩:∃X,decide (Gx bs ps)=X:=⟨_,rfl⟩
  have HS1:=Ab hS1;clear hS1
  go_wp2_with fail
  refine(Ps (HP.out.below HB2.out) (HBe.out.below HB2.out) (by omega)).mono ?_;rintro en w3 ⟨rfl,hb3⟩;rw[HS1.out];have HX3:=Ab (HX2.out.below hb3 HX2.out.lt);have HB3:=Ab (Ae HB2.out hb3);have HR3:=Ab (HR2.out.below hb3);have HX73:=Ab (HX7.out.below hb3 HX7.out.lt);have HL73:=Ab (HL7.out.below hb3);clear hb3 d2
  cases S1 with
  | false=>
   have HF:Aa (ANS=false):=⟨by rw[<-HANS.out];exact decide_eq_false fun h=>(of_decide_eq_false HS1.out) ((Jk hN2).1 h).1⟩
   have HE:=Ab (Ae HX.out HB3.out);go_wp2;go_ret;exact⟨by rw[HF.out];rfl,HE.out⟩
  | true=>
   have HK:Aa (Gx bs ps):=⟨of_decide_eq_true HS1.out⟩
   obtain⟨S2,hS2⟩:∃X,decide ((∀p∈ps,(N-1)%p=0)/\N-1+1<Qg (N-1) ps*Qg (N-1) ps)=X:=⟨_,rfl⟩
   have HS2:=Ab hS2;clear hS2;have d2:=HX3.out.cells.2.2;have d7:=HX73.out.cell
   go_wp2_with fail
   refine(Ss HL73.out (HP.out.below HB3.out) he (by omega) (Rg HK.out) hnp).mono ?_;rintro en w4 ⟨rfl,hb4⟩;rw[HS2.out];have HX4:=Ab (HX3.out.below hb4 HX3.out.lt);have HB4:=Ab (Ae HB3.out hb4);have HR4:=Ab (HR3.out.below hb4);have HX74:=Ab (HX73.out.below hb4 HX73.out.lt);have HL74:=Ab (HL73.out.below hb4);clear hb4 d2 d7
   cases S2 with
   | false=>
    have HF:Aa (ANS=false):=⟨by rw[<-HANS.out];exact decide_eq_false fun h=>(of_decide_eq_false HS2.out) ((Jk hN2).1 h).2.1⟩
    have HE:=Ab (Ae HX.out HB4.out);go_wp2;go_ret;exact⟨by rw[HF.out];rfl,HE.out⟩
   | true=>
    obtain⟨S3,hS3⟩:∃X,decide (Bs^(N-1)%N=1/\∀p∈ps,Nat.gcd ((Bs^((N-1)/p)%N+N-1)%N) N=1)=X:=⟨_,rfl⟩
    have HS3:=Ab hS3;have HF:Aa (ANS=S3):=⟨by
     rw[<-HANS.out,<-hS3];exact decide_eq_decide.2 ⟨fun h=>((Jk hN2).1 h).2.2,fun h=>(Jk hN2).2 ⟨HK.out,of_decide_eq_true HS2.out,h⟩⟩⟩
    clear hS3;have d1:=HX4.out.cells.2.1;have d2:=HX4.out.cells.2.2;have d7:=HX74.out.cell
    go_wp2_with fail
    refine(Tw HR4.out (HBF.out.below HB4.out) HL74.out (HP.out.below HB4.out) he (Rg HK.out)).mono ?_;rintro en w5 ⟨rfl,hb5⟩;rw[HS3.out];have HE:=Ab (Ae HX.out (Ae HB4.out hb5));clear hb5 d1 d2 d7;go_wp2;go_ret;exact⟨by rw[HF.out];rfl,HE.out⟩
theorem Ie {w:World}{v:Value}{e N:Nat}(h:Fit e N v w)(he:e<=900000) :
  Calls Tryz.prog 239 #[v] w fun en w'=>en=.returned (.bool (decide (1024<Be N)))/\Below w.heap.size w w':=by
 obtain⟨p,n,c,rfl,h1,h2⟩:=h;have hn:n<1000000:=by have:=h1.len_le h2;omega
 have hbx:=Dl.mk1 w (.slice p n c) 36;have H1:=Ab (h1.below hbx.bel);have HBX:=Ab hbx.bel;clear h1 h2 hbx;go_enter Tryz.func239,Tryz.ntmps239
 go_wp2_with fail
 refine(Fr _ p n c N H1.out hn).mono ?_;rintro en w1 ⟨rfl,hb1⟩;have HB1:=Ab (Ae HBX.out hb1);clear hb1;obtain⟨L,hL⟩:∃L,Be N=L:=⟨_,rfl⟩
 rw[hL];have HL:=Ab hL;clear hL
 by_cases hl:1024<L
 .have HD:Aa (decide (1024<L)=true):=⟨decide_eq_true hl⟩
  have hl':(1024:Int)<L:=by omega
  clear hl;go_wp2;go_ret;exact⟨by rw[HL.out,HD.out];rfl,HB1.out⟩
 .have HD:Aa (decide (1024<L)=false):=⟨decide_eq_false hl⟩
  have hl':¬(1024:Int)<L:=by omega
  clear hl;go_wp2;go_ret;exact⟨by rw[HL.out,HD.out,<-(decide_eq_false (by have:=of_decide_eq_false HD.out;omega):decide ((1024:Int)<(L:Nat))=false)];rfl,HB1.out⟩
theorem Zj (w:World)(e:Nat)(Ns:List Nat)(he:e<=900000):Asks 239 #[] w e Ns (fun p=>decide (1024<Be p)):=by
 refine⟨fun W M u _ _ hu=>?_⟩;rw[Array.append_empty];exact Ie hu he
structure Yb (e:Nat) (s:Bh) (v:Value) (w:World):Prop where
 ex:∃q0 m0 d0 q1 m1 d1 q2 m2 d2,v=.agg #[.slice q0 m0 d0,.slice q1 m1 d1,.slice q2 m2 d2]/\Ag w q0 m0 d0 s.n/\s.n<Am e/\Ag w q1 m1 d1 s.base/\s.base<Am e/\Au w e q2 m2 d2 s.ps
open Classical in
theorem Wo {w:World}{v:Value}{e:Nat}{s:Bh}(h:Yb e s v w)(he:e<=900000) :
  Calls Tryz.prog 221 #[v] w fun en w'=>en=.returned (.bool (decide (Dk s)))/\Below w.heap.size w w':=by
 obtain⟨q0,m0,d0,q1,m1,d1,q2,m2,d2,rfl,h0,l0,h1,l1,h2⟩:=h.ex;have hbx:Below w.heap.size w (w.alloc (.cells #[.slice q0 m0 d0,.slice q1 m1 d1,.slice q2 m2 d2] 182)):=Cu;have HBX3:=Ab (Mn.made 182 w (.slice q0 m0 d0) (.slice q1 m1 d1) (.slice q2 m2 d2));obtain⟨wa,hwa⟩:∃wa,w.alloc (.cells #[.slice q0 m0 d0,.slice q1 m1 d1,.slice q2 m2 d2] 182)=wa:=⟨_,rfl⟩
 rw[hwa]at hbx HBX3
 have HNF:=Ab ((Fit.of h0 l0).below hbx);have HBF:=Ab ((Fit.of h1 l1).below hbx);have HP:=Ab (h2.below hbx);have HX:=Ab hbx;obtain⟨ANS,hANS⟩:∃X,decide (Dk s)=X:=⟨_,rfl⟩
 have HANS:=Ab hANS;rw[hANS];have hca:=HBX3.out.cells.1;clear hANS h h0 l0 h1 l1 h2 hbx;obtain⟨S0,hS0⟩:∃X,decide (1024<Be s.n)=X:=⟨_,rfl⟩
 have HS0:=Ab hS0;clear hS0;go_enter Tryz.func221,Tryz.ntmps221
 go_wp2_with fail
 refine(Ie HNF.out he).mono ?_;rintro en w1 ⟨rfl,hb1⟩;rw[HS0.out];have HX1:=Ab (HBX3.out.below hb1 HBX3.out.lt);have HB1:=Ab hb1;clear hb1 hca
 cases S0 with
 | true=>
  have HF:Aa (ANS=true):=⟨by rw[<-HANS.out];exact decide_eq_true (.inl (of_decide_eq_true HS0.out))⟩
  have HE:=Ab (Ae HX.out HB1.out);go_wp2;go_ret;exact⟨by rw[HF.out];rfl,HE.out⟩
 | false=>
  obtain⟨S1,hS1⟩:∃X,decide (1024<Be s.base)=X:=⟨_,rfl⟩
  have HS1:=Ab hS1;have hca:=HX1.out.cells.2.1;clear hS1
  go_wp2_with fail
  refine(Ie (HBF.out.below HB1.out) he).mono ?_;rintro en w2 ⟨rfl,hb2⟩;rw[HS1.out];have HX2:=Ab (HX1.out.below hb2 HX1.out.lt);have HB2:=Ab (Ae HB1.out hb2);clear hb2 hca
  cases S1 with
  | true=>
   have HF:Aa (ANS=true):=⟨by rw[<-HANS.out];exact decide_eq_true (.inr (.inl (of_decide_eq_true HS1.out)))⟩
   have HE:=Ab (Ae HX.out HB2.out);go_wp2;go_ret;exact⟨by rw[HF.out];rfl,HE.out⟩
  | false=>
   obtain⟨S2,hS2⟩:∃X,s.ps.any (fun p=>decide (1024<Be p))=X:=⟨_,rfl⟩
   have HS2:=Ab hS2;have HF:Aa (ANS=S2):=⟨by
    rw[<-HANS.out,<-hS2];have n0:=of_decide_eq_false HS0.out;have n1:=of_decide_eq_false HS1.out
    by_cases hx:∃p∈s.ps,1024<Be p
    .obtain⟨p,hp,hl⟩:=hx;rw[decide_eq_true (show Dk s from .inr (.inr ⟨p,hp,hl⟩))];exact(List.any_eq_true.2 ⟨p,hp,decide_eq_true hl⟩).symm
    .have:¬Dk s:=fun ht=>by
      rcases ht with ht|ht|ht
      .exact n0 ht
      .exact n1 ht
      .exact hx ht
     rw[decide_eq_false this];refine Eq.symm ?_;rw[List.any_eq_false];exact fun p hp hc=>hx ⟨p,hp,of_decide_eq_true hc⟩⟩
   have hca:=HX2.out.cells.2.2;clear hS2
   go_wp2_with fail
   refine(Kc _ e q2 m2 d2 s.ps _ _ (enters_of Tryz.func239 (by kernel_rfl) rfl) (fun p=>decide (1024<Be p)) (HP.out.below HB2.out) (Zj _ e s.ps he)).mono ?_;rintro en w3 ⟨rfl,hb3⟩;rw[HS2.out];have HE:=Ab (Ae HX.out (Ae HB2.out hb3));clear hb3 hca;go_wp2;go_ret;exact⟨by rw[HF.out];rfl,HE.out⟩
structure Yf (g:Nat) (lb:Array Value) (w:World) (e:Nat) (l:List Bh) (p:Bh->Bool):Prop where
 out:∀(W:World) (s:Bh) (v:Value),Below w.heap.size w W->s∈l->Yb e s v W->Calls Tryz.prog g (#[v]++lb) W fun en w'=>en=.returned (.bool (p s))/\Below W.heap.size W w'
theorem cZ {l:List Bh}{p:Bh->Bool}{k:Nat}{X:Bh}(h:l[k]? = some X)(hp:p X=true):l.any p=true :=
 List.any_eq_true.2 ⟨X,List.mem_of_getElem? h,hp⟩
theorem aF {l:List Bh}{p:Bh->Bool}(h:∀(i:Nat) (X:Bh),l[i]? = some X->p X=false):l.any p=false:=by
 rw[List.any_eq_false];intro x hx;obtain⟨i,hi⟩:=List.getElem?_of_mem hx;rw[h i x hi];exact Bool.false_ne_true
theorem Tu (w:World)(e:Nat)(p0:Option Addr)(n c:Nat)(l:List Bh)(g:Nat)(lb:Array Value)(eg:∀args w,(callFunc g args).run Tryz.prog w=.ok (.enter g args) w)(p:Bh->Bool)(h:Dp w e p0 n c l)(hp:Yf g lb w e l p) :
  Calls Tryz.prog 220 #[.slice p0 n c,.func (.func g) #[] lb] w fun en w'=>∃K:Int,en=.returned (.int .i64 K)/\decide (0<=K)=l.any p/\Below w.heap.size w w':=by
 have HH:=Ab h;have hn:=h.len;have hmax:n<=9223372036854775807:=Eu h.cap h.max;have HLN:=Ab hn;clear h hn;go_enter Tryz.func220,Tryz.ntmps220;go_wp2
 go_loopw [5,8] (fun _ iv wr=>∃k:Nat,k<=n/\iv=.int .i64 k/\Aa (∀i X,i<k->l[i]? = some X->p X=false)/\Aa (Below w.heap.size w wr)) (fun _ iv _=>n-(intOf iv).toNat)
 case atStart=>exact⟨0,by omega,rfl,⟨fun i X h=>by omega⟩,⟨Aw _ _⟩⟩
 case round=>
  obtain⟨k,hk,rfl,HJ,HB⟩:=hrel
  by_cases hkn:k<n
  .obtain⟨X,hXk⟩:∃X,l[k]? = some X:=⟨l[k]'(by rw[<-HLN.out];exact hkn),List.getElem?_eq_getElem _⟩
   obtain⟨b,off,rfl,hb,hc⟩:=(HH.out.below HB.out).at_ (by omega)
   obtain⟨q0,m0,d0,q1,m1,d1,q2,m2,d2,x0,x1,x2,x3⟩:=hc k X hXk;have HC:=Ab (hp.out wr X _ HB.out (List.mem_of_getElem? hXk) ⟨q0,m0,d0,q1,m1,d1,q2,m2,d2,rfl,x3⟩);have HX:=Ab hXk;have hkn':(k:Int)<n:=by omega
   clear hc x3 hXk hp;obtain⟨P,hP⟩:∃P,p X=P:=⟨_,rfl⟩
   rw[hP]at HC
   have HP:=Ab hP;clear hP
   cases P with
   | true=>
    go_wp2_with (go_at_fn g;refine HC.out.mono ?_;rintro en w1 ⟨rfl,hb1⟩)
    go_ret;exact⟨_,rfl,by rw[cZ HX.out HP.out];exact decide_eq_true (by omega),Ae HB.out hb1⟩
   | false=>
    have HJ':Aa (∀i Y,i<k+1->l[i]? = some Y->p Y=false):=⟨fun i Y hi hY=>by
     rcases(by omega:i<k ∨ i=k) with h|rfl
     .exact HJ.out i Y h hY
     .have:=HX.out;rw[hY]at this
      cases this;exact HP.out⟩
    go_wp2_with (go_at_fn g;refine HC.out.mono ?_;rintro en w1 ⟨rfl,hb1⟩)
    go_roundw
    case rel=>exact⟨k+1,by omega,by go_num,HJ',⟨Ae HB.out hb1⟩⟩
    case measure=>simp[intOf];omega
  .obtain rfl:k=n:=by omega
   have hkn':¬(k:Int)<k:=by omega
   go_wp2;go_ret;refine⟨_,rfl,?_,HB.out⟩;rw[aF fun i X hX=>HJ.out i X (by rw[HLN.out];exact(List.getElem?_eq_some_iff.1 hX).1) hX];rfl
theorem Op (w:World)(e:Nat)(p0:Option Addr)(n c:Nat)(l:List Bh)(g:Nat)(lb:Array Value)(eg:∀args w,(callFunc g args).run Tryz.prog w=.ok (.enter g args) w)(p:Bh->Bool)(h:Dp w e p0 n c l)(hp:Yf g lb w e l p) :
  Calls Tryz.prog 192 #[.slice p0 n c,.func (.func g) #[] lb] w fun en w'=>en=.returned (.bool (l.any p))/\Below w.heap.size w w':=by
 go_enter Tryz.func192,Tryz.ntmps192
 go_wp2_with fail
 refine(Tu w e p0 n c l g lb eg p h hp).mono ?_;rintro en w1 ⟨K,rfl,hK,hb⟩;have HB:=Ab hb;have HK:=Ab hK;clear hK hb;go_wp2;go_ret;exact⟨by rw[<-HK.out];rfl,HB.out⟩
theorem Au.tight {w:World}{e f:Nat}{p:Option Addr}{n c:Nat}{Ns:List Nat}(h:Au w e p n c Ns)(hl:∀N∈Ns,N<Am f):Au w f p n c Ns:=by
 refine⟨h.len,h.cap,h.max,h.nil,fun h0=>?_⟩;obtain⟨b,off,h1,h2,h3⟩:=h.at_ h0
 exact⟨b,off,h1,h2,fun i N hN=>let ⟨q,m,d,k1,k2,_⟩:=h3 i N hN;⟨q,m,d,k1,k2,hl N (List.mem_of_getElem? hN)⟩⟩
theorem Au.wide {w:World}{e f:Nat}{p:Option Addr}{n c:Nat}{Ns:List Nat}(h:Au w e p n c Ns)(hf:e<=f):Au w f p n c Ns:=by
 refine⟨h.len,h.cap,h.max,h.nil,fun h0=>?_⟩;obtain⟨b,off,h1,h2,h3⟩:=h.at_ h0
 exact⟨b,off,h1,h2,fun i N hN=>let ⟨q,m,d,k1,k2,k3⟩:=h3 i N hN;⟨q,m,d,k1,k2,Dh k3 (Br hf)⟩⟩
theorem Dp.wide {w:World}{e f:Nat}{p:Option Addr}{n c:Nat}{l:List Bh}(h:Dp w e p n c l)(hf:e<=f):Dp w f p n c l:=by
 refine⟨h.len,h.cap,h.max,h.nil,fun h0=>?_⟩;obtain⟨b,off,h1,h2,h3⟩:=h.at_ h0
 refine⟨b,off,h1,h2,fun i s hs=>?_⟩;obtain⟨q0,m0,d0,q1,m1,d1,q2,m2,d2,k0,k1,k2,k3,k4,k5,k6,k7⟩:=h3 i s hs;exact⟨q0,m0,d0,q1,m1,d1,q2,m2,d2,k0,k1,k2,k3,Dh k4 (Br hf),k5,Dh k6 (Br hf),k7.wide hf⟩
theorem Wp (w:World)(e:Nat)(l:List Bh)(he:e<=900000):Yf 221 #[] w e l (fun s=>@decide (Dk s) (Classical.propDecidable _)):=by
 refine⟨fun W M u _ _ hu=>?_⟩;rw[Array.append_empty];exact Wo hu he
theorem Zi (n:Nat)(h:n<=1000000)(w:World):(Instr.makeSlice 32 (.int .i64 0) (.int .i64 (n:Nat))).run Tryz.prog w =
  .ok (.slice (some ⟨w.heap.size,0,none⟩) 0 n) (w.alloc (.cells (madeCells #[.slice none 0 0] n) 36)):=by
 obtain⟨i,hi,hz,hs,hb⟩:=info_parts Tryz.info_Nat;have:=run_make (P:=Tryz.prog) w 32 36 i (.agg #[.slice none 0 0]) Tryz.underlying32 hi hz .i64 .i64 0 n (by omega) (by omega) (by rw[hb];omega) (by omega);simp only[Int.toNat_natCast,hs,Nat.mul_one]at this;rw[this];rfl
theorem Ee.made (w:World)(B n:Nat)(hn:n<=1000000)(hB:B<=w.heap.size)(bad:Nat->Prop):Ee Ag 36 B bad (w.alloc (.cells (madeCells #[.slice Option.none 0 0] n) 36)) (.slice (some ⟨w.heap.size,0,Option.none⟩) 0 n) [] :=
 ⟨[],World.ownsRow_made w _ n hB (by simp only[maxLen];omega) (by rw[size_madeCells,Nat.mul_one]),rfl,fun i N h=>by simp at h⟩
theorem Po {l:List Bh}{k:Nat}{s:Bh}(h:l[k]? = some s):Bq [] (l.take (k+1)) ↔ Bq [] (l.take k)/\Fa s.n s.base s.ps ((l.take k).map (·.n)):=by
 rw[Dg h,Pp,List.nil_append]
theorem Zw {l:List Bh}(k:Nat)(h:Bq [] l):Bq [] (l.take k):=by
 rw[<-List.take_append_drop k l]at h
 exact((Lh _ _ _).1 h).1
open Classical in
theorem eZ (f:Nat)(hf:f<=100):∀(w:World) (p:Option Addr) (n c:Nat) (l:List Bh),Dp w 200 p n c l->n<=60->(∀s∈l,s.ps.length<=1000)->(∀s∈l,¬Dk s->s.n<Am f/\s.base<Am f/\∀q∈s.ps,q<Am f) ->
  Calls Tryz.prog 193 #[.slice p n c] w fun en w'=>en=.returned (.int .i64 (if ∃s∈l,Dk s then 4 else if Bq [] l then 0 else 8))/\Below w.heap.size w w':=by
 intro w p n c l h hn hps hlim;have HH:=Ab h;have HLN:=Ab h.len;have HPS:=Ab hps;have HLIM:=Ab hlim;obtain⟨ANS,hANS⟩:∃X:Int,(if ∃s∈l,Dk s then 4 else if Bq [] l then 0 else 8)=X:=⟨_,rfl⟩
 have HANS:=Ab hANS;rw[hANS];clear h hps hlim hANS;have hn64:¬(64:Int)<n:=by omega
 obtain⟨S0,hS0⟩:∃X,l.any (fun s=>decide (Dk s))=X:=⟨_,rfl⟩
 have HS0:=Ab hS0;clear hS0;go_enter Tryz.func193,Tryz.ntmps193
 go_wp2_with fail
 refine(Op w 200 p n c l _ _ (enters_of Tryz.func221 (by kernel_rfl) rfl) (fun s=>decide (Dk s)) HH.out (Wp _ 200 l (by decide))).mono ?_;rintro en w1 ⟨rfl,hb1⟩;rw[HS0.out];have HB1:=Ab hb1;clear hb1
 cases S0 with
 | true=>
  have HF:Aa (ANS=4):=⟨by
   rw[<-HANS.out];obtain⟨s,hs,ht⟩:=List.any_eq_true.1 HS0.out;exact if_pos ⟨s,hs,of_decide_eq_true ht⟩⟩
  go_wp2;go_ret;exact⟨by rw[HF.out];rfl,HB1.out⟩
 | false=>
  have hnl:∀s∈l,¬Dk s:=fun s hs ht=>by
   have:=List.any_eq_false.1 HS0.out s hs;exact this (decide_eq_true ht)
  have HNL:=Ab hnl;have HANS2:Aa ((if Bq [] l then 0 else 8:Int)=ANS):=⟨by
   rw[<-HANS.out];exact(if_neg (fun h=>by obtain⟨s,hs,ht⟩:=h;exact hnl s hs ht)).symm⟩
  have HLT:Aa (∀s∈l,s.n<Am f/\s.base<Am f/\∀q∈s.ps,q<Am f):=⟨fun s hs=>HLIM.out s hs (hnl s hs)⟩
  clear hnl;have hmk:=fun wx=>Zi n (by omega) wx
  have HOV:=Ab (Ee.made w1 w.heap.size n (by omega) HB1.out.size (fun g=>w.heap.size<=g));have hbm:Below w1.heap.size w1 (w1.alloc (.cells (madeCells #[.slice none 0 0] n) 36)):=Cu;have HBM:=Ab (Ae HB1.out hbm);clear hbm;go_wp2
  go_loopw [3,5,18] (fun vv _ iv wr=>∃k:Nat,k<=n/\iv=.int .i64 k/\Aa (Below w.heap.size w wr)/\Aa (Ee Ag 36 w.heap.size (fun g=>w.heap.size<=g) wr vv ((l.take k).map (·.n)))/\Aa (Bq [] (l.take k))) (fun _ _ iv _=>n-(intOf iv).toNat)
  case atStart=>exact⟨0,by omega,rfl,HBM,HOV,⟨trivial⟩⟩
  case round=>
   obtain⟨k,hk,rfl,HB,HO,HC⟩:=hrel
   by_cases hkn:k<n
   .obtain⟨S,hSk⟩:∃s,l[k]? = some s:=⟨l[k]'(by rw[<-HLN.out];exact hkn),List.getElem?_eq_getElem _⟩
    have HSk:=Ab hSk;have HM:=Ab (List.mem_of_getElem? hSk);obtain⟨b,off,rfl,hb,hc⟩:=HH.out.at_ (by omega)
    obtain⟨q0,m0,d0,q1,m1,d1,q2,m2,d2,y0,y1,y2,y3,y4,y5,y6,y7⟩:=hc k S hSk;have HNA:=Ab y3;have HNB:=Ab y5;have HNP:=Ab (y7.tight (HLT.out S HM.out).2.2);have hcl:∀o,wr.cell? ⟨b,o,none⟩=w.cell? ⟨b,o,none⟩:=fun o=>HB.out.cell (p:=⟨b,o,none⟩) hb
    have x0:wr.cell? ⟨b,off+k*3,none⟩=some (.slice q0 m0 d0):=by rw[hcl];exact y0
    have x1:wr.cell? ⟨b,off+k*3+1,none⟩=some (.slice q1 m1 d1):=by rw[hcl];exact y1
    have x2:wr.cell? ⟨b,off+k*3+2,none⟩=some (.slice q2 m2 d2):=by rw[hcl];exact y2
    have hkn':(k:Int)<n:=by omega
    have hbx:Below wr.heap.size wr (wr.alloc (.cells #[.slice q0 m0 d0,.slice q1 m1 d1,.slice q2 m2 d2] 182)):=Cu;have HBX3:=Ab (Mn.made 182 wr (.slice q0 m0 d0) (.slice q1 m1 d1) (.slice q2 m2 d2));obtain⟨wa,hwa⟩:∃wa,wr.alloc (.cells #[.slice q0 m0 d0,.slice q1 m1 d1,.slice q2 m2 d2] 182)=wa:=⟨_,rfl⟩
    rw[hwa]at hbx HBX3
    have HBa:=Ab (Ae HB.out hbx);have HOa:=Ab (HO.out.below hbx);have hmem:∀N∈(l.take k).map (·.n),N<Am f:=fun N hN=>by
     obtain⟨s,hs,rfl⟩:=List.mem_map.1 hN;exact(HLT.out s (List.mem_of_mem_take hs)).1
    have HL60:Aa (((l.take k).map (·.n)).length<=1000):=⟨by rw[List.length_map,List.length_take];omega⟩
    obtain⟨Ks,hKs⟩:∃Ks,(l.take k).map (·.n)=Ks:=⟨_,rfl⟩
    have HKs:=Ab hKs;rw[hKs]at hmem HL60 HOa HO
    clear hKs;obtain⟨nk,hnk⟩:∃nk,Ks.length=nk:=⟨_,rfl⟩
    obtain⟨p1,c1,rfl,hp1⟩:=HOa.out.plist hmem;have HNk:=Ab hnk;rw[hnk]at hp1 HL60 HOa HO
    rw[hnk];clear hnk;have HP1:=Ab hp1;have z0:=HBX3.out.cells.1;have z1:=HBX3.out.cells.2.1;have z2:=HBX3.out.cells.2.2;clear hc hcl y0 y1 y2 y3 y4 y5 y6 y7 hbx hmem hp1 hSk;obtain⟨D,hD⟩:∃X,decide (Fa S.n S.base S.ps Ks)=X:=⟨_,rfl⟩
    have HD:=Ab hD;clear hD
    go_wp2_with fail
    refine(eR f hf wa S.n S.base q0 m0 d0 q1 m1 d1 q2 m2 d2 S.ps _ _ _ _ (HNA.out.below HBa.out) (HLT.out S HM.out).1 (HNB.out.below HBa.out) (HLT.out S HM.out).2.1 (HNP.out.below HBa.out) HP1.out (by rw[HNP.out.len];exact HPS.out S HM.out) HL60.out).mono ?_;rintro en w3 ⟨rfl,hb3⟩;rw[HD.out];have HB3:=Ab (Ae HBa.out hb3);have HO3:=Ab (HOa.out.below hb3);have HX3:=Ab (HBX3.out.below hb3 HBX3.out.lt);clear hb3 x0 x1 x2 z0 z1 z2
    cases D with
    | false=>
     have HF:Aa (ANS=8):=⟨by
      rw[<-HANS2.out,if_neg];intro hh;exact of_decide_eq_false HD.out (by rw[<-HKs.out];exact((Po HSk.out).1 (Zw (k+1) hh)).2)⟩
     go_wp2;go_ret;exact⟨by rw[HF.out];rfl,HB3.out⟩
    | true=>
     have HC':Aa (Bq [] (l.take (k+1))):=⟨(Po HSk.out).2 ⟨HC.out,by rw[HKs.out];exact of_decide_eq_true HD.out⟩⟩
     have HTk:Aa ((l.take (k+1)).map (·.n)=Ks++[S.n]):=⟨by rw[Dg HSk.out,List.map_append,HKs.out];rfl⟩
     have hb4:Below w3.heap.size w3 (w3.alloc (.cells #[.slice q0 m0 d0] 36)):=Cu;have hx4:(w3.alloc (.cells #[.slice q0 m0 d0] 36)).cell? ⟨w3.heap.size,0,none⟩=some (.slice q0 m0 d0):=(Ad.made w3 (.slice q0 m0 d0)).cell;obtain⟨w4,hw4⟩:∃w4,w3.alloc (.cells #[.slice q0 m0 d0] 36)=w4:=⟨_,rfl⟩
     rw[hw4]at hb4 hx4
     have hB4:=Ae HB3.out hb4;have hfirm:Hs (fun w=>Ag w q0 m0 d0 S.n) (fun g=>w.heap.size<=g) w4:=Em.firm (HNA.out.below hB4) fun q hq hle=>by
      have:=Em.lt HNA.out q hq;omega
     obtain⟨i1,hi1,hz1,hs1,hbb1⟩:=info_parts Tryz.info_Nat;obtain⟨v9,w9,happ,ho9,hg9,_⟩:=(HO3.out.below hb4).app Tryz.underlying32 hi1 hz1 hs1 hbb1 rfl (by decide) hB4.size (a:=⟨w3.heap.size,0,none⟩) (c:=1) (x:=(q0,m0,d0)) hx4 hfirm (fun g hg=>(HO3.out.block g hg).1) (by rw[HNk.out];exact Eu HL60.out (by decide)) 32;have HO9:=Ab ho9;have HB9:Aa (Below w.heap.size w w9):=⟨hB4.grown hg9 hB4.size fun g hg=>(HO3.out.block g hg).1⟩
     have z0:=HX3.out.cells.1;clear hb4 hx4 hB4 hfirm hi1 hz1 hs1 hbb1 ho9 hg9
     go_wp2_with (at_builtin;refine Lib.wpList_append_run _ rfl _ _ _ _ rfl _ _ rfl rfl _ _ happ ?_;refine Ko.out ?_)
     refine⟨?_⟩;clear happ z0;go_wp2;go_roundw
     case rel=>exact⟨k+1,by omega,by go_num,HB9,⟨by rw[HTk.out];exact HO9.out⟩,HC'⟩
     case measure=>simp[intOf];omega
   .obtain rfl:k=n:=by omega
    have hkn':¬(k:Int)<k:=by omega
    have htk:l.take k=l:=List.take_of_length_le (by rw[<-HLN.out];exact Ar _);rw[htk]at HC
    have HF:Aa (ANS=0):=⟨by rw[<-HANS2.out,if_pos HC.out]⟩
    clear htk;go_wp2;go_ret;exact⟨by rw[HF.out];rfl,HB.out⟩
end Go.Proofs.YtnbmfaihlefgfaaGreatDoor
