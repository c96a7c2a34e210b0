/- The product of powers of a group, bit by bit of all exponents at once. -/
import Derived.Test.YtokhckjemidbpaaGreatDoorCpE
import Derived.Test.YtokhckjemidbpaaGreatDoorGqH
set_option maxRecDepth 1000000
set_option maxHeartbeats 16000000
set_option linter.all false
namespace Go.Proofs.YtokhckjemidbpaaGreatDoor
open Go Go.RowKit Go.Proofs.YtokhckjemidbpaaGreatDoor.Flow
def Ht (bs ps:List Nat):Prop:=ps≠[]/\ps.length<=32/\∀i P,ps[i]? = some P->Jy bs P/\P ∉ ps.take i
open Classical in
theorem Qf {w:World}{e:Nat}{pp:Option Addr}{np cp:Nat}{ps:List Nat}{pb:Option Addr}{nb cb:Nat}{bs:List Nat}(hp:Aw w e pp np cp ps)(hb:Aw w e pb nb cb bs)(he:e<=200) :
  Calls Tryz.prog 238 #[.slice pp np cp,.slice pb nb cb] w fun en w'=>en=.returned (.bool (decide (Ht bs ps)))/\Below w.heap.size w w':=by
 have hNmax:np<=9223372036854775807:=Ep hp.cap hp.max;have hcap:=hp.cap;have hcmax:=hp.max;have HP:=Ac hp;have HLP:=Ac hp.len;have HB0:=Ac hb;obtain⟨ANS,hANS⟩:∃X,decide (Ht bs ps)=X:=⟨_,rfl⟩
 have HANS:=Ac hANS;rw[hANS];clear hANS hp hb
 by_cases h1:np=0
 .have HF:Aa (ANS=false):=⟨by
   rw[<-HANS.out];exact decide_eq_false fun h=>h.1 (List.eq_nil_of_length_eq_zero (by rw[<-HLP.out];exact h1))⟩
  subst h1;go_enter Tryz.func238,Tryz.ntmps238;go_wp2;go_ret;exact⟨by rw[HF.out];rfl,Bf _ _⟩
 by_cases h2:32<np
 .have HF:Aa (ANS=false):=⟨by
   rw[<-HANS.out];exact decide_eq_false fun h=>by have:=h.2.1;have:=HLP.out;omega⟩
  have h1':((np:Int)==0)=false:=by rw[beq_eq_false_iff_ne];omega
  have h2':(32:Int)<np:=by omega
  go_enter Tryz.func238,Tryz.ntmps238;go_wp2;go_ret;exact⟨by rw[HF.out];rfl,Bf _ _⟩
 have h1':((np:Int)==0)=false:=by rw[beq_eq_false_iff_ne];omega
 have h2':¬(32:Int)<np:=by omega
 go_enter Tryz.func238,Tryz.ntmps238;go_wp2
 go_loopw [5,6,17] (fun _ _ iv wr=>∃(k:Nat),k<=np/\iv=.int .i64 k/\Aa (Below w.heap.size w wr)/\Aa (∀i P,i<k->ps[i]? = some P->Jy bs P/\P ∉ ps.take i)) (fun _ _ iv _=>np-(intOf iv).toNat)
 case atStart=>exact⟨0,by omega,rfl,⟨Bf _ _⟩,⟨fun i P h=>by omega⟩⟩
 case round=>
  obtain⟨k,hk,rfl,HBr,HD⟩:=hrel
  by_cases hkn:k<np
  .obtain⟨PP,hPk⟩:∃P,ps[k]? = some P:=⟨ps[k]'(by rw[<-HLP.out];exact hkn),List.getElem?_eq_getElem _⟩
   have HPl:=Ac (HP.out.below HBr.out);obtain⟨b,off,rfl,hb,hc⟩:=HPl.out.at_ (by omega)
   obtain⟨q,m,d,hx,hnx,hlim⟩:=hc k PP hPk;have hkn':(k:Int)<np:=by omega
   have hkc:¬cp<k:=by omega
   have HPk:=Ac hPk;have hba:Below wr.heap.size wr (wr.alloc (.cells #[.slice q m d] 37)):=Bt;have HBP:=Ac (Ae.made wr (.slice q m d));obtain⟨wb,hwb⟩:∃wb,wr.alloc (.cells #[.slice q m d] 37)=wb:=⟨_,rfl⟩
   rw[hwb]at hba HBP
   have HF:=Ac ((Fit.of hnx hlim).below hba);have HBwb:=Ac (Ab HBr.out hba);have HL:=Ac (HB0.out.below HBwb.out);have HT:=Ac ((HPl.out.take (Nat.le_of_lt hkn)).below hba);clear hc hnx hlim hPk hba
   by_cases hkp:Jy bs PP
   .have HKN:Aa (decide (Jy bs PP)=true):=⟨decide_eq_true hkp⟩
    obtain⟨CC,hCC⟩:∃X,decide (PP∈ps.take k)=X:=⟨_,rfl⟩
    have HC:=Ac hCC;have HKP:=Ac hkp;clear hCC hkp;go_wp2;refine Aj (by kernel_rfl) (by kernel_rfl)
     [some (.agg #[.slice q m d]),some (.slice pb nb cb),none,some (.bool false),some (.bool false),some (.slice (some ⟨b,off,none⟩) np cp),some (.int .i64 k),some (.slice (some ⟨b,off,none⟩) k cp),some (.agg #[.slice q m d]),none,some (.bool CC)]
     [false,false,true,false,false,false,false,false,false,true,false] rfl
     (fun w1 w2=>Below w1.heap.size w1 w2)
     (fun _ w'=>Below wb.heap.size wb w')
     (fun i v w'=>match i with
      | 2=>v=.bool true
      | 9=>v=.bool CC
      | _=>True)
     ?_ (Bf _ _).drew ?_ ?_
    .intro i v w1 w2 hf hb;split at hf
     .exact hf
     .exact hf
     .trivial
    .simp only[Bi,Nat.reduceAdd];refine⟨?_,?_,?_,?_,?_,?_,?_,?_,?_,?_,?_,trivial⟩
     all_goals intro D sp w' hD hW hdp hbx'
     case refine_1|refine_9=>
      have c0:=(HBP.out.below hbx' HBP.out.lt).cell
      with_reducible refine Af ?_ ?_
      all_goals simp[Region.wanted,yielded,execOp,Act.eval,Act.put,go_sem,c0]
     case refine_3=>
      (with_reducible refine Ad (w1:=w') (f := 248) (args:=#[.agg #[.slice q m d],.slice pb nb cb]) ?_ ?_ ?_)
      .simp[Region.wanted,yielded,Act.put,go_sem]
      .simp[Act.eval,Act.put,go_sem]
      .refine(Ny (HF.out.below hbx') (HL.out.below hbx') he).mono ?_;rintro en w9 ⟨rfl,hb⟩;rw[HKN.out];exact⟨_,rfl,hb,rfl,Ab hbx' hb⟩
     case refine_4=>
      have k2:(sp 2)=.bool true:=(hdp 2 (mq (by kernel_rfl))).2
      with_reducible refine Af ?_ ?_
      all_goals simp[Region.wanted,yielded,execOp,Act.eval,Act.put,go_sem,k2]
     case refine_8=>
      (with_reducible refine Ai (w1:=w') (v:=.slice (some ⟨b,off,none⟩) k cp) ?_ ?_ ?_)
      .simp[Region.wanted,yielded,Act.put,go_sem]
      .simp[execOp,Act.eval,Act.put,go_sem,hkc]
      .exact⟨rfl,rfl⟩
     case refine_10=>
      (with_reducible refine Ad (w1:=w') (f := 249) (args:=#[.slice (some ⟨b,off,none⟩) k cp,.agg #[.slice q m d]]) ?_ ?_ ?_)
      .simp[Region.wanted,yielded,Act.put,go_sem]
      .simp[Act.eval,Act.put,go_sem]
      .refine(Jr w' e _ k cp (ps.take k) _ PP (HT.out.below hbx') (HF.out.below hbx') (by omega)).mono ?_;rintro en w9 ⟨rfl,hb⟩;rw[HC.out];exact⟨_,rfl,hb,rfl,Ab hbx' hb⟩
     case refine_11=>
      have k9:(sp 9)=.bool CC:=(hdp 9 (mq (by kernel_rfl))).2
      with_reducible refine Af ?_ ?_
      all_goals simp[Region.wanted,yielded,execOp,Act.eval,Act.put,go_sem,k9]
     all_goals ((with_reducible refine Af ?_ ?_);all_goals first|(simp only[Region.wanted];done)|simp[Region.wanted,yielded,execOp,Act.eval,Act.put,go_sem])
    .intro sp w7 hsp hbx';have HBe:=Ac (Ab HBwb.out hbx');clear hsp hbx';simp only[Am,Nat.reduceAdd];generalize sp 2=y2,sp 9=y9 at *
     go_simp
     cases CC with
     | true=>
      have HA:Aa (ANS=false):=⟨by
       rw[<-HANS.out];exact decide_eq_false fun h=>(h.2.2 k PP HPk.out).2 (of_decide_eq_true HC.out)⟩
      go_wp2;go_ret;exact⟨by rw[HA.out];rfl,HBe.out⟩
     | false=>
      have HD':Aa (∀i P,i<k+1->ps[i]? = some P->Jy bs P/\P ∉ ps.take i):=⟨fun i P hi hP=>by
       rcases(by omega:i<k ∨ i=k) with h|rfl
       .exact HD.out i P h hP
       .have:=HPk.out;rw[hP]at this
        cases this;exact⟨HKP.out,of_decide_eq_false HC.out⟩⟩
      go_wp2;go_roundw
      case rel=>exact⟨k+1,by omega,by go_num,HBe,HD'⟩
      case measure=>simp[intOf];omega
   .have HKN:Aa (decide (Jy bs PP)=false):=⟨decide_eq_false hkp⟩
    have HA:Aa (ANS=false):=⟨by
     rw[<-HANS.out];exact decide_eq_false fun h=>hkp (h.2.2 k PP HPk.out).1⟩
    clear hkp;go_wp2;refine Aj (by kernel_rfl) (by kernel_rfl)
     [some (.agg #[.slice q m d]),some (.slice pb nb cb),none,some (.bool true),some (.bool true),some (undef),some (undef),some (undef),some (undef),some (undef),some (.bool true)]
     [false,false,true,false,false,false,false,false,false,false,false] rfl
     (fun w1 w2=>Below w1.heap.size w1 w2)
     (fun _ w'=>Below wb.heap.size wb w')
     (fun i v w'=>match i with
      | 2=>v=.bool false
      | _=>True)
     ?_ (Bf _ _).drew ?_ ?_
    .intro i v w1 w2 hf hb;split at hf
     .exact hf
     .trivial
    .simp only[Bi,Nat.reduceAdd];refine⟨?_,?_,?_,?_,?_,?_,?_,?_,?_,?_,?_,trivial⟩
     all_goals intro D sp w' hD hW hdp hbx'
     case refine_1=>
      have c0:=(HBP.out.below hbx' HBP.out.lt).cell
      with_reducible refine Af ?_ ?_
      all_goals simp[Region.wanted,yielded,execOp,Act.eval,Act.put,go_sem,c0]
     case refine_3=>
      (with_reducible refine Ad (w1:=w') (f := 248) (args:=#[.agg #[.slice q m d],.slice pb nb cb]) ?_ ?_ ?_)
      .simp[Region.wanted,yielded,Act.put,go_sem]
      .simp[Act.eval,Act.put,go_sem]
      .refine(Ny (HF.out.below hbx') (HL.out.below hbx') he).mono ?_;rintro en w9 ⟨rfl,hb⟩;rw[HKN.out];exact⟨_,rfl,hb,rfl,Ab hbx' hb⟩
     case refine_4=>
      have k2:(sp 2)=.bool false:=(hdp 2 (mq (by kernel_rfl))).2
      with_reducible refine Af ?_ ?_
      all_goals simp[Region.wanted,yielded,execOp,Act.eval,Act.put,go_sem,k2]
     case refine_6|refine_7|refine_8|refine_9|refine_10=>
      (with_reducible refine Hr ?_ ?_)
      ·(simp[Region.wanted,yielded,Act.put,go_sem]<;>exact fun h=>by cases h)
      .exact⟨rfl,rfl⟩
     all_goals ((with_reducible refine Af ?_ ?_);all_goals first|(simp only[Region.wanted];done)|simp[Region.wanted,yielded,execOp,Act.eval,Act.put,go_sem])
    .intro sp w7 hsp hbx';have HBe:=Ac (Ab HBwb.out hbx');clear hsp hbx';simp only[Am,Nat.reduceAdd];generalize sp 2=y2 at *
     go_simp
     go_wp2;go_ret;exact⟨by rw[HA.out];rfl,HBe.out⟩
  .obtain rfl:k=np:=by omega
   have hkn':¬(k:Int)<k:=by omega
   have HF:Aa (ANS=true):=⟨by
    rw[<-HANS.out];exact decide_eq_true ⟨fun e=>h1 (by rw[HLP.out,e];rfl),by rw[<-HLP.out];omega,fun i P hP=>HD.out i P (by rw[HLP.out];exact(List.getElem?_eq_some_iff.1 hP).1) hP⟩⟩
   go_wp2;go_ret;exact⟨by rw[HF.out];rfl,HBr.out⟩
theorem dD {p n:Nat}(hp:2<=p)(h0:0<n):pw p n n=1 ↔ ¬n%p=0:=by
 rw[Oq hp h0]
 by_cases h:n%p=0
 .rw[if_pos h];refine⟨fun e=>?_,fun e=>absurd h e⟩;have:p*pw p (n/p) (n/p)=1:=e;have:=Nat.le_of_dvd (by decide) (show p ∣ 1 from ⟨_,this.symm⟩);omega
 .rw[if_neg h];exact⟨fun _=>h,fun _=>rfl⟩
structure Yz (w wr:World) (b5 b6 A Q e f:Nat) (pl:Option Addr) (nl cl:Nat) (po:Option Addr) (no co:Nat) (pq:Option Addr) (nq cq:Nat):Prop where
 box0:Ae wr w.heap.size (.slice pl nl cl)
 box5:Ae wr b5 (.slice po no co)
 box6:Ae wr b6 (.slice pq nq cq)
 less:Ah wr pl nl cl A
 one:Ah wr po no co 1
 q:Ah wr pq nq cq Q
 lim:A<Al e
 limq:Q<Al f
 ne5:w.heap.size<b5
 ne6:b5<b6
 bel:Below w.heap.size w wr
theorem Yz.later {w wr w1:World}{b5 b6 A Q e f:Nat}{pl:Option Addr}{nl cl:Nat}{po:Option Addr}{no co:Nat}{pq:Option Addr}{nq cq:Nat}(h:Yz w wr b5 b6 A Q e f pl nl cl po no co pq nq cq)(hb:Below wr.heap.size wr w1):Yz w w1 b5 b6 A Q e f pl nl cl po no co pq nq cq :=
 ⟨h.box0.below hb h.box0.lt,h.box5.below hb h.box5.lt,h.box6.below hb h.box6.lt,h.less.below hb,h.one.below hb,h.q.below hb,h.lim,h.limq,h.ne5,h.ne6,Ab h.bel hb⟩
theorem Yz.store {w wr:World}{b5 b6 A Q Q' e f f':Nat}{pl:Option Addr}{nl cl:Nat}{po:Option Addr}{no co:Nat}{pq:Option Addr}{nq cq:Nat}{p':Option Addr}{n' c':Nat}(h:Yz w wr b5 b6 A Q e f pl nl cl po no co pq nq cq)(hq:Ah wr p' n' c' Q')(hl:Q'<Al f') :
  Yz w (wr.setCell ⟨b6,0,none⟩ (.slice p' n' c')) b5 b6 A Q' e f' pl nl cl po no co p' n' c':=by
 have h1:=h.ne5;have h2:=h.ne6;exact⟨h.box0.other (by omega) _,h.box5.other (by omega) _,h.box6.set _,h.less.store h.box6 _,h.one.store h.box6 _,hq.store h.box6 _,h.lim,hl,h1,h2,h.bel.setCell (by simp;omega) _⟩
open Classical in
theorem Tg {w:World}{v:Value}{e A:Nat}{pp:Option Addr}{np cp:Nat}{ps:List Nat}(h:Fit e A v w)(hp:Aw w e pp np cp ps)(he:e<=100)(hA:0<A)(hps:∀p∈ps,2<=p)(hnp:np<=1000) :
  Calls Tryz.prog 239 #[.slice pp np cp,v] w fun en w'=>en=.returned (.bool (decide ((∀p∈ps,A%p=0)/\A+1<Qp A ps*Qp A ps)))/\Below w.heap.size w w':=by
 obtain⟨pl,nl,cl,rfl,h1,h2⟩:=Av h;have HP:=Ac hp;have HLP:=Ac hp.len;have HPS:=Ac hps;obtain⟨ANS,hANS⟩:∃X,decide ((∀p∈ps,A%p=0)/\A+1<Qp A ps*Qp A ps)=X:=⟨_,rfl⟩
 have HANS:=Ac hANS;rw[hANS];have hbx:=Cx.mk1 w (.slice pl nl cl) 37;have HBX:=Ac hbx.bel;have HNB:=Ac (Ae.made w (.slice pl nl cl));have HL1:=Ac h1;have HL2:=Ac h2;clear h hp hps hANS hbx h1 h2;go_enter Tryz.func239,Tryz.ntmps239
 go_wp2_with fail
 refine(Cq 1 _ (by decide)).mono ?_;rintro en w1 ⟨po,no,co,rfl,hn1,hb1,_⟩;have HN1:=Ac hn1;have HB1:=Ac (Ab HBX.out hb1);have HNB1:=Ac (HNB.out.below hb1 HNB.out.lt);clear hb1 hn1;go_wp2
 go_loopw [8,9,14] (fun _ _ iv wr=>∃(k:Nat) (pq:Option Addr) (nq cq:Nat),k<=np/\iv=.int .i64 k/\Aa (Yz w wr w1.heap.size (w1.heap.size+1) A (Qp A (ps.take k)) e (e*k+1) pl nl cl po no co pq nq cq)/\Aa (∀p∈ps.take k,A%p=0)) (fun _ _ iv _=>np-(intOf iv).toNat)
 case atStart=>
  have hb5:Below w1.heap.size w1 ((w1.alloc (.cells #[.slice po no co] 37)).alloc (.cells #[.slice po no co] 37)):=((Bf _ _).alloc (Ar _) _).alloc (by simp) _;refine⟨0,po,no,co,by omega,rfl,⟨HNB1.out.below hb5 HNB1.out.lt,(Ae.made w1 _).below ((Bf _ _).alloc (Ar _) _) (by simp),?_,(HL1.out.below HB1.out).below hb5,HN1.out.below hb5,HN1.out.below hb5,HL2.out,by rw[Nat.mul_zero];exact(by decide:(1:Nat)<Al 1),HNB1.out.lt,by omega,Ab HB1.out hb5⟩,⟨fun p hp=>by simp at hp⟩⟩;have:=Ae.made (w1.alloc (.cells #[.slice po no co] 37)) (.slice po no co);simpa using this
 case round=>
  obtain⟨k,pq,nq,cq,hk,rfl,HST,HD⟩:=hrel
  by_cases hkn:k<np
  .obtain⟨P,hPk⟩:∃P,ps[k]? = some P:=⟨ps[k]'(by rw[<-HLP.out];exact hkn),List.getElem?_eq_getElem _⟩
   obtain⟨b,off,rfl,hb,hc⟩:=(HP.out.below HST.out.bel).at_ (by omega)
   obtain⟨q,m,d,hx,hnx,hlim⟩:=hc k P hPk;have hkn':(k:Int)<np:=by omega
   have HPk:=Ac hPk;have HP2:Aa (2<=P):=⟨HPS.out P (List.mem_of_getElem? hPk)⟩
   have hba:Below wr.heap.size wr (wr.alloc (.cells #[.slice q m d] 37)):=Bt;have HBP:=Ac (Ae.made wr (.slice q m d));obtain⟨wa,hwa⟩:∃wa,wr.alloc (.cells #[.slice q m d] 37)=wa:=⟨_,rfl⟩
   rw[hwa]at hba HBP
   have HSTa:=Ac (HST.out.later hba);have HF:=Ac ((Fit.of hnx hlim).below hba);have HHa:=Ac hba.size;have c0:=HSTa.out.box0.cell;have c8:=HBP.out.cell;clear hc hnx hlim hPk hba
   go_wp2_with fail
   refine(aC (Fit.of HSTa.out.less HSTa.out.lim) HF.out (by omega) HP2.out hA).mono ?_;rintro en w2 ⟨_,rfl,⟨r,l,f,rfl,hr,hrl⟩,hb2⟩;have HST2:=Ac (HSTa.out.later hb2);have hbb:Below w2.heap.size w2 (w2.alloc (.cells #[.slice r l f] 37)):=Bt;have HBB:=Ac (Ae.made w2 (.slice r l f));obtain⟨wb,hwb⟩:∃wb,w2.alloc (.cells #[.slice r l f] 37)=wb:=⟨_,rfl⟩
   rw[hwb]at hbb HBB
   have HSTb:=Ac (HST2.out.later hbb);have HPW:=Ac ((Fit.of hr hrl).below hbb);have c9:=HBB.out.cell;have c5:=HSTb.out.box5.cell;clear hr hrl hb2 hbb c0 c8
   by_cases h0:A%P=0
   .have hK:Aa ((Br (pw P A A) 1==0)=false):=⟨by
     rw[beq_eq_false_iff_ne];exact fun e=>((dD HP2.out hA).1 (Ch.1 e)) h0⟩
    obtain⟨K,hKe⟩:∃K,Br (pw P A A) 1=K:=⟨_,rfl⟩
    rw[hKe]at hK
    have HKe:=Ac hKe;clear hKe;have hK':=hK.out;have HD':Aa (∀p∈ps.take (k+1),A%p=0):=⟨by
     have hi:k<ps.length:=(List.getElem?_eq_some_iff.1 HPk.out).1;have e:ps[k]=P:=by have:=HPk.out;rw[List.getElem?_eq_getElem hi]at this;exact Option.some.inj this
     rw[List.take_succ_eq_append_getElem hi,e];intro p hp;rcases List.mem_append.1 hp with hp|hp
     .exact HD.out p hp
     .simp at hp;rw[hp];exact h0⟩
    have HQ':Aa (Qp A (ps.take k)*pw P A A=Qp A (ps.take (k+1))):=⟨by
     have hi:k<ps.length:=(List.getElem?_eq_some_iff.1 HPk.out).1;have e:ps[k]=P:=by have:=HPk.out;rw[List.getElem?_eq_getElem hi]at this;exact Option.some.inj this
     rw[List.take_succ_eq_append_getElem hi,e,Uq]⟩
    have hek:e*k<=100000:=by
     have:=Nat.mul_le_mul he (show k<=1000 by omega);omega
    have HEK:=Ac hek;have HEK':Aa (e*k+1+e=e*(k+1)+1):=⟨by rw[Nat.mul_succ];omega⟩
    clear h0 hek
    go_wp2_with fail
    refine(Bb HPW.out (Fit.of HSTb.out.one (by decide:(1:Nat)<Al 1)) (by omega) (by omega) HKe.out).mono ?_;rintro en w3 ⟨_,rfl,rfl,hb3⟩;have HST3:=Ac (HSTb.out.later hb3);have HPW3:=Ac (HPW.out.below hb3);have d9:=(HBB.out.below hb3 HBB.out.lt).cell;have d6:=HST3.out.box6.cell;clear hb3 c9 c5
    go_wp2_with fail
    refine(Lv (Fit.of HST3.out.q HST3.out.limq) HPW3.out (by have:=HEK.out;omega) (by omega)).mono ?_;rintro en w4 ⟨_,rfl,⟨r4,l4,f4,rfl,x1,x2⟩,hb4⟩;rw[HQ'.out]at x1 x2
    rw[HEK'.out]at x2
    have HST4:=Ac (HST3.out.later hb4);have HST5:=Ac (HST4.out.store x1 x2);have e6:=HST4.out.box6.cell;have f6:=HST4.out.box6.free;clear hb4 x1 x2 d9 d6;go_wp2;go_roundw
    case rel=>exact⟨k+1,r4,l4,f4,by omega,by go_num,HST5,HD'⟩
    case measure=>simp[intOf];omega
   .have hK:Aa (Br (pw P A A) 1=0):=⟨Ch.2 ((dD HP2.out hA).2 h0)⟩
    have HF':Aa (ANS=false):=⟨by
     rw[<-HANS.out];exact decide_eq_false fun hh=>h0 (hh.1 P (List.mem_of_getElem? HPk.out))⟩
    clear h0
    go_wp2_with fail
    refine(Bb HPW.out (Fit.of HSTb.out.one (by decide:(1:Nat)<Al 1)) (by omega) (by omega) hK.out).mono ?_;rintro en w3 ⟨_,rfl,rfl,hb3⟩;have HB3:=Ac (Ab HSTb.out.bel hb3);clear hb3;go_wp2;go_ret;exact⟨by rw[HF'.out];rfl,HB3.out⟩
  .obtain rfl:k=np:=by omega
   have hkn':¬(k:Int)<k:=by omega
   have hta:ps.take k=ps:=List.take_of_length_le (by rw[<-HLP.out];exact Ar _);rw[hta]at HST HD
   obtain⟨Q,hQ⟩:∃Q,Qp A ps=Q:=⟨_,rfl⟩
   rw[hQ]at HST
   have HQ:=Ac hQ;have hek:e*k<=100000:=by
    have:=Nat.mul_le_mul he hnp;omega
   have HEK:Aa (e*k+1<=900000):=⟨by omega⟩
   have HEK2:Aa (e*k+1+(e*k+1)<=900000):=⟨by omega⟩
   obtain⟨K,hK⟩:∃K,Br (Q*Q) (A+1)=K:=⟨_,rfl⟩
   obtain⟨DD,hDD⟩:∃DD,decide (0<K)=DD:=⟨_,rfl⟩
   have HK:=Ac hK;have HA:Aa (ANS=DD):=⟨by
    rw[<-HANS.out,<-hDD,<-hK,hQ];exact decide_eq_decide.2 ⟨fun h=>Js.2 h.2,fun h=>⟨HD.out,Js.1 h⟩⟩⟩
   have HDDh:=Ac hDD;clear hta hQ hek hK hDD;go_wp2;have hDD:=HDDh.out;refine Aj (by kernel_rfl) (by kernel_rfl)
    [some (.agg #[.slice pq nq cq]),some (.agg #[.slice pq nq cq]),none,some (.agg #[.slice pl nl cl]),some (.agg #[.slice po no co]),none,none,some (.bool DD),some (.bool DD)]
    [false,false,true,false,false,true,true,false,false] rfl
    (fun w1 w2=>Below w1.heap.size w1 w2)
    (fun _ w'=>Below wr.heap.size wr w')
    (fun i v w'=>match i with
     | 2=>Fit (e*k+1+(e*k+1)) (Q*Q) v w'
     | 5=>Fit (e+1+1) (A+1) v w'
     | 6=>v=.int .i64 K
     | _=>True)
    ?_ (Bf _ _).drew ?_ ?_
   .intro i v w1 w2 hf hb;split at hf
    .exact hf.below hb
    .exact hf.below hb
    .exact hf
    .trivial
   .simp only[Bi,Nat.reduceAdd];refine⟨?_,?_,?_,?_,?_,?_,?_,?_,?_,trivial⟩
    all_goals intro D sp w' hD hW hdp hbx'
    case refine_1|refine_2=>
     have c6:=(HST.out.later hbx').box6.cell
     with_reducible refine Af ?_ ?_
     all_goals simp[Region.wanted,yielded,execOp,Act.eval,Act.put,go_sem,c6]
    case refine_3=>
     (with_reducible refine Ad (w1:=w') (f := 95) (args:=#[.agg #[.slice pq nq cq],.agg #[.slice pq nq cq]]) ?_ ?_ ?_)
     .simp only[Region.wanted]
     .simp[Act.eval,Act.put,go_sem]
     .refine(Lv (Fit.of (HST.out.later hbx').q HST.out.limq) (Fit.of (HST.out.later hbx').q HST.out.limq) HEK.out HEK.out).mono ?_;rintro en w5 ⟨u,rfl,hu,hb⟩;exact⟨u,rfl,hb,hu,Ab hbx' hb⟩
    case refine_4=>
     have c0:=(HST.out.later hbx').box0.cell
     with_reducible refine Af ?_ ?_
     all_goals simp[Region.wanted,yielded,execOp,Act.eval,Act.put,go_sem,c0]
    case refine_5=>
     have c5:=(HST.out.later hbx').box5.cell
     with_reducible refine Af ?_ ?_
     all_goals simp[Region.wanted,yielded,execOp,Act.eval,Act.put,go_sem,c5]
    case refine_6=>
     (with_reducible refine Ad (w1:=w') (f := 94) (args:=#[.agg #[.slice pl nl cl],.agg #[.slice po no co]]) ?_ ?_ ?_)
     .simp only[Region.wanted]
     .simp[Act.eval,Act.put,go_sem]
     .refine(Mm (Fit.of (HST.out.later hbx').less HST.out.lim) (Fit.of (HST.out.later hbx').one (by decide:(1:Nat)<Al 1)) (by omega) (by omega)).mono ?_;rintro en w5 ⟨u,rfl,hu,hb⟩;exact⟨u,rfl,hb,hu,Ab hbx' hb⟩
    case refine_7=>
     have k2:Fit (e*k+1+(e*k+1)) (Q*Q) (sp 2) w':=(hdp 2 (mq (by kernel_rfl))).2;have k5:Fit (e+1+1) (A+1) (sp 5) w':=(hdp 5 (mq (by kernel_rfl))).2
     (with_reducible refine Ad (w1:=w') (f := 24) (args:=#[sp 2,sp 5]) ?_ ?_ ?_)
     .simp only[Region.wanted]
     .simp[Act.eval,Act.put,go_sem]
     .refine(Bb k2 k5 HEK2.out (by omega) HK.out).mono ?_;rintro en w5 ⟨u,rfl,hu,hb⟩;exact⟨u,rfl,hb,hu,Ab hbx' hb⟩
    case refine_8=>
     have k6:(sp 6)=.int .i64 K:=(hdp 6 (mq (by kernel_rfl))).2
     with_reducible refine Af ?_ ?_
     all_goals simp[Region.wanted,yielded,execOp,Act.eval,Act.put,go_sem,k6,hDD]
    all_goals ((with_reducible refine Af ?_ ?_);all_goals first|(simp only[Region.wanted];done)|simp[Region.wanted,yielded,execOp,Act.eval,Act.put,go_sem])
   .intro sp w7 hsp hbx';have HBe:=Ac (Ab HST.out.bel hbx');clear hsp hbx' hDD;simp only[Am,Nat.reduceAdd];generalize sp 2=y2,sp 5=y5,sp 6=y6 at *
    go_simp
    go_wp2;go_ret;exact⟨by rw[HA.out];rfl,HBe.out⟩
theorem Kg {N Bs:Nat}{ps bs:List Nat}(hN:2<=N):Fq N Bs ps bs ↔ Ht bs ps/\((∀p∈ps,(N-1)%p=0)/\N-1+1<Qp (N-1) ps*Qp (N-1) ps)/\(Bs^(N-1)%N=1/\∀p∈ps,Nat.gcd ((Bs^((N-1)/p)%N+N-1)%N) N=1):=by
 rw[show N-1+1=N by omega];constructor
 .intro h;have hm:∀p∈ps,∃i,fN N Bs bs ps i p:=fun p hp=>by
   obtain⟨i,hi⟩:=List.getElem?_of_mem hp;exact⟨i,h.each i p hi⟩
  refine⟨⟨h.some,h.few,fun i p hp=>?_⟩,⟨fun p hp=>?_,h.great⟩,h.one,fun p hp=>?_⟩
  .have:=h.each i p hp;refine⟨?_,this.1⟩;rcases this.2.1 with k|k
   .exact .inl k
   .exact .inr ⟨this.2.2.1,k⟩
  .obtain⟨i,hi⟩:=hm p hp;exact hi.2.2.2.1
  .obtain⟨i,hi⟩:=hm p hp;exact hi.2.2.2.2
 .rintro⟨h1,h2,h3⟩;refine⟨hN,h1.1,h1.2.1,fun i p hp=>?_,h3.1,h2.2⟩;have hk:=h1.2.2 i p hp;have hm:=List.mem_of_getElem? hp;refine⟨hk.2,?_,?_,h2.1 p hm,h3.2 p hm⟩
  .rcases hk.1 with k|k
   .exact .inl k
   .exact .inr k.2
  .rcases hk.1 with k|k
   .exact k.1
   .exact k.1
theorem Rt {bs ps:List Nat}(h:Ht bs ps):∀p∈ps,2<=p:=fun p hp=>by
 obtain⟨i,hi⟩:=List.getElem?_of_mem hp;rcases(h.2.2 i p hi).1 with k|k
 .exact k.1
 .exact k.1
open Classical in
theorem gW (e:Nat)(he:e<=100):∀(w:World) (N B:Nat) (p0:Option Addr) (n0 c0:Nat) (p1:Option Addr) (n1 c1:Nat) (pp:Option Addr) (np cp:Nat) (ps:List Nat) (pb:Option Addr) (nb cb:Nat) (bs:List Nat),
  Ah w p0 n0 c0 N->N<Al e->Ah w p1 n1 c1 B->B<Al e->Aw w e pp np cp ps->Aw w e pb nb cb bs->np<=1000->nb<=1000 ->
  Calls Tryz.prog 218 #[.agg #[.slice p0 n0 c0,.slice p1 n1 c1,.slice pp np cp],.slice pb nb cb] w fun en w'=>en=.returned (.bool (decide (Fq N B ps bs)))/\Below w.heap.size w w':=by
 intro w N Bs p0 n0 c0 p1 n1 c1 pp np cp ps pb nb cb bs hN hNl hB hBl hp hb hnp hnb;have hbx:Below w.heap.size w (w.alloc (.cells #[.slice p0 n0 c0,.slice p1 n1 c1,.slice pp np cp] 189)):=Bt;have HBX3:=Ac (Nl.made 189 w (.slice p0 n0 c0) (.slice p1 n1 c1) (.slice pp np cp));obtain⟨wa,hwa⟩:∃wa,w.alloc (.cells #[.slice p0 n0 c0,.slice p1 n1 c1,.slice pp np cp] 189)=wa:=⟨_,rfl⟩
 rw[hwa]at hbx HBX3
 have HNF:=Ac ((Fit.of hN hNl).below hbx);have HBF:=Ac ((Fit.of hB hBl).below hbx);have HP:=Ac (hp.below hbx);have HBe:=Ac (hb.below hbx);have HLP:=Ac hp.len;have HX:=Ac hbx;obtain⟨ANS,hANS⟩:∃X,decide (Fq N Bs ps bs)=X:=⟨_,rfl⟩
 have HANS:=Ac hANS;rw[hANS];have hca:=HBX3.out.cells.1;clear hANS hN hNl hB hBl hp hb hbx;go_enter Tryz.func218,Tryz.ntmps218
 go_wp2_with fail
 refine(Gh HNF.out (by omega)).mono ?_;rintro en w1 ⟨hb1,⟨hlow,rfl⟩|⟨hN2,r,rfl,hR,_⟩⟩
 .have HF:Aa (ANS=false):=⟨by rw[<-HANS.out];exact decide_eq_false fun h=>by have:=h.two;omega⟩
  have HBe1:=Ac (Ab HX.out hb1);clear hb1 hca;go_wp2;go_ret;exact⟨by rw[HF.out];rfl,HBe1.out⟩
 have HR:=Ac hR;have HB1:=Ac hb1;have HX1:=Ac (HBX3.out.below hb1 HBX3.out.lt);clear hb1 hR hca;go_wp2;refine Ak (by kernel_rfl) (by kernel_rfl)
  [some (.pointer (some ⟨w.heap.size,0,none⟩)),some (.agg #[.slice p0 n0 c0]),none,none,none,none,some (.bool true),none,none,some (.bool true)]
  [false,false,true,true,true,true,false,true,true,false] rfl
  (fun w2 w3=>Ao w1.heap.size w2 w3)
  (fun D sp w'=>Below w1.heap.size w1 w'/\(D 7=true->Iu (sp 7) w1.heap.size (N-1) (D 8) w'))
  (fun i v w'=>match i with
   | 2=>Fit 1 1 v w'
   | 3=>Fc (N-1) v w'
   | 4=>Fc (N-1) v w'
   | 5=>Co (N-1) v w'
   | _=>True)
  ?_ ⟨(Bf _ _).drew,(fun a=>by cases a)⟩ ?_ ?_
 .intro i v w2 w3 hf hb;split at hf
  .exact Fit.keep hf hb
  .exact Fc.keep hf hb
  .exact Fc.keep hf hb
  .exact Co.keep hf hb
  .trivial
 .simp only[Bc,Nat.reduceAdd];refine⟨?_,?_,?_,?_,?_,?_,?_,?_,?_,?_,trivial⟩
  case refine_2=>
   intro D sp w' hD hW hdp hg;have c0:=(HX1.out.below hg.1 HX1.out.lt).cells.1;simp[asked,Region.wanted,Oper.gives,execOp,Act.eval,Act.put,go_sem,c0]
  case refine_3=>
   intro D sp w' hD hW hdp hg
   (with_reducible refine Ad (w1:=w') (f := 17) (args:=#[.int .u64 1]) ?_ ?_ ?_)
   .simp only[Region.wanted]
   .simp[Act.eval,Act.put,go_sem]
   .refine(Ek w').mono ?_;rintro en w5 ⟨u,rfl,hu,hb⟩;exact⟨u,rfl,Ao.of hb hg.1.size,hu,Ab hg.1 hb,by simpa [upd]using fun a=>(hg.2 a).later hb⟩
  case refine_4=>
   intro D sp w' hD hW hdp hg;have k2:Fit 1 1 (sp 2) w':=(hdp 2 (mq (by kernel_rfl))).2
   (with_reducible refine Ad (w1:=w') (f := 113) (args:=#[.agg #[.slice p0 n0 c0],sp 2]) ?_ ?_ ?_)
   .simp only[Region.wanted]
   .simp[Act.eval,Act.put,go_sem]
   .refine(Rj ((HNF.out.below HB1.out).below hg.1) k2 (by omega) (by omega) (by omega)).mono ?_;rintro en w5 ⟨u,rfl,hu,hb⟩;exact⟨u,rfl,Ao.of hb hg.1.size,hu,Ab hg.1 hb,by simpa [upd]using fun a=>(hg.2 a).later hb⟩
  case refine_5=>
   intro D sp w' hD hW hdp hg;have k3:Fc (N-1) (sp 3) w':=(hdp 3 (mq (by kernel_rfl))).2
   (with_reducible refine Ai (w1:=w') (v:=sp 3) ?_ ?_ ?_)
   .simp only[Region.wanted]
   .simp[execOp,Act.eval,Act.put,go_sem]
   .exact⟨Ao.same _ _,k3,hg.1,by simpa [upd]using hg.2⟩
  case refine_6=>
   intro D sp w' hD hW hdp hg;have hx:∃p n c,sp 4=.tuple #[.agg #[.slice p n c],.bool true]/\Ah w' p n c (N-1):=(hdp 4 (mq (by kernel_rfl))).2
   (with_reducible refine Ba hx fun p hx1=>Ba hx1 fun n hx2=>Ba hx2 fun c hx3=>?_)
   have h1:=hx3.1
   (with_reducible refine Ai (w1:=w') (v:=.agg #[.slice p n c]) ?_ ?_ ?_)
   .simp only[Region.wanted]
   .simp[execOp,Act.eval,Act.put,go_sem,h1]
   .exact⟨Ao.same _ _,⟨p,n,c,rfl,hx3.2⟩,hg.1,by simpa [upd]using hg.2⟩
  case refine_7=>
   intro D sp w' hD hW hdp hg;have hx:∃p n c,sp 4=.tuple #[.agg #[.slice p n c],.bool true]/\Ah w' p n c (N-1):=(hdp 4 (mq (by kernel_rfl))).2
   (with_reducible refine Ba hx fun p hx1=>Ba hx1 fun n hx2=>Ba hx2 fun c hx3=>?_)
   have h1:=hx3.1;simp[asked,Region.wanted,Oper.gives,execOp,Act.eval,Act.put,go_sem,h1]
  case refine_8=>
   intro D sp w' hD hW hdp hg;have h8:D 8=false:=hW 8 (mq (by kernel_rfl))
   (with_reducible refine Ai (w1:=w'.alloc (.cells #[.slice none 0 0] 37)) (v:=.pointer (some ⟨w'.heap.size,0,none⟩)) ?_ ?_ ?_)
   .simp only[Region.wanted]
   .simp[execOp,go_sem]
   .have hb:Below w'.heap.size w' (w'.alloc (.cells #[.slice none 0 0] 37)):=Bt;refine⟨Ao.of hb hg.1.size,trivial,Ab hg.1 hb,fun _=>?_⟩;have:=Iu.made w' hg.1.size (N-1);simpa [upd,h8]using this
  case refine_9=>
   intro D sp w' hD hW hdp hg;have hx:∃p n c,sp 5=.agg #[.slice p n c]/\Ah w' p n c (N-1):=(hdp 5 (mq (by kernel_rfl))).2;have hy:∃b,sp 7=.pointer (some ⟨b,0,none⟩)/\w1.heap.size<=b/\∃p n c,Ae w' b (.slice p n c)/\(D 8=true->Ah w' p n c (N-1)):=hg.2 (hdp 7 (mq (by kernel_rfl))).1
   (with_reducible refine Ba hx fun p hx1=>Ba hx1 fun n hx2=>Ba hx2 fun c hx3=>Ba hy fun bb hy1=>?_)
   have hlo:=hy1.2.1
   (with_reducible refine Ba hy1.2.2 fun p2 hy2=>Ba hy2 fun n2 hy3=>Ba hy3 fun c2 hy4=>?_)
   have g1:=hx3.1;have g2:=hy1.1;have hbx0:=hy4.1;have g3:=hbx0.cell;have g4:=hbx0.free
   (with_reducible refine Ap (w1:=w'.setCell ⟨bb,0,none⟩ (.slice p n c)) ?_ ?_ ?_)
   .simp only[Region.wanted]
   .simp[execOp,Act.eval,Act.put,go_sem,g1,g2,g3,g4]
   .exact⟨Ao.store hbx0 hlo _,trivial,hg.1.setCell hlo _,fun _=>⟨bb,by simpa [upd]using g2,hlo,p,n,c,hbx0.set _,fun _=>hx3.2.store hbx0 _⟩⟩
  all_goals
   intro D sp w' hD hW hdp hg;simp[asked,Region.wanted,Oper.gives,execOp,Act.eval,Act.put,go_sem]
 .intro sp w2 hsp hg;obtain⟨b7,e7,lo7,p7,n7,c7,x7,v7⟩:=hg.2 rfl;replace v7:=v7 rfl;have HB2:=Ac (Ab HB1.out hg.1);have HX2:=Ac (HX1.out.below hg.1 HX1.out.lt);have HR2:=Ac (HR.out.below hg.1);have HX7:=Ac x7;have HL7:=Ac (Fit.of v7 (Nat.lt_of_le_of_lt (Nat.sub_le N 1) HNF.out.lim));clear hsp hg x7 v7;simp only[Am,Nat.reduceAdd];rw[e7];clear e7;generalize sp 2=y2,sp 3=y3,sp 4=y4,sp 5=y5,sp 8=y8 at *
  go_simp
  have d2:=HX2.out.cells.2.2;obtain⟨S1,hS1⟩:∃X,decide (Ht bs ps)=X:=⟨_,rfl⟩
  have HS1:=Ac hS1;clear hS1
  go_wp2_with fail
  refine(Qf (HP.out.below HB2.out) (HBe.out.below HB2.out) (by omega)).mono ?_;rintro en w3 ⟨rfl,hb3⟩;rw[HS1.out];have HX3:=Ac (HX2.out.below hb3 HX2.out.lt);have HB3:=Ac (Ab HB2.out hb3);have HR3:=Ac (HR2.out.below hb3);have HX73:=Ac (HX7.out.below hb3 HX7.out.lt);have HL73:=Ac (HL7.out.below hb3);clear hb3 d2
  cases S1 with
  | false=>
   have HF:Aa (ANS=false):=⟨by rw[<-HANS.out];exact decide_eq_false fun h=>(of_decide_eq_false HS1.out) ((Kg hN2).1 h).1⟩
   have HE:=Ac (Ab HX.out HB3.out);go_wp2;go_ret;exact⟨by rw[HF.out];rfl,HE.out⟩
  | true=>
   have HK:Aa (Ht bs ps):=⟨of_decide_eq_true HS1.out⟩
   obtain⟨S2,hS2⟩:∃X,decide ((∀p∈ps,(N-1)%p=0)/\N-1+1<Qp (N-1) ps*Qp (N-1) ps)=X:=⟨_,rfl⟩
   have HS2:=Ac hS2;clear hS2;have d2:=HX3.out.cells.2.2;have d7:=HX73.out.cell
   go_wp2_with fail
   refine(Tg HL73.out (HP.out.below HB3.out) he (by omega) (Rt HK.out) hnp).mono ?_;rintro en w4 ⟨rfl,hb4⟩;rw[HS2.out];have HX4:=Ac (HX3.out.below hb4 HX3.out.lt);have HB4:=Ac (Ab HB3.out hb4);have HR4:=Ac (HR3.out.below hb4);have HX74:=Ac (HX73.out.below hb4 HX73.out.lt);have HL74:=Ac (HL73.out.below hb4);clear hb4 d2 d7
   cases S2 with
   | false=>
    have HF:Aa (ANS=false):=⟨by rw[<-HANS.out];exact decide_eq_false fun h=>(of_decide_eq_false HS2.out) ((Kg hN2).1 h).2.1⟩
    have HE:=Ac (Ab HX.out HB4.out);go_wp2;go_ret;exact⟨by rw[HF.out];rfl,HE.out⟩
   | true=>
    obtain⟨S3,hS3⟩:∃X,decide (Bs^(N-1)%N=1/\∀p∈ps,Nat.gcd ((Bs^((N-1)/p)%N+N-1)%N) N=1)=X:=⟨_,rfl⟩
    have HS3:=Ac hS3;have HF:Aa (ANS=S3):=⟨by
     rw[<-HANS.out,<-hS3];exact decide_eq_decide.2 ⟨fun h=>((Kg hN2).1 h).2.2,fun h=>(Kg hN2).2 ⟨HK.out,of_decide_eq_true HS2.out,h⟩⟩⟩
    clear hS3;have d1:=HX4.out.cells.2.1;have d2:=HX4.out.cells.2.2;have d7:=HX74.out.cell
    go_wp2_with fail
    refine(Ur HR4.out (HBF.out.below HB4.out) HL74.out (HP.out.below HB4.out) he (Rt HK.out)).mono ?_;rintro en w5 ⟨rfl,hb5⟩;rw[HS3.out];have HE:=Ac (Ab HX.out (Ab HB4.out hb5));clear hb5 d1 d2 d7;go_wp2;go_ret;exact⟨by rw[HF.out];rfl,HE.out⟩
theorem Aw.tight {w:World}{e f:Nat}{p:Option Addr}{n c:Nat}{Ns:List Nat}(h:Aw w e p n c Ns)(hl:∀N∈Ns,N<Al f):Aw w f p n c Ns:=by
 refine⟨h.len,h.cap,h.max,h.nil,fun h0=>?_⟩;obtain⟨b,off,h1,h2,h3⟩:=h.at_ h0
 exact⟨b,off,h1,h2,fun i N hN=>let ⟨q,m,d,k1,k2,_⟩:=h3 i N hN;⟨q,m,d,k1,k2,hl N (List.mem_of_getElem? hN)⟩⟩
theorem Aw.wide {w:World}{e f:Nat}{p:Option Addr}{n c:Nat}{Ns:List Nat}(h:Aw w e p n c Ns)(hf:e<=f):Aw w f p n c Ns:=by
 refine⟨h.len,h.cap,h.max,h.nil,fun h0=>?_⟩;obtain⟨b,off,h1,h2,h3⟩:=h.at_ h0
 exact⟨b,off,h1,h2,fun i N hN=>let ⟨q,m,d,k1,k2,k3⟩:=h3 i N hN;⟨q,m,d,k1,k2,De k3 (Ca hf)⟩⟩
theorem Dy.wide {w:World}{e f:Nat}{p:Option Addr}{n c:Nat}{l:List Bo}(h:Dy w e p n c l)(hf:e<=f):Dy w f p n c l:=by
 refine⟨h.len,h.cap,h.max,h.nil,fun h0=>?_⟩;obtain⟨b,off,h1,h2,h3⟩:=h.at_ h0
 refine⟨b,off,h1,h2,fun i s hs=>?_⟩;obtain⟨q0,m0,d0,q1,m1,d1,q2,m2,d2,k0,k1,k2,k3,k4,k5,k6,k7⟩:=h3 i s hs;exact⟨q0,m0,d0,q1,m1,d1,q2,m2,d2,k0,k1,k2,k3,De k4 (Ca hf),k5,De k6 (Ca hf),k7.wide hf⟩
theorem Yc (w:World)(e:Nat)(l:List Bo)(he:e<=900000):Zp 217 #[] w e l (fun s=>@decide (Dv s) (Classical.propDecidable _)):=by
 refine⟨fun W M u _ _ hu=>?_⟩;rw[Array.append_empty];exact Yb hu he
theorem aS (n:Nat)(h:n<=1000000)(w:World):(Instr.makeSlice 62 (.int .i64 0) (.int .i64 (n:Nat))).run Tryz.prog w =
  .ok (.slice (some ⟨w.heap.size,0,none⟩) 0 n) (w.alloc (.cells (madeCells #[.slice none 0 0] n) 37)):=by
 obtain⟨i,hi,hz,hs,hb⟩:=info_parts Tryz.info_Nat;have:=run_make (P:=Tryz.prog) w 62 37 i (.agg #[.slice none 0 0]) Tryz.underlying62 hi hz .i64 .i64 0 n (by omega) (by omega) (by rw[hb];omega) (by omega);simp only[Int.toNat_natCast,hs,Nat.mul_one]at this;rw[this];rfl
theorem Eo.made (w:World)(B n:Nat)(hn:n<=1000000)(hB:B<=w.heap.size)(bad:Nat->Prop):Eo Ah 37 B bad (w.alloc (.cells (madeCells #[.slice Option.none 0 0] n) 37)) (.slice (some ⟨w.heap.size,0,Option.none⟩) 0 n) [] :=
 ⟨[],World.ownsRow_made w _ n hB (by simp only[maxLen];omega) (by rw[size_madeCells,Nat.mul_one]),rfl,fun i N h=>by simp at h⟩
theorem Qb {l:List Bo}{k:Nat}{s:Bo}(h:l[k]? = some s):Bx [] (l.take (k+1)) ↔ Bx [] (l.take k)/\Fq s.n s.base s.ps ((l.take k).map (·.n)):=by
 rw[Ga h,Qc,List.nil_append]
theorem bR {l:List Bo}(k:Nat)(h:Bx [] l):Bx [] (l.take k):=by
 rw[<-List.take_append_drop k l]at h
 exact((Mf _ _ _).1 h).1
open Classical in
theorem iE (f:Nat)(hf:f<=100):∀(w:World) (p:Option Addr) (n c:Nat) (l:List Bo),Dy w 200 p n c l->n<=60->(∀s∈l,s.ps.length<=1000)->(∀s∈l,¬Dv s->s.n<Al f/\s.base<Al f/\∀q∈s.ps,q<Al f) ->
  Calls Tryz.prog 181 #[.slice p n c] w fun en w'=>en=.returned (.int .i64 (if ∃s∈l,Dv s then 4 else if Bx [] l then 0 else 8))/\Below w.heap.size w w':=by
 intro w p n c l h hn hps hlim;have HH:=Ac h;have HLN:=Ac h.len;have HPS:=Ac hps;have HLIM:=Ac hlim;obtain⟨ANS,hANS⟩:∃X:Int,(if ∃s∈l,Dv s then 4 else if Bx [] l then 0 else 8)=X:=⟨_,rfl⟩
 have HANS:=Ac hANS;rw[hANS];clear h hps hlim hANS;have hn64:¬(64:Int)<n:=by omega
 obtain⟨S0,hS0⟩:∃X,l.any (fun s=>decide (Dv s))=X:=⟨_,rfl⟩
 have HS0:=Ac hS0;clear hS0;go_enter Tryz.func181,Tryz.ntmps181
 go_wp2_with fail
 refine(Ph w 200 p n c l _ _ (enters_of Tryz.func217 (by kernel_rfl) rfl) (fun s=>decide (Dv s)) HH.out (Yc _ 200 l (by decide))).mono ?_;rintro en w1 ⟨rfl,hb1⟩;rw[HS0.out];have HB1:=Ac hb1;clear hb1
 cases S0 with
 | true=>
  have HF:Aa (ANS=4):=⟨by
   rw[<-HANS.out];obtain⟨s,hs,ht⟩:=List.any_eq_true.1 HS0.out;exact if_pos ⟨s,hs,of_decide_eq_true ht⟩⟩
  go_wp2;go_ret;exact⟨by rw[HF.out];rfl,HB1.out⟩
 | false=>
  have hnl:∀s∈l,¬Dv s:=fun s hs ht=>by
   have:=List.any_eq_false.1 HS0.out s hs;exact this (decide_eq_true ht)
  have HNL:=Ac hnl;have HANS2:Aa ((if Bx [] l then 0 else 8:Int)=ANS):=⟨by
   rw[<-HANS.out];exact(if_neg (fun h=>by obtain⟨s,hs,ht⟩:=h;exact hnl s hs ht)).symm⟩
  have HLT:Aa (∀s∈l,s.n<Al f/\s.base<Al f/\∀q∈s.ps,q<Al f):=⟨fun s hs=>HLIM.out s hs (hnl s hs)⟩
  clear hnl;have hmk:=fun wx=>aS n (by omega) wx
  have HOV:=Ac (Eo.made w1 w.heap.size n (by omega) HB1.out.size (fun g=>w.heap.size<=g));have hbm:Below w1.heap.size w1 (w1.alloc (.cells (madeCells #[.slice none 0 0] n) 37)):=Bt;have HBM:=Ac (Ab HB1.out hbm);clear hbm;go_wp2
  go_loopw [3,5,18] (fun vv _ iv wr=>∃k:Nat,k<=n/\iv=.int .i64 k/\Aa (Below w.heap.size w wr)/\Aa (Eo Ah 37 w.heap.size (fun g=>w.heap.size<=g) wr vv ((l.take k).map (·.n)))/\Aa (Bx [] (l.take k))) (fun _ _ iv _=>n-(intOf iv).toNat)
  case atStart=>exact⟨0,by omega,rfl,HBM,HOV,⟨trivial⟩⟩
  case round=>
   obtain⟨k,hk,rfl,HB,HO,HC⟩:=hrel
   by_cases hkn:k<n
   .obtain⟨S,hSk⟩:∃s,l[k]? = some s:=⟨l[k]'(by rw[<-HLN.out];exact hkn),List.getElem?_eq_getElem _⟩
    have HSk:=Ac hSk;have HM:=Ac (List.mem_of_getElem? hSk);obtain⟨b,off,rfl,hb,hc⟩:=HH.out.at_ (by omega)
    obtain⟨q0,m0,d0,q1,m1,d1,q2,m2,d2,y0,y1,y2,y3,y4,y5,y6,y7⟩:=hc k S hSk;have HNA:=Ac y3;have HNB:=Ac y5;have HNP:=Ac (y7.tight (HLT.out S HM.out).2.2);have hcl:∀o,wr.cell? ⟨b,o,none⟩=w.cell? ⟨b,o,none⟩:=fun o=>HB.out.cell (p:=⟨b,o,none⟩) hb
    have x0:wr.cell? ⟨b,off+k*3,none⟩=some (.slice q0 m0 d0):=by rw[hcl];exact y0
    have x1:wr.cell? ⟨b,off+k*3+1,none⟩=some (.slice q1 m1 d1):=by rw[hcl];exact y1
    have x2:wr.cell? ⟨b,off+k*3+2,none⟩=some (.slice q2 m2 d2):=by rw[hcl];exact y2
    have hkn':(k:Int)<n:=by omega
    have hbx:Below wr.heap.size wr (wr.alloc (.cells #[.slice q0 m0 d0,.slice q1 m1 d1,.slice q2 m2 d2] 189)):=Bt;have HBX3:=Ac (Nl.made 189 wr (.slice q0 m0 d0) (.slice q1 m1 d1) (.slice q2 m2 d2));obtain⟨wa,hwa⟩:∃wa,wr.alloc (.cells #[.slice q0 m0 d0,.slice q1 m1 d1,.slice q2 m2 d2] 189)=wa:=⟨_,rfl⟩
    rw[hwa]at hbx HBX3
    have HBa:=Ac (Ab HB.out hbx);have HOa:=Ac (HO.out.below hbx);have hmem:∀N∈(l.take k).map (·.n),N<Al f:=fun N hN=>by
     obtain⟨s,hs,rfl⟩:=List.mem_map.1 hN;exact(HLT.out s (List.mem_of_mem_take hs)).1
    have HL60:Aa (((l.take k).map (·.n)).length<=1000):=⟨by rw[List.length_map,List.length_take];omega⟩
    obtain⟨Ks,hKs⟩:∃Ks,(l.take k).map (·.n)=Ks:=⟨_,rfl⟩
    have HKs:=Ac hKs;rw[hKs]at hmem HL60 HOa HO
    clear hKs;obtain⟨nk,hnk⟩:∃nk,Ks.length=nk:=⟨_,rfl⟩
    obtain⟨p1,c1,rfl,hp1⟩:=HOa.out.plist hmem;have HNk:=Ac hnk;rw[hnk]at hp1 HL60 HOa HO
    rw[hnk];clear hnk;have HP1:=Ac hp1;have z0:=HBX3.out.cells.1;have z1:=HBX3.out.cells.2.1;have z2:=HBX3.out.cells.2.2;clear hc hcl y0 y1 y2 y3 y4 y5 y6 y7 hbx hmem hp1 hSk;obtain⟨D,hD⟩:∃X,decide (Fq S.n S.base S.ps Ks)=X:=⟨_,rfl⟩
    have HD:=Ac hD;clear hD
    go_wp2_with fail
    refine(gW f hf wa S.n S.base q0 m0 d0 q1 m1 d1 q2 m2 d2 S.ps _ _ _ _ (HNA.out.below HBa.out) (HLT.out S HM.out).1 (HNB.out.below HBa.out) (HLT.out S HM.out).2.1 (HNP.out.below HBa.out) HP1.out (by rw[HNP.out.len];exact HPS.out S HM.out) HL60.out).mono ?_;rintro en w3 ⟨rfl,hb3⟩;rw[HD.out];have HB3:=Ac (Ab HBa.out hb3);have HO3:=Ac (HOa.out.below hb3);have HX3:=Ac (HBX3.out.below hb3 HBX3.out.lt);clear hb3 x0 x1 x2 z0 z1 z2
    cases D with
    | false=>
     have HF:Aa (ANS=8):=⟨by
      rw[<-HANS2.out,if_neg];intro hh;exact of_decide_eq_false HD.out (by rw[<-HKs.out];exact((Qb HSk.out).1 (bR (k+1) hh)).2)⟩
     go_wp2;go_ret;exact⟨by rw[HF.out];rfl,HB3.out⟩
    | true=>
     have HC':Aa (Bx [] (l.take (k+1))):=⟨(Qb HSk.out).2 ⟨HC.out,by rw[HKs.out];exact of_decide_eq_true HD.out⟩⟩
     have HTk:Aa ((l.take (k+1)).map (·.n)=Ks++[S.n]):=⟨by rw[Ga HSk.out,List.map_append,HKs.out];rfl⟩
     have hb4:Below w3.heap.size w3 (w3.alloc (.cells #[.slice q0 m0 d0] 37)):=Bt;have hx4:(w3.alloc (.cells #[.slice q0 m0 d0] 37)).cell? ⟨w3.heap.size,0,none⟩=some (.slice q0 m0 d0):=(Ae.made w3 (.slice q0 m0 d0)).cell;obtain⟨w4,hw4⟩:∃w4,w3.alloc (.cells #[.slice q0 m0 d0] 37)=w4:=⟨_,rfl⟩
     rw[hw4]at hb4 hx4
     have hB4:=Ab HB3.out hb4;have hfirm:Ip (fun w=>Ah w q0 m0 d0 S.n) (fun g=>w.heap.size<=g) w4:=Ef.firm (HNA.out.below hB4) fun q hq hle=>by
      have:=Ef.lt HNA.out q hq;omega
     obtain⟨i1,hi1,hz1,hs1,hbb1⟩:=info_parts Tryz.info_Nat;obtain⟨v9,w9,happ,ho9,hg9,_⟩:=(HO3.out.below hb4).app Tryz.underlying62 hi1 hz1 hs1 hbb1 rfl (by decide) hB4.size (a:=⟨w3.heap.size,0,none⟩) (c:=1) (x:=(q0,m0,d0)) hx4 hfirm (fun g hg=>(HO3.out.block g hg).1) (by rw[HNk.out];exact Ep HL60.out (by decide)) 62;have HO9:=Ac ho9;have HB9:Aa (Below w.heap.size w w9):=⟨hB4.grown hg9 hB4.size fun g hg=>(HO3.out.block g hg).1⟩
     have z0:=HX3.out.cells.1;clear hb4 hx4 hB4 hfirm hi1 hz1 hs1 hbb1 ho9 hg9
     go_wp2_with (at_builtin;refine Lib.wpList_append_run _ rfl _ _ _ _ rfl _ _ rfl rfl _ _ happ ?_;refine Qi.out ?_)
     refine⟨?_⟩;clear happ z0;go_wp2;go_roundw
     case rel=>exact⟨k+1,by omega,by go_num,HB9,⟨by rw[HTk.out];exact HO9.out⟩,HC'⟩
     case measure=>simp[intOf];omega
   .obtain rfl:k=n:=by omega
    have hkn':¬(k:Int)<k:=by omega
    have htk:l.take k=l:=List.take_of_length_le (by rw[<-HLN.out];exact Ar _);rw[htk]at HC
    have HF:Aa (ANS=0):=⟨by rw[<-HANS2.out,if_pos HC.out]⟩
    clear htk;go_wp2;go_ret;exact⟨by rw[HF.out];rfl,HB.out⟩
theorem Aw.lim {w:World}{e:Nat}{p:Option Addr}{n c:Nat}{Ns:List Nat}(h:Aw w e p n c Ns):∀N∈Ns,N<Al e:=fun N hN=>by
 obtain⟨i,hi⟩:=List.getElem?_of_mem hN;obtain⟨b,off,_,_,h3⟩:=h.at_ (by rw[h.len];have:=(List.getElem?_eq_some_iff.1 hi).1;omega)
 obtain⟨_,_,_,_,_,h4⟩:=h3 i N hi;exact h4
theorem Dy.lim {w:World}{e:Nat}{p:Option Addr}{n c:Nat}{l:List Bo}(h:Dy w e p n c l):∀s∈l,s.n<Al e/\s.base<Al e/\∀q∈s.ps,q<Al e:=fun s hs=>by
 obtain⟨i,hi⟩:=List.getElem?_of_mem hs;obtain⟨b,off,_,_,h3⟩:=h.at_ (by rw[h.len];have:=(List.getElem?_eq_some_iff.1 hi).1;omega)
 obtain⟨_,_,_,_,_,_,_,_,_,_,_,_,_,k4,_,k6,k7⟩:=h3 i s hi;exact⟨k4,k6,k7.lim⟩
theorem Ts {e N:Nat}(he:e<=32)(h:N<Al e):¬1024<Az N:=by
 have:Az N<=32*e:=(Ck N _).2 (by
  have:Al e=2^(32*e):=by unfold Al;rw[Nat.pow_mul]
  rw[<-this];exact h)
 omega
theorem dM (w:World)(e f:Nat)(l:List Bo)(b:Nat)(v:Value)(N:Nat)(hb:b<w.heap.size)(hc:w.cell? ⟨b,0,none⟩=some v)(hv:Fit f N (.agg #[v]) w)(he:e<=900000)(hf:f<=900000) :
  Zp 179 #[.pointer (some ⟨b,0,none⟩)] w e l (fun s=>decide (s.n=N)):=by
 refine⟨fun W s u hbw _ hu=>?_⟩;have hc':W.cell? ⟨b,0,none⟩=some v:=(hbw.cell (p:=⟨b,0,none⟩) hb).trans hc;have hv':=hv.below hbw;obtain⟨q0,m0,d0,q1,m1,d1,q2,m2,d2,rfl,h0,l0,h1,l1,h2⟩:=hu.ex;have hbW:b<W.heap.size:=De hb hbw.size;have hbx:Below W.heap.size W (W.alloc (.cells #[.slice q0 m0 d0,.slice q1 m1 d1,.slice q2 m2 d2] 189)):=Bt;have HBX3:=Ac (Nl.made 189 W (.slice q0 m0 d0) (.slice q1 m1 d1) (.slice q2 m2 d2));obtain⟨wa,hwa⟩:∃wa,W.alloc (.cells #[.slice q0 m0 d0,.slice q1 m1 d1,.slice q2 m2 d2] 189)=wa:=⟨_,rfl⟩
 rw[hwa]at hbx HBX3
 have hc2:wa.cell? ⟨b,0,none⟩=some v:=(hbx.cell (p:=⟨b,0,none⟩) hbW).trans hc';have HA:=Ac ((Fit.of h0 l0).below hbx);have HV:=Ac (hv'.below hbx);have HX:=Ac hbx;have hca:=HBX3.out.cells.1;obtain⟨pv,nv,cv,hev,_,_⟩:=hv;cases hev;obtain⟨SN,hSN⟩:∃x,s.n=x:=⟨_,rfl⟩
 rw[hSN]at HA
 have HSN:=Ac hSN;clear hSN hu h0 l0 h1 l1 h2 hbx hv' hc' hc;go_enter Tryz.func179,Tryz.ntmps179
 go_wp2_with fail
 refine(Tm HA.out HV.out he hf).mono ?_;rintro en w1 ⟨_,rfl,rfl,hb1⟩;have HB1:=Ac (Ab HX.out hb1);have e0:((Br SN N:Int)==0)=decide (SN=N):=by
  by_cases hnm:SN=N
  .simp[hnm,Ch.2]
  .have:Br SN N≠0:=fun h0=>hnm (Ch.1 h0)
   simp[hnm,this]
 have HE:=Ac e0;clear e0 hb1 hc2 hca;generalize Br SN N=K at *;go_wp2;go_ret;exact⟨by rw[HSN.out,<-HE.out];rfl,HB1.out⟩
open Classical in
theorem Zh (e:Nat)(he:e<=32):∀(w:World) (N:Nat) (v:Value) (p:Option Addr) (n c:Nat) (l:List Bo),Fit e N v w->Dy w e p n c l->n<=60->(∀s∈l,s.ps.length<=1000) ->
  Calls Tryz.prog 126 #[v,.slice p n c] w fun en w'=>en=.returned (.bool (decide (Cf N ∨ (Bx [] l/\∃s∈l,s.n=N))))/\Below w.heap.size w w':=by
 intro w N v p n c l hv h hn hps;obtain⟨pu,nu,cu,rfl,hu1,hu2⟩:=hv;have hbx:=Cx.mk1 w (.slice pu nu cu) 37;obtain⟨wa,hwa⟩:∃wa,w.alloc (.cells #[.slice pu nu cu] 37)=wa:=⟨_,rfl⟩
 have hbox:=Ae.made w (.slice pu nu cu);rw[hwa]at hbx hbox
 have HBOX:=Ac hbox;have HX:=Ac hbx.bel;have HF:=Ac ((Fit.of hu1 hu2).below hbx.bel);have HP:=Ac (h.below hbx.bel);have HPS:=Ac hps;have HLIM:=Ac h.lim;obtain⟨ANS,hANS⟩:∃X,decide (Cf N ∨ (Bx [] l/\∃s∈l,s.n=N))=X:=⟨_,rfl⟩
 have HANS:=Ac hANS;rw[hANS];have hca:=hbox.cell;clear hANS hps h hu1 hu2 hbx hbox;obtain⟨S,hS⟩:∃X,decide (Cf N)=X:=⟨_,rfl⟩
 have HS:=Ac hS;clear hS;go_enter Tryz.func126,Tryz.ntmps126
 go_wp2_with fail
 refine(Hx wa N e _ HF.out (by omega)).mono ?_;rintro en w1 ⟨rfl,hb1⟩;rw[HS.out];have HB1:=Ac hb1;have HBOX1:=Ac (HBOX.out.below hb1 HBOX.out.lt);clear hb1 hca
 cases S with
 | true=>
  have HA:Aa (ANS=true):=⟨by rw[<-HANS.out];exact decide_eq_true (.inl (of_decide_eq_true HS.out))⟩
  have HE:=Ac (Ab HX.out HB1.out);go_wp2;go_ret;exact⟨by rw[HA.out];rfl,HE.out⟩
 | false=>
  obtain⟨C,hC⟩:∃X,l.any (fun s=>decide (s.n=N))=X:=⟨_,rfl⟩
  have HC:=Ac hC;clear hC;have HAS:=Ac (dM w1 e e l w.heap.size (.slice pu nu cu) N HBOX1.out.lt HBOX1.out.cell (HF.out.below HB1.out) (by omega) (by omega))
  go_wp2_with fail
  refine(Ph w1 e p n c l _ _ (enters_of Tryz.func179 (by kernel_rfl) rfl) _ (HP.out.below HB1.out) HAS.out).mono ?_;rintro en w2 ⟨rfl,hb2⟩;rw[HC.out];have HB2:=Ac (Ab HB1.out hb2);clear hb2
  cases C with
  | false=>
   have HA:Aa (ANS=false):=⟨by
    rw[<-HANS.out];refine decide_eq_false fun hh=>?_
    rcases hh with hh|⟨_,s,hs,hsn⟩
    .exact of_decide_eq_false HS.out hh
    .exact List.any_eq_false.1 HC.out s hs (decide_eq_true hsn)⟩
   have HE:=Ac (Ab HX.out HB2.out);go_wp2;go_ret;exact⟨by rw[HA.out];rfl,HE.out⟩
  | true=>
   have hnl:∀s∈l,¬Dv s:=fun s hs ht=>by
    have:=HLIM.out s hs;rcases ht with ht|ht|⟨q,hq,ht⟩
    .exact Ts he this.1 ht
    .exact Ts he this.2.1 ht
    .exact Ts he (this.2.2 q hq) ht
   have hne:¬ ∃s∈l,Dv s:=fun hh=>by obtain⟨s,hs,ht⟩:=hh;exact hnl s hs ht
   have hex:∃s∈l,s.n=N:=by
    obtain⟨s,hs,ht⟩:=List.any_eq_true.1 HC.out;exact⟨s,hs,of_decide_eq_true ht⟩
   have HNE:=Ac hne;have HEX:=Ac hex;clear hnl hne hex
   go_wp2_with fail
   refine(iE e (by omega) w2 p n c l ((HP.out.below HB2.out).wide (by omega)) hn HPS.out (fun s hs _=>HLIM.out s hs)).mono ?_;rintro en w3 ⟨rfl,hb3⟩;rw[if_neg HNE.out];have HE:=Ac (Ab HX.out (Ab HB2.out hb3));clear hb3
   by_cases hch:Bx [] l
   .rw[if_pos hch];have HA:Aa (ANS=true):=⟨by rw[<-HANS.out];exact decide_eq_true (.inr ⟨hch,HEX.out⟩)⟩
    clear hch;go_wp2;go_ret;exact⟨by rw[HA.out];rfl,HE.out⟩
   .rw[if_neg hch];have HA:Aa (ANS=false):=⟨by
     rw[<-HANS.out];refine decide_eq_false fun hh=>?_
     rcases hh with hh|hh
     .exact of_decide_eq_false HS.out hh
     .exact hch hh.1⟩
    clear hch;go_wp2;go_ret;exact⟨by rw[HA.out];rfl,HE.out⟩
structure cH (B:Nat) (w:World) (e:Nat) (p:Option Addr) (n c:Nat) (Ns:List Nat):Prop where
 pl:Aw w e p n c Ns
 lo:0<n->∀q,p=some q->q.block<B
theorem cH.of {B:Nat}{w w':World}{e:Nat}{p:Option Addr}{n c:Nat}{Ns:List Nat}(h:Aw w e p n c Ns)(hb:Below w.heap.size w w')(hB:w.heap.size<=B):cH B w' e p n c Ns :=
 ⟨h.below hb,fun h0 q hq=>by
  obtain⟨b,off,h1,h2,_⟩:=h.at_ h0
  rw[h1]at hq;cases hq
  exact De h2 hB⟩
structure iL (B:Nat) (w:World) (b P Q G H:Nat):Prop where
 ex:∃rp rq pg ng cg ph nh ch,w.heap[b]? = some (.cells #[.pointer (some ⟨rp,0,none⟩),.pointer (some ⟨rq,0,none⟩),.slice pg ng cg,.slice ph nh ch] 141 (0,0))/\(Ring w rp P 33/\Ring w rq Q 33/\Ah w pg ng cg G/\G<Al 33/\Ah w ph nh ch H/\H<Al 33)/\b<B/\rp<B/\rq<B
theorem iL.of {B:Nat}{w w':World}{b P Q G H:Nat}(h:Be w b P Q G H)(hb:Below w.heap.size w w')(hB:w.heap.size<=B):iL B w' b P Q G H:=by
 have hl:=h.lt;obtain⟨rp,rq,pg,ng,cg,ph,nh,ch,h1,h2⟩:=h.ex;have l1:=h2.1.at_.lt
 have l2:=h2.2.1.at_.lt
 obtain⟨rp',rq',pg',ng',cg',ph',nh',ch',k1,k2⟩:=(h.below hb).ex;rw[hb.block b hl,h1]at k1
 simp only[Option.some.injEq,Obj.cells.injEq,Array.mk.injEq,List.cons.injEq,Value.pointer.injEq,Addr.mk.injEq,and_true]at k1;obtain⟨rfl,rfl,e3,e4⟩:=k1;cases e3;cases e4;exact⟨rp,rq,pg,ng,cg,ph,nh,ch,(hb.block b hl).trans h1,k2,by omega,by omega,by omega⟩
structure iO (d:Bool) (b:Nat) (p0:Option Addr) (n0 c0 N:Nat) (w:World):Prop where
 z:d=false->Ae w b (.slice p0 n0 c0)
 o:d=true->∃p n c,Ae w b (.slice p n c)/\Ah w p n c N
theorem iO.later {d:Bool}{b n0 c0 N:Nat}{p0:Option Addr}{w w':World}(h:iO d b p0 n0 c0 N w)(hb:Below w.heap.size w w'):iO d b p0 n0 c0 N w' :=
 ⟨fun e=>(h.z e).below hb (h.z e).lt,fun e=>let ⟨p,n,c,h1,h2⟩:=h.o e;⟨p,n,c,h1.below hb h1.lt,h2.below hb⟩⟩
theorem iO.put {b n0 c0 N:Nat}{p0:Option Addr}{w:World}(h:iO false b p0 n0 c0 N w){p:Option Addr}{n c:Nat}(hx:Ah w p n c N):∃q m k,Ae w b (.slice q m k)/\iO true b p0 n0 c0 N (w.setCell ⟨b,0,none⟩ (.slice p n c)) :=
 ⟨p0,n0,c0,h.z rfl,(fun e=>by cases e),fun _=>⟨p,n,c,(h.z rfl).set _,hx.store (h.z rfl) _⟩⟩
theorem cB (X I:Nat):Ml X (I:Int)=X/2^I%2:=by
 unfold Ml bit;rw[if_pos (by omega),Int.toNat_natCast];have:X/2^I%2=0 ∨ X/2^I%2=1:=by omega
 rcases this with h|h<;>simp[h]
theorem fZ {Bs Es:List Nat}{k b e:Nat}(h1:Bs[k]? = some b)(h2:Es[k]? = some e):(Bs.zip Es)[k]? = some (b,e):=by
 rw[List.getElem?_zip_eq_some];exact⟨h1,h2⟩
theorem Rl (P:Nat):∀(Bs Es:List Nat),Bv ((Bs.map fun x=>x%P).zip Es)%P=Bv (Bs.zip Es)%P
 | [],_=>rfl
 | _::_,[]=>rfl
 | b::Bs,e::Es=>by
  show (b%P)^e*Bv ((Bs.map fun x=>x%P).zip Es)%P=b^e*Bv (Bs.zip Es)%P;rw[Nat.mul_mod,Rl P Bs Es,<-Nat.pow_mod,<-Nat.mul_mod]
def Em (w:World)(b N:Nat):Prop:=∃p n c,Ae w b (.slice p n c)/\Ah w p n c N
theorem aJ {w:World}{b P Q G H e1 e2 n c m d:Nat}{p q:Option Addr}{Bs Es:List Nat}(hg:Be w b P Q G H)(hB:Aw w e1 p n c Bs)(hE:Aw w e2 q m d Es)(he1:e1<=200)(he2:e2<=200)(hn:n<=1000)(hm:m<=1000) :
  Calls Tryz.prog 149 #[.pointer (some ⟨b,0,none⟩),.slice p n c,.slice q m d] w fun e w'=>∃x,e=.returned (.tuple #[x,.int .i64 (if n=m then 0 else 1)])/\Fit 33 (if n=m then Jd P 1 (Bs.zip Es) else 0) x w'/\Below w.heap.size w w':=by
 have hb6:=Ae.made w (.slice none 0 0);have hbel:Below w.heap.size w (w.alloc (.cells #[.slice none 0 0] 37)):=Bt;obtain⟨wa,hwa⟩:∃wa,w.alloc (.cells #[.slice none 0 0] 37)=wa:=⟨_,rfl⟩
 rw[hwa]at hb6 hbel
 have HBX:=Ac hb6;have HB:=Ac hbel;have HG:=Ac hg;have HBS:=Ac hB;have HES:=Ac hE;have HP2:=Ac hg.lims.1;have HPl:=Ac hg.lims.2.1;clear hb6 hbel hg hB hE
 by_cases hnm:n=m
 .subst hnm;rw[if_pos rfl,if_pos rfl];go_enter Tryz.func149,Tryz.ntmps149
  go_wp2_with fail
  refine(eM (HG.out.below HB.out) (HBS.out.below HB.out) he1 hn).mono ?_;rintro en w1 ⟨g,rfl,hpl,hb1⟩;have HW:=Ac hpl;have HB1:=Ac (Ab HB.out hb1);have HBX1:=Ac (HBX.out.below hb1 HBX.out.lt);clear hpl hb1 HBX
  go_wp2_with fail
  refine(Ek w1).mono ?_;rintro en w2 ⟨_,rfl,⟨p1,n1,c1,rfl,hn1,_⟩,hb2⟩;have hb3:Below w2.heap.size w2 (w2.alloc (.cells #[.slice p1 n1 c1] 37)):=Bt;have hX3:=Ae.made w2 (.slice p1 n1 c1);obtain⟨w3,hw3⟩:∃w3,w2.alloc (.cells #[.slice p1 n1 c1] 37)=w3:=⟨_,rfl⟩
  rw[hw3]at hb3 hX3
  have HN3:=Ac (hn1.below hb3);have HX3:=Ac hX3;have hb13:=Ab hb2 hb3;have HB13:=Ac hb13;have HB3:=Ac (Ab HB1.out hb13);have HS12:Aa (w1.heap.size<=w2.heap.size):=⟨hb2.size⟩
  have HBX3:Aa (Ae w3 w.heap.size (.slice none 0 0)/\w.heap.size<w2.heap.size):=⟨HBX1.out.below hb13 HBX1.out.lt,De HBX1.out.lt hb2.size⟩
  clear hn1 hb2 hb3 hX3 hb13 HBX1
  go_wp2_with fail
  refine(dP (HES.out.below HB3.out) he2 (by omega)).mono ?_;rintro en w4 ⟨rfl,hb4⟩;obtain⟨M,hM⟩:∃M,Fs Es=M:=⟨_,rfl⟩
  rw[hM];have hM1:M<=10000:=by
   rw[<-hM];refine Vc Es fun x hx=>?_
   have:=Fk (HES.out.lim x hx);omega
  obtain⟨L,hL⟩:∃L,(Bs.map fun x=>x%P).zip Es=L:=⟨_,rfl⟩
  have HTop:Aa (Bv (Ko M L)%P=1):=⟨by
   rw[Us M L fun x hx=>by
    rw[<-hL]at hx
    have:=(List.of_mem_zip hx).2;rw[<-hM];exact Vb Es _ this]
   exact Nat.mod_eq_of_lt (by have:=HP2.out;omega)⟩
  have HBot:Aa (Bv (Ko 0 L)%P=Jd P 1 (Bs.zip Es)):=⟨by rw[bP,<-hL,Rl,aL HP2.out]⟩
  have HLl:Aa (L.length=n):=⟨by rw[<-hL,List.length_zip,List.length_map,<-HBS.out.len,<-HES.out.len,Nat.min_self]⟩
  have HLL:=Ac hL;have HG4:Aa (iL w2.heap.size w4 b P Q G H):=⟨iL.of HG.out (Ab HB3.out hb4) (by have:=HBX3.out.2;omega)⟩
  have HW4:Aa (cH w2.heap.size w4 33 (some ⟨g,0,none⟩) n n (Bs.map fun x=>x%P)):=⟨cH.of HW.out (Ab HB13.out hb4) HS12.out⟩
  have HE4:Aa (cH w2.heap.size w4 e2 q n d Es):=⟨cH.of HES.out (Ab HB3.out hb4) (by have:=HBX3.out.2;omega)⟩
  have HX4:Aa (Em w4 w2.heap.size (Bv (Ko M L)%P)):=⟨_,_,_,HX3.out.below hb4 HX3.out.lt,by rw[HTop.out];exact HN3.out.below hb4⟩
  have HB4:=Ac (Ab HB3.out hb4);have HBX4:Aa (Ae w4 w.heap.size (.slice none 0 0)):=⟨HBX3.out.1.below hb4 HBX3.out.1.lt⟩
  have HL4:Aa (w2.heap.size<=w4.heap.size):=⟨Nat.le_of_lt (De HX3.out.lt hb4.size)⟩
  have HWS:Aa (w.heap.size<w2.heap.size):=⟨HBX3.out.2⟩
  clear hb4 hM hL HX3 HN3 HBX3 HTop HB13 HS12 HW HB3 HB1 HB;go_wp2
  go_loopw [10,11,12] (fun iv _ _ wr=>∃(k:Nat) (z:Int),k<=M/\iv=.int .i64 z/\z=(k:Int)-1/\Aa (Ao w2.heap.size w4 wr)/\Aa (Em wr w2.heap.size (Bv (Ko k L)%P))) (fun iv _ _ _=>(intOf iv+1).toNat)
  case atStart=>exact⟨M,(M:Int)-1,by omega,by go_num,rfl,⟨Ao.same _ _⟩,HX4⟩
  case round=>
   obtain⟨k,z,hk,rfl,hz,HKr,HXr⟩:=hrel;obtain⟨pz,nz,cz,hzb,hzn⟩:=HXr.out;have HZB:=Ac hzb;have c9:=hzb.cell
   by_cases hk0:0<k
   .obtain⟨I,rfl⟩:∃I,k=I+1:=⟨k-1,by omega⟩
    obtain rfl:z=(I:Nat):=by omega
    clear hz;obtain⟨A,hA⟩:∃A,Bv (Ko (I+1) L)=A:=⟨_,rfl⟩
    rw[hA]at hzn
    have HA:=Ac hA;have HF:Aa (Fit 33 (A%P) (.agg #[.slice pz nz cz]) wr):=⟨Fit.of hzn (Nat.lt_trans (Nat.mod_lt _ (by have:=HP2.out;omega)) HPl.out)⟩
    have HGr:=Ac (HG4.out.keep HKr.out);clear hzn hzb hA hk0
    go_wp2_with fail
    refine(Vp HGr.out.at_ HF.out HF.out (by decide) (by decide)).mono ?_;rintro en w5 ⟨_,rfl,⟨p5,n5,c5,rfl,hn5,_⟩,hb5⟩;have hX5:=HZB.out.below hb5 HZB.out.lt;have k9:=hX5.cell;have f9:=hX5.free;have HK6:Aa (Ao w2.heap.size w4 (w5.setCell ⟨w2.heap.size,0,none⟩ (.slice p5 n5 c5))):=⟨HKr.out.trans ((Ao.of hb5 (Nat.le_of_lt HZB.out.lt)).trans (Ao.store hX5 (Ar _) _))⟩
    have HX6:Aa (Em (w5.setCell ⟨w2.heap.size,0,none⟩ (.slice p5 n5 c5)) w2.heap.size (A*A*Bv (Lj I (L.take 0))%P)):=⟨p5,n5,c5,hX5.set _,by
     have:A*A*Bv (Lj I (L.take 0))%P=(A%P)*(A%P)%P:=by
      rw[show Bv (Lj I (L.take 0))=1 from rfl,Nat.mul_one,Nat.mul_mod]
     rw[this];exact hn5.store hX5 _⟩
    obtain⟨w6,hw6⟩:∃w6,w5.setCell ⟨w2.heap.size,0,none⟩ (.slice p5 n5 c5)=w6:=⟨_,rfl⟩
    rw[hw6]at HK6 HX6
    clear hb5 hn5 hX5 c9;obtain⟨wo,hwo⟩:∃x,x=wr:=⟨_,rfl⟩
    subst hwo;go_wp2
    go_loopw [40,11,12] (fun jv _ _ wr=>∃j:Nat,j<=n/\jv=.int .i64 j/\Aa (Ao w2.heap.size w4 wr)/\Aa (Em wr w2.heap.size (A*A*Bv (Lj I (L.take j))%P))) (fun jv _ _ _=>n-(intOf jv).toNat)
    case atStart=>exact⟨0,by omega,rfl,HK6,HX6⟩
    case round=>
     obtain⟨j,hj,rfl,HKi,HXi⟩:=hrel;obtain⟨px,nx,cx,hxb,hxn⟩:=HXi.out;have HXB:=Ac hxb;have HXN:=Ac hxn
     by_cases hjn:j<n
     .obtain⟨X,hXj⟩:∃X,Es[j]? = some X:=⟨Es[j]'(by rw[<-HES.out.len];exact hjn),List.getElem?_eq_getElem _⟩
      obtain⟨Y,hYj⟩:∃Y,(Bs.map fun x=>x%P)[j]? = some Y:=⟨(Bs.map fun x=>x%P)[j]'(by rw[List.length_map,<-HBS.out.len];exact hjn),List.getElem?_eq_getElem _⟩
      obtain⟨b2,off,rfl,hb2,hc2⟩:=(HE4.out.keep HKi.out).pl.at_ (by omega)
      obtain⟨q2,m2,d2,hx2,hn2,hl2⟩:=hc2 j X hXj;have hbw:Below wr.heap.size wr (wr.alloc (.cells #[.slice q2 m2 d2] 37)):=Bt;have hbx:=Ae.made wr (.slice q2 m2 d2);obtain⟨wb,hwb⟩:∃wb,wr.alloc (.cells #[.slice q2 m2 d2] 37)=wb:=⟨_,rfl⟩
      rw[hwb]at hbw hbx
      have cb:=hbx.cell;have HNX:=Ac (hn2.below hbw);have hm9:m2<1000000:=by have:=hn2.len_le hl2;omega
      have HT:Aa (Lj I (L.take (j+1))=Lj I (L.take j)++[(Y,X/2^I%2)]):=⟨cA (by rw[<-HLL.out];exact fZ hYj hXj)⟩
      have HKw:Aa (Ao w2.heap.size wr wb):=⟨Ao.of hbw (Nat.le_of_lt HXB.out.lt)⟩
      have HXBw:=Ac (HXB.out.below hbw HXB.out.lt);have HYj:=Ac hYj;have hjn':(j:Int)<n:=by omega
      clear hc2 hn2 hl2 hXj hYj hbw hbx hxb hxn hb2
      go_wp2_with fail
      refine(Sc wb q2 m2 d2 X (I:Nat) HNX.out hm9 (by omega) (by omega)).mono ?_;rintro en w8 ⟨rfl,hb8⟩;rw[cB];have HK8:Aa (Ao w2.heap.size wr w8):=⟨HKw.out.trans (Ao.of hb8 (Nat.le_of_lt HXBw.out.lt))⟩
      have HX8:=Ac (HXBw.out.below hb8 HXBw.out.lt);obtain⟨bt,hbt⟩:∃t,X/2^I%2=t:=⟨_,rfl⟩
      have hb01:bt=0 ∨ bt=1:=by omega
      rw[hbt]at HT ⊢
      clear hb8 hbt cb;rcases hb01 with rfl|rfl
      .have HXE:Aa (Em w8 w2.heap.size (A*A*Bv (Lj I (L.take (j+1)))%P)):=⟨px,nx,cx,HX8.out,by rw[HT.out,Ky,Nat.pow_zero,Nat.mul_one];exact HK8.out.nat _ _ _ _ HXN.out⟩
       have HKE:Aa (Ao w2.heap.size w4 w8):=⟨HKi.out.trans HK8.out⟩
       go_wp2;go_roundw
       case rel=>exact⟨j+1,by omega,by go_num,HKE,HXE⟩
       case measure=>simp[intOf];omega
      .obtain⟨b3,off3,he3,_,hc3⟩:=(HW4.out.keep (HKi.out.trans HK8.out)).pl.at_ (by omega)
       obtain⟨pw,nw,cw,hw1,hw2,hw4⟩:=hc3 j Y HYj.out;cases he3;rw[Nat.zero_add]at hw1
       have HCW:=Ac hw1;have HFW:Aa (Fit 33 Y (.agg #[.slice pw nw cw]) w8):=⟨Fit.of hw2 hw4⟩
       have HGL:Aa (g<w2.heap.size):=⟨HW4.out.lo (by omega) _ rfl⟩
       obtain⟨V0,hV0⟩:∃V,A*A*Bv (Lj I (L.take j))=V:=⟨_,rfl⟩
       rw[hV0]at HXN
       have HFX:Aa (Fit 33 (V0%P) (.agg #[.slice px nx cx]) w8):=⟨Fit.of (HK8.out.nat _ _ _ _ HXN.out) (Nat.lt_trans (Nat.mod_lt _ (by have:=HP2.out;omega)) HPl.out)⟩
       obtain⟨Z,hZ⟩:∃Z,V0%P*Y%P=Z:=⟨_,rfl⟩
       have HZ:=Ac hZ;have HZE:Aa (A*A*Bv (Lj I (L.take (j+1)))%P=Z):=⟨by rw[HT.out,Ky,Nat.pow_one,<-Nat.mul_assoc,hV0,<-hZ,Nat.mod_mul_mod]⟩
       have HG1:=Ac (HG4.out.keep (HKi.out.trans HK8.out));have HLE:Aa (w2.heap.size<=w8.heap.size):=⟨Nat.le_of_lt HX8.out.lt⟩
       have HKE:Aa (Ao w2.heap.size w4 w8):=⟨HKi.out.trans HK8.out⟩
       clear hc3 hw1 hw2 hw4 hV0 hZ HK8 HKi;go_wp2;refine Ak (by kernel_rfl) (by kernel_rfl)
        [some (.pointer (some ⟨b,0,none⟩)),some (.agg #[.slice px nx cx]),some (.slice (some ⟨g,0,none⟩) n n),some (.int .i64 (j:Nat)),some (.pointer (some ⟨g,j,none⟩)),some (.agg #[.slice pw nw cw]),none,none]
        [false,false,false,false,false,false,true,true] rfl
        (fun wA wB=>Ao (w2.heap.size) wA wB)
        (fun D sp w'=>RG (w2.heap.size) w8 [] w'/\iO (D 7) (w2.heap.size) px nx cx (Z) w')
        (fun i v w'=>match i with
         | 6=>Fit 33 Z v w'
         | _=>True)
        ?_ ⟨RG.start HLE.out (fun x hx=>by cases hx),⟨fun _=>HX8.out,fun e=>by cases e⟩⟩ ?_ ?_
       .intro i v wA wB hf hb;split at hf
        .exact hf.keep hb
        .trivial
       .simp only[Bc,Nat.reduceAdd];refine⟨?_,?_,?_,?_,?_,?_,?_,?_,trivial⟩
        all_goals intro D sp w' hD hW hdp hg
        case refine_2=>
         have c0:=(hg.2.z (hW 7 (mq (by kernel_rfl)))).cell
         with_reducible refine Af ?_ ?_
         all_goals simp[Region.wanted,yielded,execOp,Act.eval,Act.put,go_sem,c0]
        case refine_5=>
         have hnj:¬n<=j:=Nat.not_le.2 hjn
         with_reducible refine Af ?_ ?_
         all_goals simp[Region.wanted,yielded,execOp,Act.eval,Act.put,go_sem,hnj]
        case refine_6=>
         have c0:w'.cell? ⟨g,j,none⟩=some (.slice pw nw cw):=(hg.1.keep.bel.cell (p:=⟨g,j,none⟩) HGL.out).trans HCW.out
         with_reducible refine Af ?_ ?_
         all_goals simp[Region.wanted,yielded,execOp,Act.eval,Act.put,go_sem,c0]
        case refine_7=>
         (with_reducible refine Ad (w1:=w') (f := 124) (args:=#[.pointer (some ⟨b,0,none⟩),.agg #[.slice px nx cx],.agg #[.slice pw nw cw]]) ?_ ?_ ?_)
         .simp[Region.wanted,yielded,Act.put,go_sem]
         .simp[Act.eval,Act.put,go_sem]
         .refine(Vp (HG1.out.keep hg.1.keep).at_ (HFX.out.keep hg.1.keep) (HFW.out.keep hg.1.keep) (by decide) (by decide)).mono ?_;rintro en w9 ⟨u,rfl,hu,hb⟩;rw[HZ.out]at hu
          exact⟨u,rfl,Ao.of hb hg.1.base,hu,hg.1.later hb,by simpa [upd]using hg.2.later hb⟩
        case refine_8=>
         have hx:∃p n c,sp 6=.agg #[.slice p n c]/\Ah w' p n c (Z)/\Z<Al (33):=(hdp 6 (mq (by kernel_rfl))).2
         (with_reducible refine Ba hx fun p hx1=>Ba hx1 fun n hx2=>Ba hx2 fun c hx3=>?_)
         have h1:=hx3.1;rw[hD]at hg
         have hp:=hg.2.put (hx3.2.1)
         (with_reducible refine Ba hp fun q hy1=>Ba hy1 fun m hy2=>Ba hy2 fun k hy3=>?_)
         have h6:=hy3.1.cell;have h7:=hy3.1.free
         (with_reducible refine Ap (w1:=w'.setCell ⟨w2.heap.size,0,none⟩ (.slice p n c)) ?_ ?_ ?_)
         .simp[Region.wanted,yielded,Act.put,go_sem]
         .simp[execOp,Act.eval,Act.put,go_sem,h1,h6,h7]
         .refine⟨Ao.store hy3.1 (Ar _) _,trivial,hg.1.store hy3.1 (Ar _) (fun x hx=>by cases hx) _,?_⟩;have h8:=hy3.2;simpa [upd]using h8
        all_goals ((with_reducible refine Af ?_ ?_);all_goals first|(simp only[Region.wanted];done)|simp[Region.wanted,yielded,execOp,Act.eval,Act.put,go_sem])
       .intro sp w9 hsp hg;obtain⟨hg1,hg2⟩:=hg;obtain⟨pf,nf,cf,hf1,hf2⟩:=hg2.o rfl;have HXE:Aa (Em w9 w2.heap.size (A*A*Bv (Lj I (L.take (j+1)))%P)):=⟨pf,nf,cf,hf1,by rw[HZE.out];exact hf2⟩
        have HK9:Aa (Ao w2.heap.size w4 w9):=⟨HKE.out.trans hg1.keep⟩
        clear hsp hg1 hg2 hf1 hf2;simp only[Am,Nat.reduceAdd];generalize sp 6=y6,sp 7=y7 at *
        go_simp
        go_wp2;go_roundw
        case rel=>exact⟨j+1,by omega,by go_num,HK9,HXE⟩
        case measure=>simp[intOf];omega
     .obtain rfl:j=n:=by omega
      have hjn':¬(j:Int)<j:=by omega
      have HXE:Aa (Em wr w2.heap.size (Bv (Ko I L)%P)):=⟨px,nx,cx,HXB.out,by
       rw[Ut I L,HA.out];have:=HXN.out;rw[List.take_of_length_le (by rw[HLl.out];exact Ar _)]at this
       exact this⟩
      clear hxb hxn;go_wp2;go_roundw
      case rel=>exact⟨I,(I:Int)-1,by omega,by go_num,by omega,HKi,HXE⟩
      case measure=>simp[intOf]
   .obtain rfl:k=0:=by omega
    obtain rfl:z = -1:=by omega
    clear hz;have hrb:Ae wr w.heap.size (.slice none 0 0):=HBX4.out.below (B:=w2.heap.size) HKr.out.bel HWS.out;have k6:=hrb.cell;have f6:=hrb.free;rw[HBot.out]at hzn
    have HNF:=Ac (hzn.store hrb (.slice pz nz cz));have HLM:Aa (Jd P 1 (Bs.zip Es)<Al 33):=⟨Nat.lt_trans (Pp HP2.out _ _ (by have:=HP2.out;omega)) HPl.out⟩
    have hbf:Below w.heap.size w (wr.setCell ⟨w.heap.size,0,none⟩ (.slice pz nz cz)):=(HB4.out.trans (HKr.out.bel.mono (Nat.le_of_lt HWS.out))).setCell (Ar _) _;have HBF:=Ac hbf;clear hzn hzb hrb hbf hk0;go_wp2;exact bodyPost_ret (v:=.tuple #[.agg #[.slice pz nz cz],.int .i64 0]) (by simp[results,Tryz.results149,go_sem,k6]) rfl ⟨_,rfl,Fit.of HNF.out HLM.out,HBF.out⟩
 .rw[if_neg hnm,if_neg hnm];have hne:((n:Int)==(m:Nat))=false:=by rw[beq_eq_false_iff_ne];omega
  have hne2:¬(n:Int)=(m:Nat):=by omega
  have k6:=HBX.out.cell;have f6:=HBX.out.free;have hbf:Below w.heap.size w (wa.setCell ⟨w.heap.size,0,none⟩ (.slice none 0 0)):=HB.out.setCell (Ar _) _;have HBF:=Ac hbf;clear hnm hbf;go_enter Tryz.func149,Tryz.ntmps149;go_wp2;exact bodyPost_ret (v:=.tuple #[.agg #[.slice none 0 0],.int .i64 1]) (by simp[results,Tryz.results149,go_sem,k6]) rfl ⟨_,rfl,Fit.of (Ah.nil _) (by decide),HBF.out⟩
end Go.Proofs.YtokhckjemidbpaaGreatDoor
