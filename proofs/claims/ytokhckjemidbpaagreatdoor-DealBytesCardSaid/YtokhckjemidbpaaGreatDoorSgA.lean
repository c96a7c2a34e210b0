/- How a region stands that stores into boxes of one number alone; sign's small calls. -/
import Derived.Test.YtokhckjemidbpaaGreatDoorCpF
import Derived.Test.YtokhckjemidbpaaGreatDoorCpE
import Derived.Test.YtokhckjemidbpaaGreatDoorGqA
set_option maxRecDepth 1000000
set_option maxHeartbeats 16000000
set_option linter.all false
namespace Go.Proofs.YtokhckjemidbpaaGreatDoor
open Go Go.RowKit Go.Proofs.YtokhckjemidbpaaGreatDoor.Flow
def Hn (bs ps:List Nat):Prop:=ps≠[]/\ps.length<=32/\∀i P,ps[i]? = some P->Jq bs P/\P ∉ ps.take i
open Classical in
theorem Ps {w:World}{e:Nat}{pp:Option Addr}{np cp:Nat}{ps:List Nat}{pb:Option Addr}{nb cb:Nat}{bs:List Nat}(hp:Ba w e pp np cp ps)(hb:Ba w e pb nb cb bs)(he:e<=200) :
  Calls Tryz.prog 238 #[.slice pp np cp,.slice pb nb cb] w fun en w'=>en=.returned (.bool (decide (Hn bs ps)))/\Below w.heap.size w w':=by
 have hNmax:np<=9223372036854775807:=Eo hp.cap hp.max;have hcap:=hp.cap;have hcmax:=hp.max;have HP:=Ac hp;have HLP:=Ac hp.len;have HB0:=Ac hb;obtain⟨ANS,hANS⟩:∃X,decide (Hn bs ps)=X:=⟨_,rfl⟩
 have HANS:=Ac hANS;rw[hANS];clear hANS hp hb
 by_cases h1:np=0
 .have HF:Aa (ANS=false):=⟨by
   rw[<-HANS.out];exact decide_eq_false fun h=>h.1 (List.eq_nil_of_length_eq_zero (by rw[<-HLP.out];exact h1))⟩
  subst h1;go_enter Tryz.func238,Tryz.ntmps238;go_wp2;go_ret;exact⟨by rw[HF.out];rfl,Bd _ _⟩
 by_cases h2:32<np
 .have HF:Aa (ANS=false):=⟨by
   rw[<-HANS.out];exact decide_eq_false fun h=>by have:=h.2.1;have:=HLP.out;omega⟩
  have h1':((np:Int)==0)=false:=by rw[beq_eq_false_iff_ne];omega
  have h2':(32:Int)<np:=by omega
  go_enter Tryz.func238,Tryz.ntmps238;go_wp2;go_ret;exact⟨by rw[HF.out];rfl,Bd _ _⟩
 have h1':((np:Int)==0)=false:=by rw[beq_eq_false_iff_ne];omega
 have h2':¬(32:Int)<np:=by omega
 go_enter Tryz.func238,Tryz.ntmps238;go_wp2
 go_loopw [5,6,17] (fun _ _ iv wr=>∃(k:Nat),k<=np/\iv=.int .i64 k/\Aa (Below w.heap.size w wr)/\Aa (∀i P,i<k->ps[i]? = some P->Jq bs P/\P ∉ ps.take i)) (fun _ _ iv _=>np-(intOf iv).toNat)
 case atStart=>exact⟨0,by omega,rfl,⟨Bd _ _⟩,⟨fun i P h=>by omega⟩⟩
 case round=>
  obtain⟨k,hk,rfl,HBr,HD⟩:=hrel
  by_cases hkn:k<np
  .obtain⟨PP,hPk⟩:∃P,ps[k]? = some P:=⟨ps[k]'(by rw[<-HLP.out];exact hkn),List.getElem?_eq_getElem _⟩
   have HPl:=Ac (HP.out.below HBr.out);obtain⟨b,off,rfl,hb,hc⟩:=HPl.out.at_ (by omega)
   obtain⟨q,m,d,hx,hnx,hlim⟩:=hc k PP hPk;have hkn':(k:Int)<np:=by omega
   have hkc:¬cp<k:=by omega
   have HPk:=Ac hPk;have hba:Below wr.heap.size wr (wr.alloc (.cells #[.slice q m d] 37)):=By;have HBP:=Ac (Ae.made wr (.slice q m d));obtain⟨wb,hwb⟩:∃wb,wr.alloc (.cells #[.slice q m d] 37)=wb:=⟨_,rfl⟩
   rw[hwb]at hba HBP
   have HF:=Ac ((Fit.of hnx hlim).below hba);have HBwb:=Ac (Ab HBr.out hba);have HL:=Ac (HB0.out.below HBwb.out);have HT:=Ac ((HPl.out.take (Nat.le_of_lt hkn)).below hba);clear hc hnx hlim hPk hba
   by_cases hkp:Jq bs PP
   .have HKN:Aa (decide (Jq bs PP)=true):=⟨decide_eq_true hkp⟩
    obtain⟨CC,hCC⟩:∃X,decide (PP∈ps.take k)=X:=⟨_,rfl⟩
    have HC:=Ac hCC;have HKP:=Ac hkp;clear hCC hkp;go_wp2;refine Aj (by kernel_rfl) (by kernel_rfl)
     [some (.agg #[.slice q m d]),some (.slice pb nb cb),none,some (.bool false),some (.bool false),some (.slice (some ⟨b,off,none⟩) np cp),some (.int .i64 k),some (.slice (some ⟨b,off,none⟩) k cp),some (.agg #[.slice q m d]),none,some (.bool CC)]
     [false,false,true,false,false,false,false,false,false,true,false] rfl
     (fun w1 w2=>Below w1.heap.size w1 w2)
     (fun _ w'=>Below wb.heap.size wb w')
     (fun i v w'=>match i with
      | 2=>v=.bool true
      | 9=>v=.bool CC
      | _=>True)
     ?_ (Bd _ _).drew ?_ ?_
    .intro i v w1 w2 hf hb;split at hf
     .exact hf
     .exact hf
     .trivial
    .simp only[Bh,Nat.reduceAdd];refine⟨?_,?_,?_,?_,?_,?_,?_,?_,?_,?_,?_,trivial⟩
     all_goals intro D sp w' hD hW hdp hbx'
     case refine_1|refine_9=>
      have c0:=(HBP.out.below hbx' HBP.out.lt).cell
      with_reducible refine Ag ?_ ?_
      all_goals simp[Region.wanted,yielded,execOp,Act.eval,Act.put,go_sem,c0]
     case refine_3=>
      (with_reducible refine Ad (w1:=w') (f := 248) (args:=#[.agg #[.slice q m d],.slice pb nb cb]) ?_ ?_ ?_)
      .simp[Region.wanted,yielded,Act.put,go_sem]
      .simp[Act.eval,Act.put,go_sem]
      .refine(Nj (HF.out.below hbx') (HL.out.below hbx') he).mono ?_;rintro en w9 ⟨rfl,hb⟩;rw[HKN.out];exact⟨_,rfl,hb,rfl,Ab hbx' hb⟩
     case refine_4=>
      have k2:(sp 2)=.bool true:=(hdp 2 (mq (by kernel_rfl))).2
      with_reducible refine Ag ?_ ?_
      all_goals simp[Region.wanted,yielded,execOp,Act.eval,Act.put,go_sem,k2]
     case refine_8=>
      (with_reducible refine Ai (w1:=w') (v:=.slice (some ⟨b,off,none⟩) k cp) ?_ ?_ ?_)
      .simp[Region.wanted,yielded,Act.put,go_sem]
      .simp[execOp,Act.eval,Act.put,go_sem,hkc]
      .exact⟨rfl,rfl⟩
     case refine_10=>
      (with_reducible refine Ad (w1:=w') (f := 249) (args:=#[.slice (some ⟨b,off,none⟩) k cp,.agg #[.slice q m d]]) ?_ ?_ ?_)
      .simp[Region.wanted,yielded,Act.put,go_sem]
      .simp[Act.eval,Act.put,go_sem]
      .refine(Jk w' e _ k cp (ps.take k) _ PP (HT.out.below hbx') (HF.out.below hbx') (by omega)).mono ?_;rintro en w9 ⟨rfl,hb⟩;rw[HC.out];exact⟨_,rfl,hb,rfl,Ab hbx' hb⟩
     case refine_11=>
      have k9:(sp 9)=.bool CC:=(hdp 9 (mq (by kernel_rfl))).2
      with_reducible refine Ag ?_ ?_
      all_goals simp[Region.wanted,yielded,execOp,Act.eval,Act.put,go_sem,k9]
     all_goals ((with_reducible refine Ag ?_ ?_);all_goals first|(simp only[Region.wanted];done)|simp[Region.wanted,yielded,execOp,Act.eval,Act.put,go_sem])
    .intro sp w7 hsp hbx';have HBe:=Ac (Ab HBwb.out hbx');clear hsp hbx';simp only[Ak,Nat.reduceAdd];generalize sp 2=y2,sp 9=y9 at *
     go_simp
     cases CC with
     | true=>
      have HA:Aa (ANS=false):=⟨by
       rw[<-HANS.out];exact decide_eq_false fun h=>(h.2.2 k PP HPk.out).2 (of_decide_eq_true HC.out)⟩
      go_wp2;go_ret;exact⟨by rw[HA.out];rfl,HBe.out⟩
     | false=>
      have HD':Aa (∀i P,i<k+1->ps[i]? = some P->Jq bs P/\P ∉ ps.take i):=⟨fun i P hi hP=>by
       rcases(by omega:i<k ∨ i=k) with h|rfl
       .exact HD.out i P h hP
       .have:=HPk.out;rw[hP]at this
        cases this;exact⟨HKP.out,of_decide_eq_false HC.out⟩⟩
      go_wp2;go_roundw
      case rel=>exact⟨k+1,by omega,by go_num,HBe,HD'⟩
      case measure=>simp[intOf];omega
   .have HKN:Aa (decide (Jq bs PP)=false):=⟨decide_eq_false hkp⟩
    have HA:Aa (ANS=false):=⟨by
     rw[<-HANS.out];exact decide_eq_false fun h=>hkp (h.2.2 k PP HPk.out).1⟩
    clear hkp;go_wp2;refine Aj (by kernel_rfl) (by kernel_rfl)
     [some (.agg #[.slice q m d]),some (.slice pb nb cb),none,some (.bool true),some (.bool true),some (undef),some (undef),some (undef),some (undef),some (undef),some (.bool true)]
     [false,false,true,false,false,false,false,false,false,false,false] rfl
     (fun w1 w2=>Below w1.heap.size w1 w2)
     (fun _ w'=>Below wb.heap.size wb w')
     (fun i v w'=>match i with
      | 2=>v=.bool false
      | _=>True)
     ?_ (Bd _ _).drew ?_ ?_
    .intro i v w1 w2 hf hb;split at hf
     .exact hf
     .trivial
    .simp only[Bh,Nat.reduceAdd];refine⟨?_,?_,?_,?_,?_,?_,?_,?_,?_,?_,?_,trivial⟩
     all_goals intro D sp w' hD hW hdp hbx'
     case refine_1=>
      have c0:=(HBP.out.below hbx' HBP.out.lt).cell
      with_reducible refine Ag ?_ ?_
      all_goals simp[Region.wanted,yielded,execOp,Act.eval,Act.put,go_sem,c0]
     case refine_3=>
      (with_reducible refine Ad (w1:=w') (f := 248) (args:=#[.agg #[.slice q m d],.slice pb nb cb]) ?_ ?_ ?_)
      .simp[Region.wanted,yielded,Act.put,go_sem]
      .simp[Act.eval,Act.put,go_sem]
      .refine(Nj (HF.out.below hbx') (HL.out.below hbx') he).mono ?_;rintro en w9 ⟨rfl,hb⟩;rw[HKN.out];exact⟨_,rfl,hb,rfl,Ab hbx' hb⟩
     case refine_4=>
      have k2:(sp 2)=.bool false:=(hdp 2 (mq (by kernel_rfl))).2
      with_reducible refine Ag ?_ ?_
      all_goals simp[Region.wanted,yielded,execOp,Act.eval,Act.put,go_sem,k2]
     case refine_6|refine_7|refine_8|refine_9|refine_10=>
      (with_reducible refine Hl ?_ ?_)
      ·(simp[Region.wanted,yielded,Act.put,go_sem]<;>exact fun h=>by cases h)
      .exact⟨rfl,rfl⟩
     all_goals ((with_reducible refine Ag ?_ ?_);all_goals first|(simp only[Region.wanted];done)|simp[Region.wanted,yielded,execOp,Act.eval,Act.put,go_sem])
    .intro sp w7 hsp hbx';have HBe:=Ac (Ab HBwb.out hbx');clear hsp hbx';simp only[Ak,Nat.reduceAdd];generalize sp 2=y2 at *
     go_simp
     go_wp2;go_ret;exact⟨by rw[HA.out];rfl,HBe.out⟩
  .obtain rfl:k=np:=by omega
   have hkn':¬(k:Int)<k:=by omega
   have HF:Aa (ANS=true):=⟨by
    rw[<-HANS.out];exact decide_eq_true ⟨fun e=>h1 (by rw[HLP.out,e];rfl),by rw[<-HLP.out];omega,fun i P hP=>HD.out i P (by rw[HLP.out];exact(List.getElem?_eq_some_iff.1 hP).1) hP⟩⟩
   go_wp2;go_ret;exact⟨by rw[HF.out];rfl,HBr.out⟩
theorem bT {p n:Nat}(hp:2<=p)(h0:0<n):pw p n n=1 ↔ ¬n%p=0:=by
 rw[Ob hp h0]
 by_cases h:n%p=0
 .rw[if_pos h];refine⟨fun e=>?_,fun e=>absurd h e⟩;have:p*pw p (n/p) (n/p)=1:=e;have:=Nat.le_of_dvd (by decide) (show p ∣ 1 from ⟨_,this.symm⟩);omega
 .rw[if_neg h];exact⟨fun _=>h,fun _=>rfl⟩
structure Xz (w wr:World) (b5 b6 A Q e f:Nat) (pl:Option Addr) (nl cl:Nat) (po:Option Addr) (no co:Nat) (pq:Option Addr) (nq cq:Nat):Prop where
 box0:Ae wr w.heap.size (.slice pl nl cl)
 box5:Ae wr b5 (.slice po no co)
 box6:Ae wr b6 (.slice pq nq cq)
 less:Ah wr pl nl cl A
 one:Ah wr po no co 1
 q:Ah wr pq nq cq Q
 lim:A<Al e
 limq:Q<Al f
 ne5:w.heap.size<b5
 ne6:b5<b6
 bel:Below w.heap.size w wr
theorem Xz.later {w wr w1:World}{b5 b6 A Q e f:Nat}{pl:Option Addr}{nl cl:Nat}{po:Option Addr}{no co:Nat}{pq:Option Addr}{nq cq:Nat}(h:Xz w wr b5 b6 A Q e f pl nl cl po no co pq nq cq)(hb:Below wr.heap.size wr w1):Xz w w1 b5 b6 A Q e f pl nl cl po no co pq nq cq :=
 ⟨h.box0.below hb h.box0.lt,h.box5.below hb h.box5.lt,h.box6.below hb h.box6.lt,h.less.below hb,h.one.below hb,h.q.below hb,h.lim,h.limq,h.ne5,h.ne6,Ab h.bel hb⟩
theorem Xz.store {w wr:World}{b5 b6 A Q Q' e f f':Nat}{pl:Option Addr}{nl cl:Nat}{po:Option Addr}{no co:Nat}{pq:Option Addr}{nq cq:Nat}{p':Option Addr}{n' c':Nat}(h:Xz w wr b5 b6 A Q e f pl nl cl po no co pq nq cq)(hq:Ah wr p' n' c' Q')(hl:Q'<Al f') :
  Xz w (wr.setCell ⟨b6,0,none⟩ (.slice p' n' c')) b5 b6 A Q' e f' pl nl cl po no co p' n' c':=by
 have h1:=h.ne5;have h2:=h.ne6;exact⟨h.box0.other (by omega) _,h.box5.other (by omega) _,h.box6.set _,h.less.store h.box6 _,h.one.store h.box6 _,hq.store h.box6 _,h.lim,hl,h1,h2,h.bel.setCell (by simp;omega) _⟩
open Classical in
theorem Sn {w:World}{v:Value}{e A:Nat}{pp:Option Addr}{np cp:Nat}{ps:List Nat}(h:Fit e A v w)(hp:Ba w e pp np cp ps)(he:e<=100)(hA:0<A)(hps:∀p∈ps,2<=p)(hnp:np<=1000) :
  Calls Tryz.prog 239 #[.slice pp np cp,v] w fun en w'=>en=.returned (.bool (decide ((∀p∈ps,A%p=0)/\A+1<Qc A ps*Qc A ps)))/\Below w.heap.size w w':=by
 obtain⟨pl,nl,cl,rfl,h1,h2⟩:=Aw h;have HP:=Ac hp;have HLP:=Ac hp.len;have HPS:=Ac hps;obtain⟨ANS,hANS⟩:∃X,decide ((∀p∈ps,A%p=0)/\A+1<Qc A ps*Qc A ps)=X:=⟨_,rfl⟩
 have HANS:=Ac hANS;rw[hANS];have hbx:=Cw.mk1 w (.slice pl nl cl) 37;have HBX:=Ac hbx.bel;have HNB:=Ac (Ae.made w (.slice pl nl cl));have HL1:=Ac h1;have HL2:=Ac h2;clear h hp hps hANS hbx h1 h2;go_enter Tryz.func239,Tryz.ntmps239
 go_wp2_with fail
 refine(Cp 1 _ (by decide)).mono ?_;rintro en w1 ⟨po,no,co,rfl,hn1,hb1,_⟩;have HN1:=Ac hn1;have HB1:=Ac (Ab HBX.out hb1);have HNB1:=Ac (HNB.out.below hb1 HNB.out.lt);clear hb1 hn1;go_wp2
 go_loopw [8,9,14] (fun _ _ iv wr=>∃(k:Nat) (pq:Option Addr) (nq cq:Nat),k<=np/\iv=.int .i64 k/\Aa (Xz w wr w1.heap.size (w1.heap.size+1) A (Qc A (ps.take k)) e (e*k+1) pl nl cl po no co pq nq cq)/\Aa (∀p∈ps.take k,A%p=0)) (fun _ _ iv _=>np-(intOf iv).toNat)
 case atStart=>
  have hb5:Below w1.heap.size w1 ((w1.alloc (.cells #[.slice po no co] 37)).alloc (.cells #[.slice po no co] 37)):=((Bd _ _).alloc (Av _) _).alloc (by simp) _;refine⟨0,po,no,co,by omega,rfl,⟨HNB1.out.below hb5 HNB1.out.lt,(Ae.made w1 _).below ((Bd _ _).alloc (Av _) _) (by simp),?_,(HL1.out.below HB1.out).below hb5,HN1.out.below hb5,HN1.out.below hb5,HL2.out,by rw[Nat.mul_zero];exact(by decide:(1:Nat)<Al 1),HNB1.out.lt,by omega,Ab HB1.out hb5⟩,⟨fun p hp=>by simp at hp⟩⟩;have:=Ae.made (w1.alloc (.cells #[.slice po no co] 37)) (.slice po no co);simpa using this
 case round=>
  obtain⟨k,pq,nq,cq,hk,rfl,HST,HD⟩:=hrel
  by_cases hkn:k<np
  .obtain⟨P,hPk⟩:∃P,ps[k]? = some P:=⟨ps[k]'(by rw[<-HLP.out];exact hkn),List.getElem?_eq_getElem _⟩
   obtain⟨b,off,rfl,hb,hc⟩:=(HP.out.below HST.out.bel).at_ (by omega)
   obtain⟨q,m,d,hx,hnx,hlim⟩:=hc k P hPk;have hkn':(k:Int)<np:=by omega
   have HPk:=Ac hPk;have HP2:Aa (2<=P):=⟨HPS.out P (List.mem_of_getElem? hPk)⟩
   have hba:Below wr.heap.size wr (wr.alloc (.cells #[.slice q m d] 37)):=By;have HBP:=Ac (Ae.made wr (.slice q m d));obtain⟨wa,hwa⟩:∃wa,wr.alloc (.cells #[.slice q m d] 37)=wa:=⟨_,rfl⟩
   rw[hwa]at hba HBP
   have HSTa:=Ac (HST.out.later hba);have HF:=Ac ((Fit.of hnx hlim).below hba);have HHa:=Ac hba.size;have c0:=HSTa.out.box0.cell;have c8:=HBP.out.cell;clear hc hnx hlim hPk hba
   go_wp2_with fail
   refine(Zc (Fit.of HSTa.out.less HSTa.out.lim) HF.out (by omega) HP2.out hA).mono ?_;rintro en w2 ⟨_,rfl,⟨r,l,f,rfl,hr,hrl⟩,hb2⟩;have HST2:=Ac (HSTa.out.later hb2);have hbb:Below w2.heap.size w2 (w2.alloc (.cells #[.slice r l f] 37)):=By;have HBB:=Ac (Ae.made w2 (.slice r l f));obtain⟨wb,hwb⟩:∃wb,w2.alloc (.cells #[.slice r l f] 37)=wb:=⟨_,rfl⟩
   rw[hwb]at hbb HBB
   have HSTb:=Ac (HST2.out.later hbb);have HPW:=Ac ((Fit.of hr hrl).below hbb);have c9:=HBB.out.cell;have c5:=HSTb.out.box5.cell;clear hr hrl hb2 hbb c0 c8
   by_cases h0:A%P=0
   .have hK:Aa ((Bp (pw P A A) 1==0)=false):=⟨by
     rw[beq_eq_false_iff_ne];exact fun e=>((bT HP2.out hA).1 (Cg.1 e)) h0⟩
    obtain⟨K,hKe⟩:∃K,Bp (pw P A A) 1=K:=⟨_,rfl⟩
    rw[hKe]at hK
    have HKe:=Ac hKe;clear hKe;have hK':=hK.out;have HD':Aa (∀p∈ps.take (k+1),A%p=0):=⟨by
     have hi:k<ps.length:=(List.getElem?_eq_some_iff.1 HPk.out).1;have e:ps[k]=P:=by have:=HPk.out;rw[List.getElem?_eq_getElem hi]at this;exact Option.some.inj this
     rw[List.take_succ_eq_append_getElem hi,e];intro p hp;rcases List.mem_append.1 hp with hp|hp
     .exact HD.out p hp
     .simp at hp;rw[hp];exact h0⟩
    have HQ':Aa (Qc A (ps.take k)*pw P A A=Qc A (ps.take (k+1))):=⟨by
     have hi:k<ps.length:=(List.getElem?_eq_some_iff.1 HPk.out).1;have e:ps[k]=P:=by have:=HPk.out;rw[List.getElem?_eq_getElem hi]at this;exact Option.some.inj this
     rw[List.take_succ_eq_append_getElem hi,e,Ua]⟩
    have hek:e*k<=100000:=by
     have:=Nat.mul_le_mul he (show k<=1000 by omega);omega
    have HEK:=Ac hek;have HEK':Aa (e*k+1+e=e*(k+1)+1):=⟨by rw[Nat.mul_succ];omega⟩
    clear h0 hek
    go_wp2_with fail
    refine(Az HPW.out (Fit.of HSTb.out.one (by decide:(1:Nat)<Al 1)) (by omega) (by omega) HKe.out).mono ?_;rintro en w3 ⟨_,rfl,rfl,hb3⟩;have HST3:=Ac (HSTb.out.later hb3);have HPW3:=Ac (HPW.out.below hb3);have d9:=(HBB.out.below hb3 HBB.out.lt).cell;have d6:=HST3.out.box6.cell;clear hb3 c9 c5
    go_wp2_with fail
    refine(Ll (Fit.of HST3.out.q HST3.out.limq) HPW3.out (by have:=HEK.out;omega) (by omega)).mono ?_;rintro en w4 ⟨_,rfl,⟨r4,l4,f4,rfl,x1,x2⟩,hb4⟩;rw[HQ'.out]at x1 x2
    rw[HEK'.out]at x2
    have HST4:=Ac (HST3.out.later hb4);have HST5:=Ac (HST4.out.store x1 x2);have e6:=HST4.out.box6.cell;have f6:=HST4.out.box6.free;clear hb4 x1 x2 d9 d6;go_wp2;go_roundw
    case rel=>exact⟨k+1,r4,l4,f4,by omega,by go_num,HST5,HD'⟩
    case measure=>simp[intOf];omega
   .have hK:Aa (Bp (pw P A A) 1=0):=⟨Cg.2 ((bT HP2.out hA).2 h0)⟩
    have HF':Aa (ANS=false):=⟨by
     rw[<-HANS.out];exact decide_eq_false fun hh=>h0 (hh.1 P (List.mem_of_getElem? HPk.out))⟩
    clear h0
    go_wp2_with fail
    refine(Az HPW.out (Fit.of HSTb.out.one (by decide:(1:Nat)<Al 1)) (by omega) (by omega) hK.out).mono ?_;rintro en w3 ⟨_,rfl,rfl,hb3⟩;have HB3:=Ac (Ab HSTb.out.bel hb3);clear hb3;go_wp2;go_ret;exact⟨by rw[HF'.out];rfl,HB3.out⟩
  .obtain rfl:k=np:=by omega
   have hkn':¬(k:Int)<k:=by omega
   have hta:ps.take k=ps:=List.take_of_length_le (by rw[<-HLP.out];exact Av _);rw[hta]at HST HD
   obtain⟨Q,hQ⟩:∃Q,Qc A ps=Q:=⟨_,rfl⟩
   rw[hQ]at HST
   have HQ:=Ac hQ;have hek:e*k<=100000:=by
    have:=Nat.mul_le_mul he hnp;omega
   have HEK:Aa (e*k+1<=900000):=⟨by omega⟩
   have HEK2:Aa (e*k+1+(e*k+1)<=900000):=⟨by omega⟩
   obtain⟨K,hK⟩:∃K,Bp (Q*Q) (A+1)=K:=⟨_,rfl⟩
   obtain⟨DD,hDD⟩:∃DD,decide (0<K)=DD:=⟨_,rfl⟩
   have HK:=Ac hK;have HA:Aa (ANS=DD):=⟨by
    rw[<-HANS.out,<-hDD,<-hK,hQ];exact decide_eq_decide.2 ⟨fun h=>Jl.2 h.2,fun h=>⟨HD.out,Jl.1 h⟩⟩⟩
   have HDDh:=Ac hDD;clear hta hQ hek hK hDD;go_wp2;have hDD:=HDDh.out;refine Aj (by kernel_rfl) (by kernel_rfl)
    [some (.agg #[.slice pq nq cq]),some (.agg #[.slice pq nq cq]),none,some (.agg #[.slice pl nl cl]),some (.agg #[.slice po no co]),none,none,some (.bool DD),some (.bool DD)]
    [false,false,true,false,false,true,true,false,false] rfl
    (fun w1 w2=>Below w1.heap.size w1 w2)
    (fun _ w'=>Below wr.heap.size wr w')
    (fun i v w'=>match i with
     | 2=>Fit (e*k+1+(e*k+1)) (Q*Q) v w'
     | 5=>Fit (e+1+1) (A+1) v w'
     | 6=>v=.int .i64 K
     | _=>True)
    ?_ (Bd _ _).drew ?_ ?_
   .intro i v w1 w2 hf hb;split at hf
    .exact hf.below hb
    .exact hf.below hb
    .exact hf
    .trivial
   .simp only[Bh,Nat.reduceAdd];refine⟨?_,?_,?_,?_,?_,?_,?_,?_,?_,trivial⟩
    all_goals intro D sp w' hD hW hdp hbx'
    case refine_1|refine_2=>
     have c6:=(HST.out.later hbx').box6.cell
     with_reducible refine Ag ?_ ?_
     all_goals simp[Region.wanted,yielded,execOp,Act.eval,Act.put,go_sem,c6]
    case refine_3=>
     (with_reducible refine Ad (w1:=w') (f := 95) (args:=#[.agg #[.slice pq nq cq],.agg #[.slice pq nq cq]]) ?_ ?_ ?_)
     .simp only[Region.wanted]
     .simp[Act.eval,Act.put,go_sem]
     .refine(Ll (Fit.of (HST.out.later hbx').q HST.out.limq) (Fit.of (HST.out.later hbx').q HST.out.limq) HEK.out HEK.out).mono ?_;rintro en w5 ⟨u,rfl,hu,hb⟩;exact⟨u,rfl,hb,hu,Ab hbx' hb⟩
    case refine_4=>
     have c0:=(HST.out.later hbx').box0.cell
     with_reducible refine Ag ?_ ?_
     all_goals simp[Region.wanted,yielded,execOp,Act.eval,Act.put,go_sem,c0]
    case refine_5=>
     have c5:=(HST.out.later hbx').box5.cell
     with_reducible refine Ag ?_ ?_
     all_goals simp[Region.wanted,yielded,execOp,Act.eval,Act.put,go_sem,c5]
    case refine_6=>
     (with_reducible refine Ad (w1:=w') (f := 94) (args:=#[.agg #[.slice pl nl cl],.agg #[.slice po no co]]) ?_ ?_ ?_)
     .simp only[Region.wanted]
     .simp[Act.eval,Act.put,go_sem]
     .refine(Ma (Fit.of (HST.out.later hbx').less HST.out.lim) (Fit.of (HST.out.later hbx').one (by decide:(1:Nat)<Al 1)) (by omega) (by omega)).mono ?_;rintro en w5 ⟨u,rfl,hu,hb⟩;exact⟨u,rfl,hb,hu,Ab hbx' hb⟩
    case refine_7=>
     have k2:Fit (e*k+1+(e*k+1)) (Q*Q) (sp 2) w':=(hdp 2 (mq (by kernel_rfl))).2;have k5:Fit (e+1+1) (A+1) (sp 5) w':=(hdp 5 (mq (by kernel_rfl))).2
     (with_reducible refine Ad (w1:=w') (f := 24) (args:=#[sp 2,sp 5]) ?_ ?_ ?_)
     .simp only[Region.wanted]
     .simp[Act.eval,Act.put,go_sem]
     .refine(Az k2 k5 HEK2.out (by omega) HK.out).mono ?_;rintro en w5 ⟨u,rfl,hu,hb⟩;exact⟨u,rfl,hb,hu,Ab hbx' hb⟩
    case refine_8=>
     have k6:(sp 6)=.int .i64 K:=(hdp 6 (mq (by kernel_rfl))).2
     with_reducible refine Ag ?_ ?_
     all_goals simp[Region.wanted,yielded,execOp,Act.eval,Act.put,go_sem,k6,hDD]
    all_goals ((with_reducible refine Ag ?_ ?_);all_goals first|(simp only[Region.wanted];done)|simp[Region.wanted,yielded,execOp,Act.eval,Act.put,go_sem])
   .intro sp w7 hsp hbx';have HBe:=Ac (Ab HST.out.bel hbx');clear hsp hbx' hDD;simp only[Ak,Nat.reduceAdd];generalize sp 2=y2,sp 5=y5,sp 6=y6 at *
    go_simp
    go_wp2;go_ret;exact⟨by rw[HA.out];rfl,HBe.out⟩
theorem Ka {N Bs:Nat}{ps bs:List Nat}(hN:2<=N):Fj N Bs ps bs ↔ Hn bs ps/\((∀p∈ps,(N-1)%p=0)/\N-1+1<Qc (N-1) ps*Qc (N-1) ps)/\(Bs^(N-1)%N=1/\∀p∈ps,Nat.gcd ((Bs^((N-1)/p)%N+N-1)%N) N=1):=by
 rw[show N-1+1=N by omega];constructor
 .intro h;have hm:∀p∈ps,∃i,dV N Bs bs ps i p:=fun p hp=>by
   obtain⟨i,hi⟩:=List.getElem?_of_mem hp;exact⟨i,h.each i p hi⟩
  refine⟨⟨h.some,h.few,fun i p hp=>?_⟩,⟨fun p hp=>?_,h.great⟩,h.one,fun p hp=>?_⟩
  .have:=h.each i p hp;refine⟨?_,this.1⟩;rcases this.2.1 with k|k
   .exact .inl k
   .exact .inr ⟨this.2.2.1,k⟩
  .obtain⟨i,hi⟩:=hm p hp;exact hi.2.2.2.1
  .obtain⟨i,hi⟩:=hm p hp;exact hi.2.2.2.2
 .rintro⟨h1,h2,h3⟩;refine⟨hN,h1.1,h1.2.1,fun i p hp=>?_,h3.1,h2.2⟩;have hk:=h1.2.2 i p hp;have hm:=List.mem_of_getElem? hp;refine⟨hk.2,?_,?_,h2.1 p hm,h3.2 p hm⟩
  .rcases hk.1 with k|k
   .exact .inl k
   .exact .inr k.2
  .rcases hk.1 with k|k
   .exact k.1
   .exact k.1
theorem Re {bs ps:List Nat}(h:Hn bs ps):∀p∈ps,2<=p:=fun p hp=>by
 obtain⟨i,hi⟩:=List.getElem?_of_mem hp;rcases(h.2.2 i p hi).1 with k|k
 .exact k.1
 .exact k.1
open Classical in
theorem fB (e:Nat)(he:e<=100):∀(w:World) (N B:Nat) (p0:Option Addr) (n0 c0:Nat) (p1:Option Addr) (n1 c1:Nat) (pp:Option Addr) (np cp:Nat) (ps:List Nat) (pb:Option Addr) (nb cb:Nat) (bs:List Nat),
  Ah w p0 n0 c0 N->N<Al e->Ah w p1 n1 c1 B->B<Al e->Ba w e pp np cp ps->Ba w e pb nb cb bs->np<=1000->nb<=1000 ->
  Calls Tryz.prog 218 #[.agg #[.slice p0 n0 c0,.slice p1 n1 c1,.slice pp np cp],.slice pb nb cb] w fun en w'=>en=.returned (.bool (decide (Fj N B ps bs)))/\Below w.heap.size w w':=by
 intro w N Bs p0 n0 c0 p1 n1 c1 pp np cp ps pb nb cb bs hN hNl hB hBl hp hb hnp hnb;have hbx:Below w.heap.size w (w.alloc (.cells #[.slice p0 n0 c0,.slice p1 n1 c1,.slice pp np cp] 189)):=By;have HBX3:=Ac (My.made 189 w (.slice p0 n0 c0) (.slice p1 n1 c1) (.slice pp np cp));obtain⟨wa,hwa⟩:∃wa,w.alloc (.cells #[.slice p0 n0 c0,.slice p1 n1 c1,.slice pp np cp] 189)=wa:=⟨_,rfl⟩
 rw[hwa]at hbx HBX3
 have HNF:=Ac ((Fit.of hN hNl).below hbx);have HBF:=Ac ((Fit.of hB hBl).below hbx);have HP:=Ac (hp.below hbx);have HBe:=Ac (hb.below hbx);have HLP:=Ac hp.len;have HX:=Ac hbx;obtain⟨ANS,hANS⟩:∃X,decide (Fj N Bs ps bs)=X:=⟨_,rfl⟩
 have HANS:=Ac hANS;rw[hANS];have hca:=HBX3.out.cells.1;clear hANS hN hNl hB hBl hp hb hbx;go_enter Tryz.func218,Tryz.ntmps218
 go_wp2_with fail
 refine(Fx HNF.out (by omega)).mono ?_;rintro en w1 ⟨hb1,⟨hlow,rfl⟩|⟨hN2,r,rfl,hR,_⟩⟩
 .have HF:Aa (ANS=false):=⟨by rw[<-HANS.out];exact decide_eq_false fun h=>by have:=h.two;omega⟩
  have HBe1:=Ac (Ab HX.out hb1);clear hb1 hca;go_wp2;go_ret;exact⟨by rw[HF.out];rfl,HBe1.out⟩
 have HR:=Ac hR;have HB1:=Ac hb1;have HX1:=Ac (HBX3.out.below hb1 HBX3.out.lt);clear hb1 hR hca;go_wp2;refine Am (by kernel_rfl) (by kernel_rfl)
  [some (.pointer (some ⟨w.heap.size,0,none⟩)),some (.agg #[.slice p0 n0 c0]),none,none,none,none,some (.bool true),none,none,some (.bool true)]
  [false,false,true,true,true,true,false,true,true,false] rfl
  (fun w2 w3=>Ap w1.heap.size w2 w3)
  (fun D sp w'=>Below w1.heap.size w1 w'/\(D 7=true->Im (sp 7) w1.heap.size (N-1) (D 8) w'))
  (fun i v w'=>match i with
   | 2=>Fit 1 1 v w'
   | 3=>Eu (N-1) v w'
   | 4=>Eu (N-1) v w'
   | 5=>Cn (N-1) v w'
   | _=>True)
  ?_ ⟨(Bd _ _).drew,(fun a=>by cases a)⟩ ?_ ?_
 .intro i v w2 w3 hf hb;split at hf
  .exact Fit.keep hf hb
  .exact Eu.keep hf hb
  .exact Eu.keep hf hb
  .exact Cn.keep hf hb
  .trivial
 .simp only[Bg,Nat.reduceAdd];refine⟨?_,?_,?_,?_,?_,?_,?_,?_,?_,?_,trivial⟩
  case refine_2=>
   intro D sp w' hD hW hdp hg;have c0:=(HX1.out.below hg.1 HX1.out.lt).cells.1;simp[asked,Region.wanted,Oper.gives,execOp,Act.eval,Act.put,go_sem,c0]
  case refine_3=>
   intro D sp w' hD hW hdp hg
   (with_reducible refine Ad (w1:=w') (f := 17) (args:=#[.int .u64 1]) ?_ ?_ ?_)
   .simp only[Region.wanted]
   .simp[Act.eval,Act.put,go_sem]
   .refine(Ex w').mono ?_;rintro en w5 ⟨u,rfl,hu,hb⟩;exact⟨u,rfl,Ap.of hb hg.1.size,hu,Ab hg.1 hb,by simpa [upd]using fun a=>(hg.2 a).later hb⟩
  case refine_4=>
   intro D sp w' hD hW hdp hg;have k2:Fit 1 1 (sp 2) w':=(hdp 2 (mq (by kernel_rfl))).2
   (with_reducible refine Ad (w1:=w') (f := 113) (args:=#[.agg #[.slice p0 n0 c0],sp 2]) ?_ ?_ ?_)
   .simp only[Region.wanted]
   .simp[Act.eval,Act.put,go_sem]
   .refine(Qx ((HNF.out.below HB1.out).below hg.1) k2 (by omega) (by omega) (by omega)).mono ?_;rintro en w5 ⟨u,rfl,hu,hb⟩;exact⟨u,rfl,Ap.of hb hg.1.size,hu,Ab hg.1 hb,by simpa [upd]using fun a=>(hg.2 a).later hb⟩
  case refine_5=>
   intro D sp w' hD hW hdp hg;have k3:Eu (N-1) (sp 3) w':=(hdp 3 (mq (by kernel_rfl))).2
   (with_reducible refine Ai (w1:=w') (v:=sp 3) ?_ ?_ ?_)
   .simp only[Region.wanted]
   .simp[execOp,Act.eval,Act.put,go_sem]
   .exact⟨Ap.same _ _,k3,hg.1,by simpa [upd]using hg.2⟩
  case refine_6=>
   intro D sp w' hD hW hdp hg;have hx:∃p n c,sp 4=.tuple #[.agg #[.slice p n c],.bool true]/\Ah w' p n c (N-1):=(hdp 4 (mq (by kernel_rfl))).2
   (with_reducible refine Bc hx fun p hx1=>Bc hx1 fun n hx2=>Bc hx2 fun c hx3=>?_)
   have h1:=hx3.1
   (with_reducible refine Ai (w1:=w') (v:=.agg #[.slice p n c]) ?_ ?_ ?_)
   .simp only[Region.wanted]
   .simp[execOp,Act.eval,Act.put,go_sem,h1]
   .exact⟨Ap.same _ _,⟨p,n,c,rfl,hx3.2⟩,hg.1,by simpa [upd]using hg.2⟩
  case refine_7=>
   intro D sp w' hD hW hdp hg;have hx:∃p n c,sp 4=.tuple #[.agg #[.slice p n c],.bool true]/\Ah w' p n c (N-1):=(hdp 4 (mq (by kernel_rfl))).2
   (with_reducible refine Bc hx fun p hx1=>Bc hx1 fun n hx2=>Bc hx2 fun c hx3=>?_)
   have h1:=hx3.1;simp[asked,Region.wanted,Oper.gives,execOp,Act.eval,Act.put,go_sem,h1]
  case refine_8=>
   intro D sp w' hD hW hdp hg;have h8:D 8=false:=hW 8 (mq (by kernel_rfl))
   (with_reducible refine Ai (w1:=w'.alloc (.cells #[.slice none 0 0] 37)) (v:=.pointer (some ⟨w'.heap.size,0,none⟩)) ?_ ?_ ?_)
   .simp only[Region.wanted]
   .simp[execOp,go_sem]
   .have hb:Below w'.heap.size w' (w'.alloc (.cells #[.slice none 0 0] 37)):=By;refine⟨Ap.of hb hg.1.size,trivial,Ab hg.1 hb,fun _=>?_⟩;have:=Im.made w' hg.1.size (N-1);simpa [upd,h8]using this
  case refine_9=>
   intro D sp w' hD hW hdp hg;have hx:∃p n c,sp 5=.agg #[.slice p n c]/\Ah w' p n c (N-1):=(hdp 5 (mq (by kernel_rfl))).2;have hy:∃b,sp 7=.pointer (some ⟨b,0,none⟩)/\w1.heap.size<=b/\∃p n c,Ae w' b (.slice p n c)/\(D 8=true->Ah w' p n c (N-1)):=hg.2 (hdp 7 (mq (by kernel_rfl))).1
   (with_reducible refine Bc hx fun p hx1=>Bc hx1 fun n hx2=>Bc hx2 fun c hx3=>Bc hy fun bb hy1=>?_)
   have hlo:=hy1.2.1
   (with_reducible refine Bc hy1.2.2 fun p2 hy2=>Bc hy2 fun n2 hy3=>Bc hy3 fun c2 hy4=>?_)
   have g1:=hx3.1;have g2:=hy1.1;have hbx0:=hy4.1;have g3:=hbx0.cell;have g4:=hbx0.free
   (with_reducible refine Aq (w1:=w'.setCell ⟨bb,0,none⟩ (.slice p n c)) ?_ ?_ ?_)
   .simp only[Region.wanted]
   .simp[execOp,Act.eval,Act.put,go_sem,g1,g2,g3,g4]
   .exact⟨Ap.store hbx0 hlo _,trivial,hg.1.setCell hlo _,fun _=>⟨bb,by simpa [upd]using g2,hlo,p,n,c,hbx0.set _,fun _=>hx3.2.store hbx0 _⟩⟩
  all_goals
   intro D sp w' hD hW hdp hg;simp[asked,Region.wanted,Oper.gives,execOp,Act.eval,Act.put,go_sem]
 .intro sp w2 hsp hg;obtain⟨b7,e7,lo7,p7,n7,c7,x7,v7⟩:=hg.2 rfl;replace v7:=v7 rfl;have HB2:=Ac (Ab HB1.out hg.1);have HX2:=Ac (HX1.out.below hg.1 HX1.out.lt);have HR2:=Ac (HR.out.below hg.1);have HX7:=Ac x7;have HL7:=Ac (Fit.of v7 (Nat.lt_of_le_of_lt (Nat.sub_le N 1) HNF.out.lim));clear hsp hg x7 v7;simp only[Ak,Nat.reduceAdd];rw[e7];clear e7;generalize sp 2=y2,sp 3=y3,sp 4=y4,sp 5=y5,sp 8=y8 at *
  go_simp
  have d2:=HX2.out.cells.2.2;obtain⟨S1,hS1⟩:∃X,decide (Hn bs ps)=X:=⟨_,rfl⟩
  have HS1:=Ac hS1;clear hS1
  go_wp2_with fail
  refine(Ps (HP.out.below HB2.out) (HBe.out.below HB2.out) (by omega)).mono ?_;rintro en w3 ⟨rfl,hb3⟩;rw[HS1.out];have HX3:=Ac (HX2.out.below hb3 HX2.out.lt);have HB3:=Ac (Ab HB2.out hb3);have HR3:=Ac (HR2.out.below hb3);have HX73:=Ac (HX7.out.below hb3 HX7.out.lt);have HL73:=Ac (HL7.out.below hb3);clear hb3 d2
  cases S1 with
  | false=>
   have HF:Aa (ANS=false):=⟨by rw[<-HANS.out];exact decide_eq_false fun h=>(of_decide_eq_false HS1.out) ((Ka hN2).1 h).1⟩
   have HE:=Ac (Ab HX.out HB3.out);go_wp2;go_ret;exact⟨by rw[HF.out];rfl,HE.out⟩
  | true=>
   have HK:Aa (Hn bs ps):=⟨of_decide_eq_true HS1.out⟩
   obtain⟨S2,hS2⟩:∃X,decide ((∀p∈ps,(N-1)%p=0)/\N-1+1<Qc (N-1) ps*Qc (N-1) ps)=X:=⟨_,rfl⟩
   have HS2:=Ac hS2;clear hS2;have d2:=HX3.out.cells.2.2;have d7:=HX73.out.cell
   go_wp2_with fail
   refine(Sn HL73.out (HP.out.below HB3.out) he (by omega) (Re HK.out) hnp).mono ?_;rintro en w4 ⟨rfl,hb4⟩;rw[HS2.out];have HX4:=Ac (HX3.out.below hb4 HX3.out.lt);have HB4:=Ac (Ab HB3.out hb4);have HR4:=Ac (HR3.out.below hb4);have HX74:=Ac (HX73.out.below hb4 HX73.out.lt);have HL74:=Ac (HL73.out.below hb4);clear hb4 d2 d7
   cases S2 with
   | false=>
    have HF:Aa (ANS=false):=⟨by rw[<-HANS.out];exact decide_eq_false fun h=>(of_decide_eq_false HS2.out) ((Ka hN2).1 h).2.1⟩
    have HE:=Ac (Ab HX.out HB4.out);go_wp2;go_ret;exact⟨by rw[HF.out];rfl,HE.out⟩
   | true=>
    obtain⟨S3,hS3⟩:∃X,decide (Bs^(N-1)%N=1/\∀p∈ps,Nat.gcd ((Bs^((N-1)/p)%N+N-1)%N) N=1)=X:=⟨_,rfl⟩
    have HS3:=Ac hS3;have HF:Aa (ANS=S3):=⟨by
     rw[<-HANS.out,<-hS3];exact decide_eq_decide.2 ⟨fun h=>((Ka hN2).1 h).2.2,fun h=>(Ka hN2).2 ⟨HK.out,of_decide_eq_true HS2.out,h⟩⟩⟩
    clear hS3;have d1:=HX4.out.cells.2.1;have d2:=HX4.out.cells.2.2;have d7:=HX74.out.cell
    go_wp2_with fail
    refine(Ub HR4.out (HBF.out.below HB4.out) HL74.out (HP.out.below HB4.out) he (Re HK.out)).mono ?_;rintro en w5 ⟨rfl,hb5⟩;rw[HS3.out];have HE:=Ac (Ab HX.out (Ab HB4.out hb5));clear hb5 d1 d2 d7;go_wp2;go_ret;exact⟨by rw[HF.out];rfl,HE.out⟩
theorem Ba.tight {w:World}{e f:Nat}{p:Option Addr}{n c:Nat}{Ns:List Nat}(h:Ba w e p n c Ns)(hl:∀N∈Ns,N<Al f):Ba w f p n c Ns:=by
 refine⟨h.len,h.cap,h.max,h.nil,fun h0=>?_⟩;obtain⟨b,off,h1,h2,h3⟩:=h.at_ h0
 exact⟨b,off,h1,h2,fun i N hN=>let ⟨q,m,d,k1,k2,_⟩:=h3 i N hN;⟨q,m,d,k1,k2,hl N (List.mem_of_getElem? hN)⟩⟩
theorem Ba.wide {w:World}{e f:Nat}{p:Option Addr}{n c:Nat}{Ns:List Nat}(h:Ba w e p n c Ns)(hf:e<=f):Ba w f p n c Ns:=by
 refine⟨h.len,h.cap,h.max,h.nil,fun h0=>?_⟩;obtain⟨b,off,h1,h2,h3⟩:=h.at_ h0
 exact⟨b,off,h1,h2,fun i N hN=>let ⟨q,m,d,k1,k2,k3⟩:=h3 i N hN;⟨q,m,d,k1,k2,Dk k3 (Bz hf)⟩⟩
theorem Ds.wide {w:World}{e f:Nat}{p:Option Addr}{n c:Nat}{l:List Bn}(h:Ds w e p n c l)(hf:e<=f):Ds w f p n c l:=by
 refine⟨h.len,h.cap,h.max,h.nil,fun h0=>?_⟩;obtain⟨b,off,h1,h2,h3⟩:=h.at_ h0
 refine⟨b,off,h1,h2,fun i s hs=>?_⟩;obtain⟨q0,m0,d0,q1,m1,d1,q2,m2,d2,k0,k1,k2,k3,k4,k5,k6,k7⟩:=h3 i s hs;exact⟨q0,m0,d0,q1,m1,d1,q2,m2,d2,k0,k1,k2,k3,Dk k4 (Bz hf),k5,Dk k6 (Bz hf),k7.wide hf⟩
theorem Xa (w:World)(e:Nat)(l:List Bn)(he:e<=900000):Yp 217 #[] w e l (fun s=>@decide (Dq s) (Classical.propDecidable _)):=by
 refine⟨fun W M u _ _ hu=>?_⟩;rw[Array.append_empty];exact Wz hu he
theorem Zo (n:Nat)(h:n<=1000000)(w:World):(Instr.makeSlice 62 (.int .i64 0) (.int .i64 (n:Nat))).run Tryz.prog w =
  .ok (.slice (some ⟨w.heap.size,0,none⟩) 0 n) (w.alloc (.cells (madeCells #[.slice none 0 0] n) 37)):=by
 obtain⟨i,hi,hz,hs,hb⟩:=info_parts Tryz.info_Nat;have:=run_make (P:=Tryz.prog) w 62 37 i (.agg #[.slice none 0 0]) Tryz.underlying62 hi hz .i64 .i64 0 n (by omega) (by omega) (by rw[hb];omega) (by omega);simp only[Int.toNat_natCast,hs,Nat.mul_one]at this;rw[this];rfl
theorem Ej.made (w:World)(B n:Nat)(hn:n<=1000000)(hB:B<=w.heap.size)(bad:Nat->Prop):Ej Ah 37 B bad (w.alloc (.cells (madeCells #[.slice Option.none 0 0] n) 37)) (.slice (some ⟨w.heap.size,0,Option.none⟩) 0 n) [] :=
 ⟨[],World.ownsRow_made w _ n hB (by simp only[maxLen];omega) (by rw[size_madeCells,Nat.mul_one]),rfl,fun i N h=>by simp at h⟩
theorem Pn {l:List Bn}{k:Nat}{s:Bn}(h:l[k]? = some s):Bv [] (l.take (k+1)) ↔ Bv [] (l.take k)/\Fj s.n s.base s.ps ((l.take k).map (·.n)):=by
 rw[Ju h,Po,List.nil_append]
theorem aH {l:List Bn}(k:Nat)(h:Bv [] l):Bv [] (l.take k):=by
 rw[<-List.take_append_drop k l]at h
 exact((Lv _ _ _).1 h).1
open Classical in
theorem fI (f:Nat)(hf:f<=100):∀(w:World) (p:Option Addr) (n c:Nat) (l:List Bn),Ds w 200 p n c l->n<=60->(∀s∈l,s.ps.length<=1000)->(∀s∈l,¬Dq s->s.n<Al f/\s.base<Al f/\∀q∈s.ps,q<Al f) ->
  Calls Tryz.prog 181 #[.slice p n c] w fun en w'=>en=.returned (.int .i64 (if ∃s∈l,Dq s then 4 else if Bv [] l then 0 else 8))/\Below w.heap.size w w':=by
 intro w p n c l h hn hps hlim;have HH:=Ac h;have HLN:=Ac h.len;have HPS:=Ac hps;have HLIM:=Ac hlim;obtain⟨ANS,hANS⟩:∃X:Int,(if ∃s∈l,Dq s then 4 else if Bv [] l then 0 else 8)=X:=⟨_,rfl⟩
 have HANS:=Ac hANS;rw[hANS];clear h hps hlim hANS;have hn64:¬(64:Int)<n:=by omega
 obtain⟨S0,hS0⟩:∃X,l.any (fun s=>decide (Dq s))=X:=⟨_,rfl⟩
 have HS0:=Ac hS0;clear hS0;go_enter Tryz.func181,Tryz.ntmps181
 go_wp2_with fail
 refine(Ov w 200 p n c l _ _ (enters_of Tryz.func217 (by kernel_rfl) rfl) (fun s=>decide (Dq s)) HH.out (Xa _ 200 l (by decide))).mono ?_;rintro en w1 ⟨rfl,hb1⟩;rw[HS0.out];have HB1:=Ac hb1;clear hb1
 cases S0 with
 | true=>
  have HF:Aa (ANS=4):=⟨by
   rw[<-HANS.out];obtain⟨s,hs,ht⟩:=List.any_eq_true.1 HS0.out;exact if_pos ⟨s,hs,of_decide_eq_true ht⟩⟩
  go_wp2;go_ret;exact⟨by rw[HF.out];rfl,HB1.out⟩
 | false=>
  have hnl:∀s∈l,¬Dq s:=fun s hs ht=>by
   have:=List.any_eq_false.1 HS0.out s hs;exact this (decide_eq_true ht)
  have HNL:=Ac hnl;have HANS2:Aa ((if Bv [] l then 0 else 8:Int)=ANS):=⟨by
   rw[<-HANS.out];exact(if_neg (fun h=>by obtain⟨s,hs,ht⟩:=h;exact hnl s hs ht)).symm⟩
  have HLT:Aa (∀s∈l,s.n<Al f/\s.base<Al f/\∀q∈s.ps,q<Al f):=⟨fun s hs=>HLIM.out s hs (hnl s hs)⟩
  clear hnl;have hmk:=fun wx=>Zo n (by omega) wx
  have HOV:=Ac (Ej.made w1 w.heap.size n (by omega) HB1.out.size (fun g=>w.heap.size<=g));have hbm:Below w1.heap.size w1 (w1.alloc (.cells (madeCells #[.slice none 0 0] n) 37)):=By;have HBM:=Ac (Ab HB1.out hbm);clear hbm;go_wp2
  go_loopw [3,5,18] (fun vv _ iv wr=>∃k:Nat,k<=n/\iv=.int .i64 k/\Aa (Below w.heap.size w wr)/\Aa (Ej Ah 37 w.heap.size (fun g=>w.heap.size<=g) wr vv ((l.take k).map (·.n)))/\Aa (Bv [] (l.take k))) (fun _ _ iv _=>n-(intOf iv).toNat)
  case atStart=>exact⟨0,by omega,rfl,HBM,HOV,⟨trivial⟩⟩
  case round=>
   obtain⟨k,hk,rfl,HB,HO,HC⟩:=hrel
   by_cases hkn:k<n
   .obtain⟨S,hSk⟩:∃s,l[k]? = some s:=⟨l[k]'(by rw[<-HLN.out];exact hkn),List.getElem?_eq_getElem _⟩
    have HSk:=Ac hSk;have HM:=Ac (List.mem_of_getElem? hSk);obtain⟨b,off,rfl,hb,hc⟩:=HH.out.at_ (by omega)
    obtain⟨q0,m0,d0,q1,m1,d1,q2,m2,d2,y0,y1,y2,y3,y4,y5,y6,y7⟩:=hc k S hSk;have HNA:=Ac y3;have HNB:=Ac y5;have HNP:=Ac (y7.tight (HLT.out S HM.out).2.2);have hcl:∀o,wr.cell? ⟨b,o,none⟩=w.cell? ⟨b,o,none⟩:=fun o=>HB.out.cell (p:=⟨b,o,none⟩) hb
    have x0:wr.cell? ⟨b,off+k*3,none⟩=some (.slice q0 m0 d0):=by rw[hcl];exact y0
    have x1:wr.cell? ⟨b,off+k*3+1,none⟩=some (.slice q1 m1 d1):=by rw[hcl];exact y1
    have x2:wr.cell? ⟨b,off+k*3+2,none⟩=some (.slice q2 m2 d2):=by rw[hcl];exact y2
    have hkn':(k:Int)<n:=by omega
    have hbx:Below wr.heap.size wr (wr.alloc (.cells #[.slice q0 m0 d0,.slice q1 m1 d1,.slice q2 m2 d2] 189)):=By;have HBX3:=Ac (My.made 189 wr (.slice q0 m0 d0) (.slice q1 m1 d1) (.slice q2 m2 d2));obtain⟨wa,hwa⟩:∃wa,wr.alloc (.cells #[.slice q0 m0 d0,.slice q1 m1 d1,.slice q2 m2 d2] 189)=wa:=⟨_,rfl⟩
    rw[hwa]at hbx HBX3
    have HBa:=Ac (Ab HB.out hbx);have HOa:=Ac (HO.out.below hbx);have hmem:∀N∈(l.take k).map (·.n),N<Al f:=fun N hN=>by
     obtain⟨s,hs,rfl⟩:=List.mem_map.1 hN;exact(HLT.out s (List.mem_of_mem_take hs)).1
    have HL60:Aa (((l.take k).map (·.n)).length<=1000):=⟨by rw[List.length_map,List.length_take];omega⟩
    obtain⟨Ks,hKs⟩:∃Ks,(l.take k).map (·.n)=Ks:=⟨_,rfl⟩
    have HKs:=Ac hKs;rw[hKs]at hmem HL60 HOa HO
    clear hKs;obtain⟨nk,hnk⟩:∃nk,Ks.length=nk:=⟨_,rfl⟩
    obtain⟨p1,c1,rfl,hp1⟩:=HOa.out.plist hmem;have HNk:=Ac hnk;rw[hnk]at hp1 HL60 HOa HO
    rw[hnk];clear hnk;have HP1:=Ac hp1;have z0:=HBX3.out.cells.1;have z1:=HBX3.out.cells.2.1;have z2:=HBX3.out.cells.2.2;clear hc hcl y0 y1 y2 y3 y4 y5 y6 y7 hbx hmem hp1 hSk;obtain⟨D,hD⟩:∃X,decide (Fj S.n S.base S.ps Ks)=X:=⟨_,rfl⟩
    have HD:=Ac hD;clear hD
    go_wp2_with fail
    refine(fB f hf wa S.n S.base q0 m0 d0 q1 m1 d1 q2 m2 d2 S.ps _ _ _ _ (HNA.out.below HBa.out) (HLT.out S HM.out).1 (HNB.out.below HBa.out) (HLT.out S HM.out).2.1 (HNP.out.below HBa.out) HP1.out (by rw[HNP.out.len];exact HPS.out S HM.out) HL60.out).mono ?_;rintro en w3 ⟨rfl,hb3⟩;rw[HD.out];have HB3:=Ac (Ab HBa.out hb3);have HO3:=Ac (HOa.out.below hb3);have HX3:=Ac (HBX3.out.below hb3 HBX3.out.lt);clear hb3 x0 x1 x2 z0 z1 z2
    cases D with
    | false=>
     have HF:Aa (ANS=8):=⟨by
      rw[<-HANS2.out,if_neg];intro hh;exact of_decide_eq_false HD.out (by rw[<-HKs.out];exact((Pn HSk.out).1 (aH (k+1) hh)).2)⟩
     go_wp2;go_ret;exact⟨by rw[HF.out];rfl,HB3.out⟩
    | true=>
     have HC':Aa (Bv [] (l.take (k+1))):=⟨(Pn HSk.out).2 ⟨HC.out,by rw[HKs.out];exact of_decide_eq_true HD.out⟩⟩
     have HTk:Aa ((l.take (k+1)).map (·.n)=Ks++[S.n]):=⟨by rw[Ju HSk.out,List.map_append,HKs.out];rfl⟩
     have hb4:Below w3.heap.size w3 (w3.alloc (.cells #[.slice q0 m0 d0] 37)):=By;have hx4:(w3.alloc (.cells #[.slice q0 m0 d0] 37)).cell? ⟨w3.heap.size,0,none⟩=some (.slice q0 m0 d0):=(Ae.made w3 (.slice q0 m0 d0)).cell;obtain⟨w4,hw4⟩:∃w4,w3.alloc (.cells #[.slice q0 m0 d0] 37)=w4:=⟨_,rfl⟩
     rw[hw4]at hb4 hx4
     have hB4:=Ab HB3.out hb4;have hfirm:Ih (fun w=>Ah w q0 m0 d0 S.n) (fun g=>w.heap.size<=g) w4:=Eb.firm (HNA.out.below hB4) fun q hq hle=>by
      have:=Eb.lt HNA.out q hq;omega
     obtain⟨i1,hi1,hz1,hs1,hbb1⟩:=info_parts Tryz.info_Nat;obtain⟨v9,w9,happ,ho9,hg9,_⟩:=(HO3.out.below hb4).app Tryz.underlying62 hi1 hz1 hs1 hbb1 rfl (by decide) hB4.size (a:=⟨w3.heap.size,0,none⟩) (c:=1) (x:=(q0,m0,d0)) hx4 hfirm (fun g hg=>(HO3.out.block g hg).1) (by rw[HNk.out];exact Eo HL60.out (by decide)) 62;have HO9:=Ac ho9;have HB9:Aa (Below w.heap.size w w9):=⟨hB4.grown hg9 hB4.size fun g hg=>(HO3.out.block g hg).1⟩
     have z0:=HX3.out.cells.1;clear hb4 hx4 hB4 hfirm hi1 hz1 hs1 hbb1 ho9 hg9
     go_wp2_with (at_builtin;refine Lib.wpList_append_run _ rfl _ _ _ _ rfl _ _ rfl rfl _ _ happ ?_;refine Pv.out ?_)
     refine⟨?_⟩;clear happ z0;go_wp2;go_roundw
     case rel=>exact⟨k+1,by omega,by go_num,HB9,⟨by rw[HTk.out];exact HO9.out⟩,HC'⟩
     case measure=>simp[intOf];omega
   .obtain rfl:k=n:=by omega
    have hkn':¬(k:Int)<k:=by omega
    have htk:l.take k=l:=List.take_of_length_le (by rw[<-HLN.out];exact Av _);rw[htk]at HC
    have HF:Aa (ANS=0):=⟨by rw[<-HANS2.out,if_pos HC.out]⟩
    clear htk;go_wp2;go_ret;exact⟨by rw[HF.out];rfl,HB.out⟩
theorem Ba.lim {w:World}{e:Nat}{p:Option Addr}{n c:Nat}{Ns:List Nat}(h:Ba w e p n c Ns):∀N∈Ns,N<Al e:=fun N hN=>by
 obtain⟨i,hi⟩:=List.getElem?_of_mem hN;obtain⟨b,off,_,_,h3⟩:=h.at_ (by rw[h.len];have:=(List.getElem?_eq_some_iff.1 hi).1;omega)
 obtain⟨_,_,_,_,_,h4⟩:=h3 i N hi;exact h4
theorem Ds.lim {w:World}{e:Nat}{p:Option Addr}{n c:Nat}{l:List Bn}(h:Ds w e p n c l):∀s∈l,s.n<Al e/\s.base<Al e/\∀q∈s.ps,q<Al e:=fun s hs=>by
 obtain⟨i,hi⟩:=List.getElem?_of_mem hs;obtain⟨b,off,_,_,h3⟩:=h.at_ (by rw[h.len];have:=(List.getElem?_eq_some_iff.1 hi).1;omega)
 obtain⟨_,_,_,_,_,_,_,_,_,_,_,_,_,k4,_,k6,k7⟩:=h3 i s hi;exact⟨k4,k6,k7.lim⟩
theorem Tb {e N:Nat}(he:e<=32)(h:N<Al e):¬1024<Ay N:=by
 have:Ay N<=32*e:=(Cj N _).2 (by
  have:Al e=2^(32*e):=by unfold Al;rw[Nat.pow_mul]
  rw[<-this];exact h)
 omega
theorem cD (w:World)(e f:Nat)(l:List Bn)(b:Nat)(v:Value)(N:Nat)(hb:b<w.heap.size)(hc:w.cell? ⟨b,0,none⟩=some v)(hv:Fit f N (.agg #[v]) w)(he:e<=900000)(hf:f<=900000) :
  Yp 179 #[.pointer (some ⟨b,0,none⟩)] w e l (fun s=>decide (s.n=N)):=by
 refine⟨fun W s u hbw _ hu=>?_⟩;have hc':W.cell? ⟨b,0,none⟩=some v:=(hbw.cell (p:=⟨b,0,none⟩) hb).trans hc;have hv':=hv.below hbw;obtain⟨q0,m0,d0,q1,m1,d1,q2,m2,d2,rfl,h0,l0,h1,l1,h2⟩:=hu.ex;have hbW:b<W.heap.size:=Dk hb hbw.size;have hbx:Below W.heap.size W (W.alloc (.cells #[.slice q0 m0 d0,.slice q1 m1 d1,.slice q2 m2 d2] 189)):=By;have HBX3:=Ac (My.made 189 W (.slice q0 m0 d0) (.slice q1 m1 d1) (.slice q2 m2 d2));obtain⟨wa,hwa⟩:∃wa,W.alloc (.cells #[.slice q0 m0 d0,.slice q1 m1 d1,.slice q2 m2 d2] 189)=wa:=⟨_,rfl⟩
 rw[hwa]at hbx HBX3
 have hc2:wa.cell? ⟨b,0,none⟩=some v:=(hbx.cell (p:=⟨b,0,none⟩) hbW).trans hc';have HA:=Ac ((Fit.of h0 l0).below hbx);have HV:=Ac (hv'.below hbx);have HX:=Ac hbx;have hca:=HBX3.out.cells.1;obtain⟨pv,nv,cv,hev,_,_⟩:=hv;cases hev;obtain⟨SN,hSN⟩:∃x,s.n=x:=⟨_,rfl⟩
 rw[hSN]at HA
 have HSN:=Ac hSN;clear hSN hu h0 l0 h1 l1 h2 hbx hv' hc' hc;go_enter Tryz.func179,Tryz.ntmps179
 go_wp2_with fail
 refine(Sv HA.out HV.out he hf).mono ?_;rintro en w1 ⟨_,rfl,rfl,hb1⟩;have HB1:=Ac (Ab HX.out hb1);have e0:((Bp SN N:Int)==0)=decide (SN=N):=by
  by_cases hnm:SN=N
  .simp[hnm,Cg.2]
  .have:Bp SN N≠0:=fun h0=>hnm (Cg.1 h0)
   simp[hnm,this]
 have HE:=Ac e0;clear e0 hb1 hc2 hca;generalize Bp SN N=K at *;go_wp2;go_ret;exact⟨by rw[HSN.out,<-HE.out];rfl,HB1.out⟩
open Classical in
theorem Yh (e:Nat)(he:e<=32):∀(w:World) (N:Nat) (v:Value) (p:Option Addr) (n c:Nat) (l:List Bn),Fit e N v w->Ds w e p n c l->n<=60->(∀s∈l,s.ps.length<=1000) ->
  Calls Tryz.prog 126 #[v,.slice p n c] w fun en w'=>en=.returned (.bool (decide (Ce N ∨ (Bv [] l/\∃s∈l,s.n=N))))/\Below w.heap.size w w':=by
 intro w N v p n c l hv h hn hps;obtain⟨pu,nu,cu,rfl,hu1,hu2⟩:=hv;have hbx:=Cw.mk1 w (.slice pu nu cu) 37;obtain⟨wa,hwa⟩:∃wa,w.alloc (.cells #[.slice pu nu cu] 37)=wa:=⟨_,rfl⟩
 have hbox:=Ae.made w (.slice pu nu cu);rw[hwa]at hbx hbox
 have HBOX:=Ac hbox;have HX:=Ac hbx.bel;have HF:=Ac ((Fit.of hu1 hu2).below hbx.bel);have HP:=Ac (h.below hbx.bel);have HPS:=Ac hps;have HLIM:=Ac h.lim;obtain⟨ANS,hANS⟩:∃X,decide (Ce N ∨ (Bv [] l/\∃s∈l,s.n=N))=X:=⟨_,rfl⟩
 have HANS:=Ac hANS;rw[hANS];have hca:=hbox.cell;clear hANS hps h hu1 hu2 hbx hbox;obtain⟨S,hS⟩:∃X,decide (Ce N)=X:=⟨_,rfl⟩
 have HS:=Ac hS;clear hS;go_enter Tryz.func126,Tryz.ntmps126
 go_wp2_with fail
 refine(Hp wa N e _ HF.out (by omega)).mono ?_;rintro en w1 ⟨rfl,hb1⟩;rw[HS.out];have HB1:=Ac hb1;have HBOX1:=Ac (HBOX.out.below hb1 HBOX.out.lt);clear hb1 hca
 cases S with
 | true=>
  have HA:Aa (ANS=true):=⟨by rw[<-HANS.out];exact decide_eq_true (.inl (of_decide_eq_true HS.out))⟩
  have HE:=Ac (Ab HX.out HB1.out);go_wp2;go_ret;exact⟨by rw[HA.out];rfl,HE.out⟩
 | false=>
  obtain⟨C,hC⟩:∃X,l.any (fun s=>decide (s.n=N))=X:=⟨_,rfl⟩
  have HC:=Ac hC;clear hC;have HAS:=Ac (cD w1 e e l w.heap.size (.slice pu nu cu) N HBOX1.out.lt HBOX1.out.cell (HF.out.below HB1.out) (by omega) (by omega))
  go_wp2_with fail
  refine(Ov w1 e p n c l _ _ (enters_of Tryz.func179 (by kernel_rfl) rfl) _ (HP.out.below HB1.out) HAS.out).mono ?_;rintro en w2 ⟨rfl,hb2⟩;rw[HC.out];have HB2:=Ac (Ab HB1.out hb2);clear hb2
  cases C with
  | false=>
   have HA:Aa (ANS=false):=⟨by
    rw[<-HANS.out];refine decide_eq_false fun hh=>?_
    rcases hh with hh|⟨_,s,hs,hsn⟩
    .exact of_decide_eq_false HS.out hh
    .exact List.any_eq_false.1 HC.out s hs (decide_eq_true hsn)⟩
   have HE:=Ac (Ab HX.out HB2.out);go_wp2;go_ret;exact⟨by rw[HA.out];rfl,HE.out⟩
  | true=>
   have hnl:∀s∈l,¬Dq s:=fun s hs ht=>by
    have:=HLIM.out s hs;rcases ht with ht|ht|⟨q,hq,ht⟩
    .exact Tb he this.1 ht
    .exact Tb he this.2.1 ht
    .exact Tb he (this.2.2 q hq) ht
   have hne:¬ ∃s∈l,Dq s:=fun hh=>by obtain⟨s,hs,ht⟩:=hh;exact hnl s hs ht
   have hex:∃s∈l,s.n=N:=by
    obtain⟨s,hs,ht⟩:=List.any_eq_true.1 HC.out;exact⟨s,hs,of_decide_eq_true ht⟩
   have HNE:=Ac hne;have HEX:=Ac hex;clear hnl hne hex
   go_wp2_with fail
   refine(fI e (by omega) w2 p n c l ((HP.out.below HB2.out).wide (by omega)) hn HPS.out (fun s hs _=>HLIM.out s hs)).mono ?_;rintro en w3 ⟨rfl,hb3⟩;rw[if_neg HNE.out];have HE:=Ac (Ab HX.out (Ab HB2.out hb3));clear hb3
   by_cases hch:Bv [] l
   .rw[if_pos hch];have HA:Aa (ANS=true):=⟨by rw[<-HANS.out];exact decide_eq_true (.inr ⟨hch,HEX.out⟩)⟩
    clear hch;go_wp2;go_ret;exact⟨by rw[HA.out];rfl,HE.out⟩
   .rw[if_neg hch];have HA:Aa (ANS=false):=⟨by
     rw[<-HANS.out];refine decide_eq_false fun hh=>?_
     rcases hh with hh|hh
     .exact of_decide_eq_false HS.out hh
     .exact hch hh.1⟩
    clear hch;go_wp2;go_ret;exact⟨by rw[HA.out];rfl,HE.out⟩
theorem Zx {w:World}{e N:Nat}{v:Value}(h:Fit e N v w)(he:e<=900000) :
  Calls Tryz.prog 148 #[v] w fun en w'=>en=.returned (.bool (decide (N=1)))/\Below w.heap.size w w':=by
 obtain⟨p,n,c,rfl,h1,h2⟩:=h;have hb1:=Ae.made w (.slice p n c);have hbel:Below w.heap.size w (w.alloc (.cells #[.slice p n c] 37)):=By;obtain⟨wa,hwa⟩:∃wa,w.alloc (.cells #[.slice p n c] 37)=wa:=⟨_,rfl⟩
 rw[hwa]at hb1 hbel
 have HF:=Ac ((Fit.of h1 h2).below hbel);have HBX:=Ac hb1;have HB:=Ac hbel;obtain⟨K,hK⟩:∃K,Bp N 1=K:=⟨_,rfl⟩
 have HK:=Ac hK;obtain⟨X,hX⟩:∃X,decide (N=1)=X:=⟨_,rfl⟩
 have hE:((K:Int)==0)=X:=by
  rw[<-hK,<-hX]
  by_cases hn:N=1
  .simp[hn,Cg.2]
  .have:Bp N 1≠0:=fun h0=>hn (Cg.1 h0)
   simp[hn,this]
 rw[hX];clear hK hX h1 h2 hb1 hbel;go_enter Tryz.func148,Tryz.ntmps148;go_wp2;refine Am (by kernel_rfl) (by kernel_rfl)
  [some (.agg #[.slice p n c]),none,none,some (.bool X),some (.bool X)]
  [false,true,true,false,false] rfl
  (fun w1 w2=>Ap (w.heap.size) w1 w2)
  (fun D sp w'=>RG (w.heap.size) wa [(w.heap.size,.cells #[.slice p n c] 37 (0,0))] w'/\True)
  (fun i v w'=>match i with
   | 1=>Fit 1 1 v w'
   | 2=>v=.int .i64 K
   | _=>True)
  ?_ ⟨RG.start HB.out.size (List.forall_mem_cons.2 ⟨HBX.out,fun x hx=>by cases hx⟩),trivial⟩ ?_ ?_
 .intro i v w1 w2 hf hb;split at hf
  .exact hf.keep hb
  .exact hf
  .trivial
 .simp only[Bg,Nat.reduceAdd];refine⟨?_,?_,?_,?_,?_,trivial⟩
  all_goals intro D sp w' hD hW hdp hg
  case refine_1=>
   have c0:w'.cell? ⟨w.heap.size,0,none⟩=some (.slice p n c):=Ae.cell (hg.1.of List.mem_cons_self)
   with_reducible refine Ag ?_ ?_
   all_goals simp[Region.wanted,yielded,execOp,Act.eval,Act.put,go_sem,c0]
  case refine_2=>
   (with_reducible refine Ad (w1:=w') (f := 17) (args:=#[.int .u64 1]) ?_ ?_ ?_)
   .simp[Region.wanted,yielded,Act.put,go_sem]
   .simp[Act.eval,Act.put,go_sem]
   .refine(Ex w').mono ?_;rintro en w9 ⟨u,rfl,hu,hb⟩;exact⟨u,rfl,Ap.of hb hg.1.base,hu,hg.1.later hb,trivial⟩
  case refine_3=>
   have k1:Fit 1 1 (sp 1) w':=(hdp 1 (mq (by kernel_rfl))).2
   (with_reducible refine Ad (w1:=w') (f := 24) (args:=#[.agg #[.slice p n c],sp 1]) ?_ ?_ ?_)
   .simp[Region.wanted,yielded,Act.put,go_sem]
   .simp[Act.eval,Act.put,go_sem]
   .refine(Az (HF.out.keep hg.1.keep) k1 he (by decide) HK.out).mono ?_;rintro en w9 ⟨u,rfl,rfl,hb⟩;exact⟨_,rfl,Ap.of hb hg.1.base,rfl,hg.1.later hb,trivial⟩
  case refine_4=>
   have k2:(sp 2)=.int .i64 K:=(hdp 2 (mq (by kernel_rfl))).2
   with_reducible refine Ag ?_ ?_
   all_goals simp[Region.wanted,yielded,execOp,Act.eval,Act.put,go_sem,k2,hE]
  all_goals ((with_reducible refine Ag ?_ ?_);all_goals first|(simp only[Region.wanted];done)|simp[Region.wanted,yielded,execOp,Act.eval,Act.put,go_sem])
 .intro sp w7 hsp hg;have HB7:=Ac (HB.out.trans hg.1.keep.bel);clear hsp hg;simp only[Ak,Nat.reduceAdd];generalize sp 1=y1,sp 2=y2 at *
  go_simp
  go_wp2;go_ret;exact⟨rfl,HB7.out⟩
def sv (x:Option Addr×Nat×Nat):Value:=.slice x.1 x.2.1 x.2.2
structure gV (d:Bool) (b:Nat) (p0:Option Addr) (n0 c0 N:Nat) (w:World):Prop where
 z:d=false->Ae w b (.slice p0 n0 c0)
 o:d=true->∃p n c,Ae w b (.slice p n c)/\Ah w p n c N
theorem gV.later {d:Bool}{b n0 c0 N:Nat}{p0:Option Addr}{w w':World}(h:gV d b p0 n0 c0 N w)(hb:Below w.heap.size w w'):gV d b p0 n0 c0 N w' :=
 ⟨fun e=>(h.z e).below hb (h.z e).lt,fun e=>let ⟨p,n,c,h1,h2⟩:=h.o e;⟨p,n,c,h1.below hb h1.lt,h2.below hb⟩⟩
theorem gV.put {b n0 c0 N:Nat}{p0:Option Addr}{w:World}(h:gV false b p0 n0 c0 N w){p:Option Addr}{n c:Nat}(hx:Ah w p n c N):∃q m k,Ae w b (.slice q m k)/\gV true b p0 n0 c0 N (w.setCell ⟨b,0,none⟩ (.slice p n c)) :=
 ⟨p0,n0,c0,h.z rfl,(fun e=>by cases e),fun _=>⟨p,n,c,(h.z rfl).set _,hx.store (h.z rfl) _⟩⟩
def Oh (w:World)(b N:Nat):Prop:=∃p n c,Ae w b (.slice p n c)/\Ah w p n c N
def Qp (Q:Nat)(v:Value)(w:World):Prop:=(∃b P G H,v=.pointer (some ⟨b,0,none⟩)/\Bq w b P Q G H) ∨ (v=.pointer none/\Q=0)
theorem Qp.below {Q:Nat}{v:Value}{w w':World}(h:Qp Q v w)(hb:Below w.heap.size w w'):Qp Q v w':=by
 rcases h with ⟨b,P,G,H,h1,h2⟩|h
 .exact .inl ⟨b,P,G,H,h1,h2.below hb⟩
 .exact .inr h
theorem Qp.of {w:World}{b P Q G H:Nat}(h:Bq w b P Q G H):Qp Q (.pointer (some ⟨b,0,none⟩)) w:=.inl ⟨b,P,G,H,rfl,h⟩
def RQ (Q:Nat)(v:Value)(w:World):Prop:=(∃r,v=.pointer (some ⟨r,0,none⟩)/\Ring w r Q 33) ∨ (v=.pointer none/\Q=0)
theorem Ox {w:World}{Q:Nat}{g0:Value}(h:Qp Q g0 w) :
  Calls Tryz.prog 30 #[g0] w fun en w'=>∃x,en=.returned x/\RQ Q x w'/\Below w.heap.size w w':=by
 rcases h with ⟨b,P,G,H,rfl,h2⟩|⟨rfl,rfl⟩
 .refine(Gb h2).mono ?_;rintro en w' ⟨r,rfl,hr,hb⟩;exact⟨_,rfl,.inl ⟨r,rfl,hr⟩,hb⟩
 .refine(Xf w).mono ?_;rintro en w' ⟨rfl,hb⟩;exact⟨_,rfl,.inr ⟨rfl,rfl⟩,hb⟩
theorem Tz {w:World}{Q:Nat}{r0:Value}(h:RQ Q r0 w) :
  Calls Tryz.prog 57 #[r0] w fun en w'=>∃x,en=.returned x/\Fit 33 Q x w'/\Below w.heap.size w w':=by
 rcases h with ⟨r,rfl,h2⟩|⟨rfl,rfl⟩
 .exact Dj h2
 .refine(Nh w).mono ?_;rintro en w' ⟨rfl,hb⟩;exact⟨_,rfl,Fit.of (Ah.nil _) (by decide),hb⟩
theorem Fd {N M:Nat}:Bp N M<0 ↔ N<M:=by
 unfold Bp;split
 .simp_all
 .split<;>simp_all<;>omega
theorem gT {N:Nat}(h:N<Al 33):Ay N<=1056:=by
 have:=Hf h;omega
theorem Pg {w:World}{Q:Nat}{g0:Value}(h:Qp Q g0 w) :
  Calls Tryz.prog 130 #[g0] w fun en w'=>en=.returned (.int .i64 (Ao Q:Nat))/\Below w.heap.size w w':=by
 have HQ:=Ac h;clear h;go_enter Tryz.func130,Tryz.ntmps130
 go_wp2_with fail
 refine(Ox HQ.out).mono ?_;rintro en w1 ⟨r0,rfl,hr,hb1⟩;have HR:=Ac hr;have HB1:=Ac hb1;clear hr hb1
 go_wp2_with fail
 refine(Tz HR.out).mono ?_;rintro en w2 ⟨_,rfl,⟨p,n,c,rfl,h1,h2⟩,hb2⟩;have HN:=Ac h1;have hn:n<1000000:=by have:=h1.len_le h2;omega
 have hl:Ay Q<=1056:=gT h2;have HB2:=Ac (Ab HB1.out hb2);have HS:Aa (Ao Q=(Ay Q+7)/8):=⟨rfl⟩
 clear h1 h2 hb2
 go_wp2_with fail
 refine(Dy _ p n c Q HN.out hn).mono ?_;rintro en w3 ⟨rfl,hb3⟩;have HB3:=Ac (Ab HB2.out hb3);clear hb3;obtain⟨L,hL⟩:∃L,Ay Q=L:=⟨_,rfl⟩
 rw[hL]at hl HS
 simp only[hL];clear hL;go_wp2;go_ret;refine⟨?_,HB3.out⟩;rw[HS.out];exact congrArg (fun z=>Ending.returned (.int .i64 z)) (by omega)
theorem bN {w:World}{Q:Nat}{g0:Value}(h:Qp Q g0 w)(hq:Ao Q<=16) :
  Calls Tryz.prog 77 #[g0] w fun en w'=>en=.returned (.int .i64 (2*Ao Q:Nat))/\Below w.heap.size w w':=by
 have HQ:=Ac h;clear h;go_enter Tryz.func77,Tryz.ntmps77
 go_wp2_with fail
 refine(Pg HQ.out).mono ?_;rintro en w1 ⟨rfl,hb1⟩;have HB1:=Ac hb1;clear hb1;obtain⟨L,hL⟩:∃L,Ao Q=L:=⟨_,rfl⟩
 have HL:=Ac hL;rw[hL]at hq
 simp only[hL];clear hL HQ;go_wp2;go_ret;refine⟨?_,HB1.out⟩;rw[HL.out];show Ending.returned (.int .i64 (2*(L:Int)))=Ending.returned (.int .i64 ((2*L:Nat):Int));rw[Int.natCast_mul];rfl
theorem Yx {w:World}{Q:Nat}{g0:Value}(h:Qp Q g0 w)(hq:Ao Q<=16) :
  Calls Tryz.prog 23 #[g0] w fun en w'=>en=.returned (.int .i64 (2*Ao Q:Nat))/\Below w.heap.size w w':=by
 have HS:=Ac (bN h hq);obtain⟨L,hL⟩:∃L,2*Ao Q=L:=⟨_,rfl⟩
 rw[hL]at HS ⊢
 clear h hL hq;go_enter Tryz.func23,Tryz.ntmps23
 go_wp2_with fail
 refine HS.out.mono ?_;rintro en w1 ⟨rfl,hb1⟩;have HB1:=Ac hb1;clear hb1;go_wp2;go_ret;exact⟨rfl,HB1.out⟩
end Go.Proofs.YtokhckjemidbpaaGreatDoor
