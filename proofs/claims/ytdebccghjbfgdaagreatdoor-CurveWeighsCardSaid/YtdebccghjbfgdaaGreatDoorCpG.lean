/- Whether a step's primes are known, of the program. -/
import Derived.Test.YtdebccghjbfgdaaGreatDoorCpF
set_option maxRecDepth 1000000
set_option maxHeartbeats 16000000
set_option linter.unusedSimpArgs false
set_option linter.unusedVariables false
namespace Go.Proofs.YtdebccghjbfgdaaGreatDoor
open Go Go.RowKit Go.Proofs.YtdebccghjbfgdaaGreatDoor.Flow
def KnownAll (bs ps:List Nat):Prop:=ps ≠ [] /\ ps.length <= 32 /\ ∀ i P,ps[i]? = some P -> KnownP bs P /\ P ∉ ps.take i
open Classical in
theorem areknown_calls {w:World} {e:Nat} {pp:Option Addr} {np cp:Nat} {ps:List Nat} {pb:Option Addr} {nb cb:Nat} {bs:List Nat} (hp:PList w e pp np cp ps) (hb:PList w e pb nb cb bs) (he:e <= 200) :
  Calls Tryz.prog 204 #[.slice pp np cp,.slice pb nb cb] w fun en w'=>en=.returned (.bool (decide (KnownAll bs ps))) /\ Below w.heap.size w w':=by
 have hNmax:np <= 9223372036854775807:=Nat.le_trans hp.cap hp.max
 have hcap:=hp.cap
 have hcmax:=hp.max
 have HP:=hol hp
 have HLP:=hol hp.len
 have HB0:=hol hb
 obtain ⟨ANS,hANS⟩:∃ X,decide (KnownAll bs ps)=X:=⟨_,rfl⟩
 have HANS:=hol hANS
 rw [hANS]
 clear hANS hp hb
 by_cases h1:np=0
 ·have HF:Hold (ANS=false):=⟨by
   rw [<- HANS.out]
   exact decide_eq_false fun h=>h.1 (List.eq_nil_of_length_eq_zero (by rw [<- HLP.out]; exact h1))⟩
  subst h1
  go_enter Tryz.func204,Tryz.ntmps204
  go_wp2
  go_ret
  exact ⟨by rw [HF.out]; rfl,Below.refl _ _⟩
 by_cases h2:32 < np
 ·have HF:Hold (ANS=false):=⟨by
   rw [<- HANS.out]
   exact decide_eq_false fun h=>by have:=h.2.1; have:=HLP.out; omega⟩
  have h1':((np:Int) == 0)=false:=by rw [beq_eq_false_iff_ne]; omega
  have h2':(32:Int) < np:=by omega
  go_enter Tryz.func204,Tryz.ntmps204
  go_wp2
  go_ret
  exact ⟨by rw [HF.out]; rfl,Below.refl _ _⟩
 have h1':((np:Int) == 0)=false:=by rw [beq_eq_false_iff_ne]; omega
 have h2':¬ (32:Int) < np:=by omega
 go_enter Tryz.func204,Tryz.ntmps204
 go_wp2
 go_loopw [5,6,17] (fun _ _ iv wr=>∃ (k:Nat),k <= np /\ iv=.int .i64 k /\ Hold (Below w.heap.size w wr) /\ Hold (∀ i P,i < k -> ps[i]? = some P -> KnownP bs P /\ P ∉ ps.take i)) (fun _ _ iv _=>np - (intOf iv).toNat)
 case atStart=>exact ⟨0,by omega,rfl,⟨Below.refl _ _⟩,⟨fun i P h=>by omega⟩⟩
 case round =>
  obtain ⟨k,hk,rfl,HBr,HD⟩:=hrel
  by_cases hkn:k < np
  ·obtain ⟨PP,hPk⟩:∃ P,ps[k]? = some P:=⟨ps[k]'(by rw [<- HLP.out]; exact hkn),List.getElem?_eq_getElem _⟩
   have HPl:=hol (HP.out.below HBr.out)
   obtain ⟨b,off,rfl,hb,hc⟩:=HPl.out.at_ (by omega)
   obtain ⟨q,m,d,hx,hnx,hlim⟩:=hc k PP hPk
   have hkn':(k:Int) < np:=by omega
   have hkc:¬ cp < k:=by omega
   have HPk:=hol hPk
   have hba:Below wr.heap.size wr (wr.alloc (.cells #[.slice q m d] 36)):=bal
   have HBP:=hol (NatBox.made wr (.slice q m d))
   obtain ⟨wb,hwb⟩:∃ wb,wr.alloc (.cells #[.slice q m d] 36)=wb:=⟨_,rfl⟩
   rw [hwb] at hba HBP
   have HF:=hol ((Fit.of hnx hlim).below hba)
   have HBwb:=hol (bstep HBr.out hba)
   have HL:=hol (HB0.out.below HBwb.out)
   have HT:=hol ((HPl.out.take (Nat.le_of_lt hkn)).below hba)
   clear hc hnx hlim hPk hba
   by_cases hkp:KnownP bs PP
   ·have HKN:Hold (decide (KnownP bs PP)=true):=⟨decide_eq_true hkp⟩
    obtain ⟨CC,hCC⟩:∃ X,decide (PP ∈ ps.take k)=X:=⟨_,rfl⟩
    have HC:=hol hCC
    have HKP:=hol hkp
    clear hCC hkp
    go_wp2
    refine wp_region_duties (by kernel_rfl) (by kernel_rfl)
     [some (.agg #[.slice q m d]),some (.slice pb nb cb),none,some (.bool false),some (.bool false),some (.slice (some ⟨b,off,none⟩) np cp),some (.int .i64 k),some (.slice (some ⟨b,off,none⟩) k cp),some (.agg #[.slice q m d]),none,some (.bool CC)]
     [false,false,true,false,false,false,false,false,false,true,false] rfl
     (fun w1 w2=>Below w1.heap.size w1 w2)
     (fun _ w'=>Below wb.heap.size wb w')
     (fun i v w'=>match i with
      | 2=>v=.bool true
      | 9=>v=.bool CC
      | _=>True)
     ?_ (Below.refl _ _).drew ?_ ?_
    ·intro i v w1 w2 hf hb
     split at hf
     ·exact hf
     ·exact hf
     ·trivial
    ·simp only [Duties,Nat.reduceAdd]
     refine ⟨?_,?_,?_,?_,?_,?_,?_,?_,?_,?_,?_,trivial⟩
     all_goals intro D sp w' hD hW hdp hbx'
     case refine_1 | refine_9 =>
      have c0:=(HBP.out.below hbx' HBP.out.lt).cell
      with_reducible refine asked_pl ?_ ?_
      all_goals simp [Region.wanted,yielded,execOp,Act.eval,Act.put,go_sem,c0]
     case refine_3 =>
      (with_reducible refine asked_call (w1:=w') (f := 214) (args:=#[.agg #[.slice q m d],.slice pb nb cb]) ?_ ?_ ?_)
      ·simp [Region.wanted,yielded,Act.put,go_sem]
      ·simp [Act.eval,Act.put,go_sem]
      ·refine (known_calls (HF.out.below hbx') (HL.out.below hbx') he).mono ?_
       rintro en w9 ⟨rfl,hb⟩
       rw [HKN.out]
       exact ⟨_,rfl,hb,rfl,bstep hbx' hb⟩
     case refine_4 =>
      have k2:(sp 2)=.bool true:=(hdp 2 (mq (by kernel_rfl))).2
      with_reducible refine asked_pl ?_ ?_
      all_goals simp [Region.wanted,yielded,execOp,Act.eval,Act.put,go_sem,k2]
     case refine_8 =>
      (with_reducible refine asked_value (w1:=w') (v:=.slice (some ⟨b,off,none⟩) k cp) ?_ ?_ ?_)
      ·simp [Region.wanted,yielded,Act.put,go_sem]
      ·simp [execOp,Act.eval,Act.put,go_sem,hkc]
      ·exact ⟨rfl,rfl⟩
     case refine_10 =>
      (with_reducible refine asked_call (w1:=w') (f := 215) (args:=#[.slice (some ⟨b,off,none⟩) k cp,.agg #[.slice q m d]]) ?_ ?_ ?_)
      ·simp [Region.wanted,yielded,Act.put,go_sem]
      ·simp [Act.eval,Act.put,go_sem]
      ·refine (contains_calls w' e _ k cp (ps.take k) _ PP (HT.out.below hbx') (HF.out.below hbx') (by omega)).mono ?_
       rintro en w9 ⟨rfl,hb⟩
       rw [HC.out]
       exact ⟨_,rfl,hb,rfl,bstep hbx' hb⟩
     case refine_11 =>
      have k9:(sp 9)=.bool CC:=(hdp 9 (mq (by kernel_rfl))).2
      with_reducible refine asked_pl ?_ ?_
      all_goals simp [Region.wanted,yielded,execOp,Act.eval,Act.put,go_sem,k9]
     all_goals ((with_reducible refine asked_pl ?_ ?_); all_goals first | (simp only [Region.wanted]; done) | simp [Region.wanted,yielded,execOp,Act.eval,Act.put,go_sem])
    ·intro sp w7 hsp hbx'
     have HBe:=hol (bstep HBwb.out hbx')
     clear hsp hbx'
     simp only [frameOf,Nat.reduceAdd]
     generalize sp 2=y2,sp 9=y9 at *
     go_simp
     cases CC with
     | true =>
      have HA:Hold (ANS=false):=⟨by
       rw [<- HANS.out]
       exact decide_eq_false fun h=>(h.2.2 k PP HPk.out).2 (of_decide_eq_true HC.out)⟩
      go_wp2
      go_ret
      exact ⟨by rw [HA.out]; rfl,HBe.out⟩
     | false =>
      have HD':Hold (∀ i P,i < k + 1 -> ps[i]? = some P -> KnownP bs P /\ P ∉ ps.take i):=⟨fun i P hi hP=>by
       rcases (by omega:i < k ∨ i=k) with h | rfl
       ·exact HD.out i P h hP
       ·have:=HPk.out
        rw [hP] at this
        cases this
        exact ⟨HKP.out,of_decide_eq_false HC.out⟩⟩
      go_wp2
      go_roundw
      case rel=>exact ⟨k + 1,by omega,by go_num,HBe,HD'⟩
      case measure=>simp [intOf]; omega
   ·have HKN:Hold (decide (KnownP bs PP)=false):=⟨decide_eq_false hkp⟩
    have HA:Hold (ANS=false):=⟨by
     rw [<- HANS.out]
     exact decide_eq_false fun h=>hkp (h.2.2 k PP HPk.out).1⟩
    clear hkp
    go_wp2
    refine wp_region_duties (by kernel_rfl) (by kernel_rfl)
     [some (.agg #[.slice q m d]),some (.slice pb nb cb),none,some (.bool true),some (.bool true),some (undef),some (undef),some (undef),some (undef),some (undef),some (.bool true)]
     [false,false,true,false,false,false,false,false,false,false,false] rfl
     (fun w1 w2=>Below w1.heap.size w1 w2)
     (fun _ w'=>Below wb.heap.size wb w')
     (fun i v w'=>match i with
      | 2=>v=.bool false
      | _=>True)
     ?_ (Below.refl _ _).drew ?_ ?_
    ·intro i v w1 w2 hf hb
     split at hf
     ·exact hf
     ·trivial
    ·simp only [Duties,Nat.reduceAdd]
     refine ⟨?_,?_,?_,?_,?_,?_,?_,?_,?_,?_,?_,trivial⟩
     all_goals intro D sp w' hD hW hdp hbx'
     case refine_1 =>
      have c0:=(HBP.out.below hbx' HBP.out.lt).cell
      with_reducible refine asked_pl ?_ ?_
      all_goals simp [Region.wanted,yielded,execOp,Act.eval,Act.put,go_sem,c0]
     case refine_3 =>
      (with_reducible refine asked_call (w1:=w') (f := 214) (args:=#[.agg #[.slice q m d],.slice pb nb cb]) ?_ ?_ ?_)
      ·simp [Region.wanted,yielded,Act.put,go_sem]
      ·simp [Act.eval,Act.put,go_sem]
      ·refine (known_calls (HF.out.below hbx') (HL.out.below hbx') he).mono ?_
       rintro en w9 ⟨rfl,hb⟩
       rw [HKN.out]
       exact ⟨_,rfl,hb,rfl,bstep hbx' hb⟩
     case refine_4 =>
      have k2:(sp 2)=.bool false:=(hdp 2 (mq (by kernel_rfl))).2
      with_reducible refine asked_pl ?_ ?_
      all_goals simp [Region.wanted,yielded,execOp,Act.eval,Act.put,go_sem,k2]
     case refine_6 | refine_7 | refine_8 | refine_9 | refine_10 =>
      (with_reducible refine asked_not ?_ ?_)
      ·(simp [Region.wanted,yielded,Act.put,go_sem] <;> exact fun h=>by cases h)
      ·exact ⟨rfl,rfl⟩
     all_goals ((with_reducible refine asked_pl ?_ ?_); all_goals first | (simp only [Region.wanted]; done) | simp [Region.wanted,yielded,execOp,Act.eval,Act.put,go_sem])
    ·intro sp w7 hsp hbx'
     have HBe:=hol (bstep HBwb.out hbx')
     clear hsp hbx'
     simp only [frameOf,Nat.reduceAdd]
     generalize sp 2=y2 at *
     go_simp
     go_wp2
     go_ret
     exact ⟨by rw [HA.out]; rfl,HBe.out⟩
  ·obtain rfl:k=np:=by omega
   have hkn':¬ (k:Int) < k:=by omega
   have HF:Hold (ANS=true):=⟨by
    rw [<- HANS.out]
    exact decide_eq_true ⟨fun e=>h1 (by rw [HLP.out,e]; rfl),by rw [<- HLP.out]; omega,fun i P hP=>HD.out i P (by rw [HLP.out]; exact (List.getElem?_eq_some_iff.1 hP).1) hP⟩⟩
   go_wp2
   go_ret
   exact ⟨by rw [HF.out]; rfl,HBr.out⟩
end Go.Proofs.YtdebccghjbfgdaaGreatDoor
