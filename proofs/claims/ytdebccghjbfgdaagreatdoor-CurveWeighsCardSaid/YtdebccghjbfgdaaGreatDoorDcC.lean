/- The document's Weight: how much a place counts. -/
import Derived.Test.YtdebccghjbfgdaaGreatDoorDcB
set_option maxRecDepth 1000000
set_option maxHeartbeats 16000000
set_option linter.unusedSimpArgs false
set_option linter.unusedVariables false
namespace Go.Proofs.YtdebccghjbfgdaaGreatDoor
open Go Go.RowKit Go.Proofs.YtdebccghjbfgdaaGreatDoor.Flow
def lefts (i k:Nat) (xs:List Nat):List Nat:=if k <= i then (xs.take i).drop k ++ xs.drop (i + 1) else xs.drop k
theorem lefts_start (i:Nat) (xs:List Nat):lefts i 0 xs=xs.take i ++ xs.drop (i + 1):=by simp [lefts]
theorem lefts_own (i:Nat) (xs:List Nat):lefts i i xs=lefts i (i + 1) xs:=by
 unfold lefts
 rw [if_pos (Nat.le_refl _),if_neg (by omega),List.drop_eq_nil_of_le (List.length_take_le _ _)]
 rfl
theorem lefts_step {i k a:Nat} {xs:List Nat} (h:k ≠ i) (hk:xs[k]? = some a):lefts i k xs=a :: lefts i (k + 1) xs:=by
 obtain ⟨h1,rfl⟩:=List.getElem?_eq_some_iff.1 hk
 unfold lefts
 by_cases hi:k <= i
 ·have hl:k < (xs.take i).length:=by rw [List.length_take]; omega
  rw [if_pos hi,if_pos (by omega),List.drop_eq_getElem_cons hl,List.getElem_take]
  rfl
 ·rw [if_neg hi,if_neg (by omega),List.drop_eq_getElem_cons h1]
theorem lefts_end {i n:Nat} {xs:List Nat} (h:n=xs.length) (hi:i < n):lefts i n xs=[]:=by
 unfold lefts
 rw [if_neg (by omega),h,List.drop_length]
theorem isinv_of {M N X:Nat} (hM:2 <= M) (hg:Nat.gcd M N=1) (h:X < M /\ X * N % M=1 % M):X=invQ M N:=invQ_eq hM ⟨fun _=>h,fun e=>absurd hg e⟩
theorem dweight_calls {w:World} {q n c i X Z:Nat} {p:Option Addr} {vq vx:Value} {xs:List Nat} (hQ:RBits q vq w) (h:NList w p n c xs) (hX:RBits X vx w) (hq:2 <= q) (hl:blen q <= 100000) (hlX:blen X <= 100000) (hx:∀ x ∈ xs,blen x <= 100000) (hn:n <= 12) (hi:xs[i]? = some Z)
  (hu:∀ (k a:Nat),k ≠ i -> xs[k]? = some a -> Nat.gcd q (subM Z a q)=1) :
  Calls Tryz.prog 34 #[vq,.slice p n c,.int .i64 i,vx] w fun en w'=>∃ u,en=.returned u /\ RBits (docW q X Z 1 (xs.take i ++ xs.drop (i + 1))) u w' /\ Below w.heap.size w w':=by
 have HQw:=hol hQ
 have HXw:=hol hX
 have HP:=hol h
 have HU:=hol hu
 have HZi:=hol hi
 have HQ2:=hol hq
 have HLQ:=hol hl
 have HLX:=hol hlX
 have HXS:=hol hx
 have hcap:n <= c:=h.cap
 have hmax:c <= 9223372036854775807:=h.max
 have HLN:=hol h.len
 have HIN:Hold (i < n):=⟨by rw [h.len]; exact (List.getElem?_eq_some_iff.1 hi).1⟩
 have hin:=HIN.out
 obtain ⟨WW,hWW⟩:∃ W,docW q X Z 1 (xs.take i ++ xs.drop (i + 1))=W:=⟨_,rfl⟩
 have HW0:Hold (docW q X Z 1 (lefts i 0 xs)=WW):=⟨by rw [lefts_start]; exact hWW⟩
 have HWl:Hold (WW < q):=⟨by rw [<- hWW]; exact docW_lt hq _ _ (by omega)⟩
 rw [hWW]
 obtain ⟨pq,nq,cq,rfl⟩:∃ pq nq cq,vq=.slice pq nq cq:=let ⟨a,b,d,e1,_⟩:=hQ; ⟨a,b,d,e1⟩
 obtain ⟨px,nx,cx,rfl⟩:∃ pq nq cq,vx=.slice pq nq cq:=let ⟨a,b,d,e1,_⟩:=hX; ⟨a,b,d,e1⟩
 clear hQ hX h hu hi hq hl hlX hx hWW
 go_enter Tryz.func34,Tryz.ntmps34
 go_wp2_with fail
 refine (small_calls 1 w (by decide)).mono ?_
 rintro en w1 ⟨q1,m1,d1,rfl,hu1,hb1,_⟩
 have HO1:Hold (RBits 1 (.slice q1 m1 d1) w1):=⟨RBits.of hu1⟩
 have HB1:=hol hb1
 clear hu1 hb1
 go_wp2
 go_loopw [9,10,11,12,16] (fun ov _ _ _ iv wr=>∃ (k o:Nat),k <= n /\ iv=.int .i64 k /\ Hold (RBits o ov wr) /\ Hold (o < q) /\ Hold (docW q X Z o (lefts i k xs)=WW) /\ Hold (Below w.heap.size w wr)) (fun _ _ _ _ iv _=>n - (intOf iv).toNat)
 case atStart=>exact ⟨0,1,by omega,rfl,HO1,⟨by have:=HQ2.out; omega⟩,HW0,HB1⟩
 case round =>
  obtain ⟨k,o,hk,rfl,HO,HOq,HWk,HBr⟩:=hrel
  obtain ⟨po,no,co,rfl⟩:∃ pq nq cq,u9=.slice pq nq cq:=let ⟨a,b,d,e1,_⟩:=HO.out; ⟨a,b,d,e1⟩
  by_cases hkn:k < n
  ·have hkn':(k:Int) < n:=by omega
   have HKN:=hol hkn
   by_cases hki:k=i
   ·subst hki
    have hW':Hold (docW q X Z o (lefts k (k + 1) xs)=WW):=⟨by rw [<- lefts_own]; exact HWk.out⟩
    have hkk:((k:Int) == k)=true:=by simp
    go_wp2
    go_roundw
    case rel=>exact ⟨k + 1,o,by omega,by go_num,HO,HOq,hW',HBr⟩
    case measure=>simp [intOf]; omega
   ·have hkk:((k:Int) == i)=false:=by rw [beq_eq_false_iff_ne]; omega
    obtain ⟨A,hAk⟩:∃ A,xs[k]? = some A:=⟨xs[k]'(by rw [<- HLN.out]; exact hkn),List.getElem?_eq_getElem _⟩
    have HLA:Hold (blen A <= 100000):=⟨HXS.out A (List.mem_of_getElem? hAk)⟩
    have HLZ:Hold (blen Z <= 100000):=⟨HXS.out Z (List.mem_of_getElem? HZi.out)⟩
    have HGC0:Nat.gcd q (subM Z A q)=1:=HU.out k A hki hAk
    obtain ⟨SS,hSS⟩:∃ S,subM Z A q=S:=⟨_,rfl⟩
    obtain ⟨II,hII⟩:∃ S,invQ q SS=S:=⟨_,rfl⟩
    have HGC:Hold (Nat.gcd q SS=1):=⟨by rw [<- hSS]; exact HGC0⟩
    have HII:Hold (∀ X9:Nat,X9 < q /\ X9 * SS % q=1 % q -> X9=II):=⟨fun X9 h9=>by rw [<- hII]; exact isinv_of HQ2.out HGC.out h9⟩
    have HIl:Hold (II < q):=⟨by rw [<- hII]; exact ((invQ_is HQ2.out SS).1 HGC.out).1⟩
    have HLS:Hold (blen SS <= 100000):=⟨by
     rw [<- hSS]
     exact Nat.le_trans (blen_mono (Nat.le_of_lt (subM_lt HQ2.out))) HLQ.out⟩
    have HII2:Hold (invQ q (subM Z A q)=II):=⟨by rw [hSS]; exact hII⟩
    have HW':Hold (docW q X Z (o * (subM X A q * II % q) % q) (lefts i (k + 1) xs)=WW):=⟨by
     have h:=HWk.out
     rw [lefts_step hki hAk] at h
     rw [<- HII2.out]
     exact h⟩
    have HQ:Hold (RBits q (.slice pq nq cq) wr):=⟨HQw.out.below HBr.out⟩
    obtain ⟨bp,op,rfl,hbp,hcp⟩:=(HP.out.below HBr.out).at_ (by omega)
    obtain ⟨qz,mz,dz,cz1,cz2⟩:=hcp i Z HZi.out
    obtain ⟨qa,ma,da,ca1,ca2⟩:=hcp k A hAk
    have HBX:Hold (bp < wr.heap.size):=⟨hbp⟩
    have HCZ:Hold (wr.cell? ⟨bp,op + i,none⟩=some (.slice qz mz dz)):=⟨cz1⟩
    have HCA:Hold (wr.cell? ⟨bp,op + k,none⟩=some (.slice qa ma da)):=⟨ca1⟩
    have HZ:=hol cz2
    have HA:=hol ca2
    clear hbp hcp cz1 cz2 ca1 ca2 hAk HGC0 hII
    go_wp2
    refine wp_region_duties (by kernel_rfl) (by kernel_rfl)
     [some (.slice (some ⟨bp,op,none⟩) n c),some (.int .i64 (i:Nat)),some (.pointer (some ⟨bp,op + i,none⟩)),some (.slice qz mz dz),some (.slice (some ⟨bp,op,none⟩) n c),some (.int .i64 (k:Nat)),some (.pointer (some ⟨bp,op + k,none⟩)),some (.slice qa ma da),some (.slice pq nq cq),none,some (.slice pq nq cq),none,none,none,some (.bool true),none,some (.bool true)]
     [false,false,false,false,false,false,false,false,false,true,false,true,true,true,false,true,false] rfl
     (fun w1 w2=>Below w1.heap.size w1 w2)
     (fun _ w'=>Below wr.heap.size wr w')
     (fun i v w'=>match i with
      | 9=>RBits (SS) v w'
      | 11=>∃ x,v=.tuple #[x,.bool true] /\ RBits II x w'
      | 12=>∃ x,v=.tuple #[x,.bool true] /\ RBits II x w'
      | 13=>RBits II v w'
      | 15=>RBits II v w'
      | _=>True)
     ?_ (Below.refl _ _).drew ?_ ?_
    ·intro i v w1 w2 hf hb
     split at hf
     ·exact hf.below hb
     ·exact (let ⟨x,h1,h2⟩:=hf; ⟨x,h1,h2.below hb⟩)
     ·exact (let ⟨x,h1,h2⟩:=hf; ⟨x,h1,h2.below hb⟩)
     ·exact hf.below hb
     ·exact hf.below hb
     ·trivial
    ·simp only [Duties,Nat.reduceAdd]
     refine ⟨?_,?_,?_,?_,?_,?_,?_,?_,?_,?_,?_,?_,?_,?_,?_,?_,?_,trivial⟩
     all_goals intro D sp w' hD hW hdp hbx'
     case refine_3 =>
      have hni:¬ n <= i:=Nat.not_le.2 HIN.out
      with_reducible refine asked_pl ?_ ?_
      all_goals simp [Region.wanted,yielded,execOp,Act.eval,Act.put,go_sem,hni]
     case refine_4 =>
      have c0:w'.cell? ⟨bp,op + i,none⟩=some (.slice qz mz dz):=(hbx'.cell (p:=⟨bp,op + i,none⟩) HBX.out).trans HCZ.out
      with_reducible refine asked_pl ?_ ?_
      all_goals simp [Region.wanted,yielded,execOp,Act.eval,Act.put,go_sem,c0]
     case refine_7 =>
      have hni:¬ n <= k:=Nat.not_le.2 HKN.out
      with_reducible refine asked_pl ?_ ?_
      all_goals simp [Region.wanted,yielded,execOp,Act.eval,Act.put,go_sem,hni]
     case refine_8 =>
      have c0:w'.cell? ⟨bp,op + k,none⟩=some (.slice qa ma da):=(hbx'.cell (p:=⟨bp,op + k,none⟩) HBX.out).trans HCA.out
      with_reducible refine asked_pl ?_ ?_
      all_goals simp [Region.wanted,yielded,execOp,Act.eval,Act.put,go_sem,c0]
     case refine_10 =>
      (with_reducible refine asked_call (w1:=w') (f := 82) (args:=#[.slice qz mz dz,.slice qa ma da,.slice pq nq cq]) ?_ ?_ ?_)
      ·simp [Region.wanted,yielded,Act.put,go_sem]
      ·simp [Act.eval,Act.put,go_sem]
      ·refine (dsub_fit (RBits.of (HZ.out.below hbx')) (RBits.of (HA.out.below hbx')) (HQ.out.below hbx') HLZ.out HLA.out HLQ.out HQ2.out).mono ?_
       rintro en w9 ⟨u,rfl,hu,hb⟩
       rw [hSS] at hu
       exact ⟨u,rfl,hb,hu,bstep hbx' hb⟩
     case refine_12 =>
      have k9:RBits (SS) (sp 9) w':=(hdp 9 (mq (by kernel_rfl))).2
      (with_reducible refine asked_call (w1:=w') (f := 81) (args:=#[sp 9,.slice pq nq cq]) ?_ ?_ ?_)
      ·simp [Region.wanted,yielded,Act.put,go_sem]
      ·simp [Act.eval,Act.put,go_sem]
      ·refine (dinv_calls k9 (HQ.out.below hbx') HQ2.out HLS.out HLQ.out).mono ?_
       rintro en w9 ⟨u,X9,B9,rfl,hu,hB9,hX9,hb⟩
       have hg:=HGC.out
       have hB:B9=true:=hB9.2 hg
       have hI:=HII.out X9 (hX9 hg)
       subst hB
       rw [hI] at hu
       exact ⟨_,rfl,hb,⟨u,rfl,hu⟩,bstep hbx' hb⟩
     case refine_13 =>
      have k11:∃ x,sp 11=.tuple #[x,.bool true] /\ RBits II x w':=(hdp 11 (mq (by kernel_rfl))).2
      (with_reducible refine asked_value (w1:=w') (v:=sp 11) ?_ ?_ ?_)
      ·simp [Region.wanted,yielded,Act.put,go_sem]
      ·simp [execOp,Act.eval,Act.put,go_sem]
      ·exact ⟨Below.refl _ _,k11,hbx'⟩
     case refine_14 =>
      have k12:∃ x,sp 12=.tuple #[x,.bool true] /\ RBits II x w':=(hdp 12 (mq (by kernel_rfl))).2
      (with_reducible refine Exists.elim k12 fun x hx=>?_)
      have h1:=hx.1
      (with_reducible refine asked_value (w1:=w') (v:=x) ?_ ?_ ?_)
      ·simp [Region.wanted,yielded,Act.put,go_sem]
      ·simp [execOp,Act.eval,Act.put,go_sem,h1]
      ·exact ⟨Below.refl _ _,hx.2,hbx'⟩
     case refine_15 =>
      have k12:∃ x,sp 12=.tuple #[x,.bool true] /\ RBits II x w':=(hdp 12 (mq (by kernel_rfl))).2
      (with_reducible refine Exists.elim k12 fun x hx=>?_)
      have h1:=hx.1
      with_reducible refine asked_pl ?_ ?_
      all_goals simp [Region.wanted,yielded,execOp,Act.eval,Act.put,go_sem,h1]
     case refine_16 =>
      have k13:RBits II (sp 13) w':=(hdp 13 (mq (by kernel_rfl))).2
      (with_reducible refine asked_value (w1:=w') (v:=sp 13) ?_ ?_ ?_)
      ·simp [Region.wanted,yielded,Act.put,go_sem]
      ·simp [execOp,Act.eval,Act.put,go_sem]
      ·exact ⟨Below.refl _ _,k13,hbx'⟩
     all_goals ((with_reducible refine asked_pl ?_ ?_); all_goals first | (simp only [Region.wanted]; done) | simp [Region.wanted,yielded,execOp,Act.eval,Act.put,go_sem])
    ·intro sp w7 hsp hbx'
     have hk15:RBits II (sp 15) w7:=hsp 15 rfl
     obtain ⟨qi,mi,di,e15,hi7⟩:=hk15
     have HI7:=hol (RBits.of hi7)
     have HBx:=hol hbx'
     have hca:w7.cell? ⟨bp,op + k,none⟩=some (.slice qa ma da):=(hbx'.cell (p:=⟨bp,op + k,none⟩) HBX.out).trans HCA.out
     clear hsp hbx' hSS hi7
     simp only [frameOf,Nat.reduceAdd]
     rw [e15]
     generalize sp 9=y9,sp 11=y11,sp 12=y12,sp 13=y13 at *
     clear e15
     go_simp
     have hni:¬ n <= k:=Nat.not_le.2 HKN.out
     go_wp2_with fail
     refine (dsub_fit ((HXw.out.below HBr.out).below HBx.out) (RBits.of (HA.out.below HBx.out)) (HQ.out.below HBx.out) HLX.out HLA.out HLQ.out HQ2.out).mono ?_
     rintro en w8 ⟨_,rfl,⟨q8,m8,d8,rfl,h8⟩,hb8⟩
     have H8:=hol (RBits.of h8)
     have HB8:=hol (bstep HBx.out hb8)
     have HI8:=hol (HI7.out.below hb8)
     have HL8:Hold (blen (subM X A q) <= 100000):=⟨Nat.le_trans (blen_mono (Nat.le_of_lt (subM_lt HQ2.out))) HLQ.out⟩
     have HLI:Hold (blen II <= 100000):=⟨Nat.le_trans (blen_mono (Nat.le_of_lt HIl.out)) HLQ.out⟩
     clear h8 hb8
     go_wp2_with fail
     refine (dmul_fit H8.out HI8.out (HQ.out.below HB8.out) HL8.out HLI.out HLQ.out (by have:=HQ2.out; omega)).mono ?_
     rintro en w9 ⟨_,rfl,⟨q9,m9,d9,rfl,h9⟩,hb9⟩
     have H9:=hol (RBits.of h9)
     have HB9:=hol (bstep HB8.out hb9)
     have HL9:Hold (blen (subM X A q * II % q) <= 100000):=⟨Nat.le_trans (blen_mono (Nat.le_of_lt (Nat.mod_lt _ (by have:=HQ2.out; omega)))) HLQ.out⟩
     have HLo:Hold (blen o <= 100000):=⟨Nat.le_trans (blen_mono (Nat.le_of_lt HOq.out)) HLQ.out⟩
     clear h9 hb9
     go_wp2_with fail
     refine (dmul_fit (HO.out.below HB9.out) H9.out (HQ.out.below HB9.out) HLo.out HL9.out HLQ.out (by have:=HQ2.out; omega)).mono ?_
     rintro en wb ⟨_,rfl,⟨qb,mb,db,rfl,hb⟩,hbb⟩
     have HOb:=hol (RBits.of hb)
     have HBb:=hol (bstep HBr.out (bstep HB9.out hbb))
     have HOl:Hold (o * (subM X A q * II % q) % q < q):=⟨Nat.mod_lt _ (by have:=HQ2.out; omega)⟩
     clear hb hbb
     go_wp2
     go_roundw
     case rel=>exact ⟨k + 1,_,by omega,by go_num,HOb,HOl,HW',HBb⟩
     case measure=>simp [intOf]; omega
  ·obtain rfl:k=n:=by omega
   have hkn':¬ (k:Int) < k:=by omega
   have HoW:Hold (o % q=WW):=⟨by
    have h:=HWk.out
    rw [lefts_end HLN.out HIN.out] at h
    have h2:o=WW:=h
    rw [<- h2]
    exact Nat.mod_eq_of_lt HOq.out⟩
   have HLo:Hold (blen o <= 900000):=⟨Nat.le_trans (blen_mono (Nat.le_of_lt HOq.out)) (Nat.le_trans HLQ.out (by decide))⟩
   go_wp2_with fail
   refine (dof_fit HO.out (HQw.out.below HBr.out) HLo.out (Nat.le_trans HLQ.out (by decide)) (by have:=HQ2.out; omega)).mono ?_
   rintro en w8 ⟨_,rfl,⟨q8,m8,d8,rfl,h8⟩,hb8⟩
   rw [HoW.out] at h8
   have H8:=hol (RBits.of h8)
   have HB8:=hol (bstep HBr.out hb8)
   clear h8 hb8
   go_wp2
   go_ret
   exact ⟨_,rfl,H8.out,HB8.out⟩
end Go.Proofs.YtdebccghjbfgdaaGreatDoor
