/- The document's Asked: why there is no polynomial through places. -/
import Derived.Test.YtdebccghjbfgdaaGreatDoorCuN
set_option maxRecDepth 1000000
set_option maxHeartbeats 16000000
set_option linter.unusedSimpArgs false
set_option linter.unusedVariables false
namespace Go.Proofs.YtdebccghjbfgdaaGreatDoor
open Go Go.RowKit Go.Proofs.YtdebccghjbfgdaaGreatDoor.Flow
theorem num9_new {w:World} {p:Option Addr} {n c e N:Nat} (h1:NatAt w p n c N) (h2:N < B32 e) (he:e <= 200) :
  Calls Tryz.prog 31 #[.agg #[.slice p n c]] w fun en w'=>∃ q m d,en=.returned (.slice q m d) /\ BitsAt w' q m d N /\ Below w.heap.size w w' /\ New w.heap.size q:=by
 have hbx:=Box1.mk1 w (.slice p n c) 36
 have HF:=hol ((Fit.of h1 h2).below hbx.bel)
 have HB:=hol hbx.bel
 have hl:Hold (bsize N <= 1000):=⟨by
  have:blen N <= 32 * e:=(blen_le N _).2 (by
   have:B32 e=2 ^ (32 * e):=by unfold B32; rw [Nat.pow_mul]
   rw [<- this]; exact h2)
  unfold bsize
  omega⟩
 clear h1 h2 hbx
 go_enter Tryz.func31,Tryz.ntmps31
 go_wp2_with fail
 refine (least_fit HF.out (by omega)).mono ?_
 rintro en w1 ⟨_,rfl,⟨q,m,d,rfl,hr⟩,b1⟩
 have HR:Hold (RowIn w1 .u8 q m d (beOf N (bsize N))):=⟨⟨hr.len,hr.cap,hr.max,fun _=>hr⟩⟩
 have HM:Hold (m <= 1000):=⟨by rw [hr.len,beOf_length]; exact hl.out⟩
 have HB1:=hol (bstep HB.out b1)
 clear hr b1
 go_wp2_with fail
 refine (of_calls w1 q m d _ HR.out (leOf_bytes N _).reverse HM.out).mono ?_
 rintro en w2 ⟨x,y,z,rfl,hb,b2,hnw⟩
 rw [be_least] at hb
 have HN:=hol hb
 have HB2:=hol (bstep HB1.out b2)
 have HW:Hold (New w.heap.size x):=⟨fun q hq=>Nat.le_trans HB1.out.size (hnw q hq)⟩
 clear hb b2 hnw
 go_wp2
 go_ret
 exact ⟨_,_,_,rfl,HN.out,HB2.out,HW.out⟩
theorem cell_made (w:World) (t:TypeId) (u:Value):(w.alloc (.cells #[u] t)).cell? ⟨w.heap.size,0,none⟩=some u:=by
 have h:(w.alloc (.cells #[u] t)).heap[w.heap.size]? = some (.cells #[u] t (0,0)):=by
  show (w.heap.push _)[w.heap.size]? = _
  simp
 generalize w.alloc (.cells #[u] t)=w2 at h
 generalize w.heap.size=b at h
 simp [World.cell?,h]
theorem refs_calls {w:World} {p:Option Addr} {n c e:Nat} {xs:List Nat} (h:PList w e p n c xs) (he:e <= 200) (hn:n <= 1000) :
  Calls Tryz.prog 24 #[.slice p n c] w fun en w'=>∃ q d,en=.returned (.slice q n d) /\ NList w' q n d xs /\ Below w.heap.size w w':=by
 have HX:=hol h
 have HLn:=hol h.len
 have hcap:n <= c:=h.cap
 have hmax:c <= 9223372036854775807:=h.max
 clear h
 go_enter Tryz.func24,Tryz.ntmps24
 go_wp2
 go_loopw [3,5,8] (fun vv _ iv wr=>∃ (k:Nat) (bad:Nat -> Prop),k <= n /\ iv=.int .i64 k /\ Hold (Below w.heap.size w wr) /\ Hold (∀ g,bad g -> g < wr.heap.size) /\ Hold (OwnV BitsAt 28 w.heap.size bad wr vv (xs.take k)) /\ Hold (∀ g,vv.ownBlock=some g -> bad g)) (fun _ _ iv _=>n - (intOf iv).toNat)
 case atStart=>exact ⟨0,fun _=>False,by omega,rfl,⟨Below.refl _ _⟩,⟨fun _ h=>h.elim⟩,⟨OwnV.nil⟩,⟨fun g h=>by cases h⟩⟩
 case round =>
  obtain ⟨k,bad,hk,rfl,HB,HLT,HO,HV⟩:=hrel
  by_cases hkn:k < n
  ·obtain ⟨S,hSk⟩:∃ s,xs[k]? = some s:=⟨xs[k]'(by rw [<- HLn.out]; exact hkn),List.getElem?_eq_getElem _⟩
   obtain ⟨bb,off,rfl,hb,hc⟩:=HX.out.at_ (by omega)
   obtain ⟨px,nx,cx,hc1,hc2,hc3⟩:=hc k S hSk
   have hx:wr.cell? ⟨bb,off + k,none⟩=some (.slice px nx cx):=(HB.out.cell (p:=⟨bb,off + k,none⟩) hb).trans hc1
   have HTk:Hold (xs.take (k + 1)=xs.take k ++ [S]):=⟨snoc_take hSk⟩
   have HTl:Hold ((xs.take k).length <= 1000000):=⟨by rw [List.length_take]; omega⟩
   have HSU:Hold (S < B32 e):=⟨hc3⟩
   have hkn':(k:Int) < n:=by omega
   have hb2:Below wr.heap.size wr (wr.alloc (.cells #[.slice px nx cx] 36)):=bal
   have hx2:(wr.alloc (.cells #[.slice px nx cx] 36)).cell? ⟨wr.heap.size,0,none⟩=some (.slice px nx cx):=(NatBox.made wr (.slice px nx cx)).cell
   have HNX:Hold (NatAt (wr.alloc (.cells #[.slice px nx cx] 36)) px nx cx S):=⟨(hc2.below HB.out).below hb2⟩
   obtain ⟨w2,hw2⟩:∃ w2,wr.alloc (.cells #[.slice px nx cx] 36)=w2:=⟨_,rfl⟩
   rw [hw2] at hb2 hx2 HNX
   clear hc hSk hb hc1 hc2 hc3
   go_wp2_with fail
   refine (num9_new HNX.out HSU.out he).mono ?_
   rintro en w3 ⟨q,m,d,rfl,hn3,b3,hnew⟩
   have hb23:=bstep hb2 b3
   have hnew2:New wr.heap.size q:=fun a ha=>Nat.le_trans hb2.size (hnew a ha)
   have hb4:Below w3.heap.size w3 (w3.alloc (.cells #[.slice q m d] 28)):=bal
   have hx4:(w3.alloc (.cells #[.slice q m d] 28)).cell? ⟨w3.heap.size,0,none⟩=some (.slice q m d):=cell_made _ _ _
   obtain ⟨w4,hw4⟩:∃ w4,w3.alloc (.cells #[.slice q m d] 28)=w4:=⟨_,rfl⟩
   rw [hw4] at hb4 hx4
   have hb34:=bstep hb23 hb4
   have hB4:=bstep HB.out hb34
   have hfirm:Firm (fun w=>BitsAt w q m d S) bad w4:=bitsStands.fresh (hn3.below hb4) hnew2 HLT.out
   obtain ⟨i1,hi1,hz1,hs1,hbb1⟩:=info_parts Tryz.info_N
   refine (HO.out.below hb34).app2 (x:=(q,m,d)) Tryz.underlying47 hi1 hz1 hs1 hbb1 rfl (by decide) hB4.size hx4 hfirm HV.out (fun g hg=>Nat.lt_of_lt_of_le (HLT.out g hg) hb34.size) HTl.out 47 (c:=1) ?_
   intro v9 w9 bad9 happ ho9 hg9 m1 m2 m3 m4
   have HO9:=hol ho9
   have HB9:Hold (Below w.heap.size w w9):=⟨hB4.grown hg9 hB4.size fun g hg=>(HO.out.block g hg).1⟩
   have HLT9:=hol m4
   have HV9:=hol m3
   clear hb4 hx4 hb34 hb23 hB4 hfirm hi1 hz1 hs1 hbb1 ho9 hg9 m1 m2 m3 m4 b3 hn3 hnew hnew2 hb2 hx2
   go_wp2_with (at_builtin; refine Lib.wpList_append_run _ rfl _ _ _ _ rfl _ _ rfl rfl _ _ happ ?_; refine Paused.out ?_)
   refine ⟨?_⟩
   clear happ
   go_wp2
   go_roundw
   case rel=>exact ⟨k + 1,bad9,by omega,by go_num,HB9,HLT9,⟨by rw [HTk.out]; exact HO9.out⟩,HV9⟩
   case measure=>simp [intOf]; omega
  ·obtain rfl:k=n:=by omega
   have hkn':¬ (k:Int) < k:=by omega
   have htk:xs.take k=xs:=List.take_of_length_le (by rw [<- HLn.out]; exact Nat.le_refl _)
   rw [htk] at HO
   obtain ⟨q,d,rfl,hp⟩:=HO.out.nlist
   have HP:Hold (NList wr q k d xs):=⟨by have e:=HLn.out; rw [<- e] at hp; exact hp⟩
   have e9:xs.length=k:=HLn.out.symm
   rw [e9]
   clear htk hp e9
   go_wp2
   go_ret
   exact ⟨q,d,rfl,HP.out,HB.out⟩
theorem nodup_at {l:List Nat}:l.Nodup ↔ ∀ (i j A B:Nat),i < j -> l[i]? = some A -> l[j]? = some B -> A ≠ B:=by
 unfold List.Nodup
 rw [List.pairwise_iff_getElem]
 constructor
 ·intro h i j A B hij hi hj
  obtain ⟨h1,rfl⟩:=List.getElem?_eq_some_iff.1 hi
  obtain ⟨h2,rfl⟩:=List.getElem?_eq_some_iff.1 hj
  exact h i j h1 h2 hij
 ·intro h i j h1 h2 hij
  exact h i j _ _ hij (List.getElem?_eq_getElem h1) (List.getElem?_eq_getElem h2)
theorem nodup_mod {q:Nat} {xs:List Nat}:(xs.map fun x=>x % q).Nodup ↔ ∀ (i j A B:Nat),i < j -> xs[i]? = some A -> xs[j]? = some B -> A % q ≠ B % q:=by
 rw [nodup_at]
 constructor
 ·intro h i j A B hij hi hj
  exact h i j _ _ hij (by rw [List.getElem?_map,hi]; rfl) (by rw [List.getElem?_map,hj]; rfl)
 ·intro h i j A B hij hi hj
  rw [List.getElem?_map] at hi hj
  cases h1:xs[i]? with
  | none=>rw [h1] at hi; cases hi
  | some x =>
   cases h2:xs[j]? with
   | none=>rw [h2] at hj; cases hj
   | some y =>
    rw [h1] at hi; rw [h2] at hj
    cases hi; cases hj
    exact h i j x y hij h1 h2
theorem dasked_calls {w:World} {q n c V:Nat} {p:Option Addr} {vq:Value} {xs:List Nat} (hQ:RBits q vq w) (h:NList w p n c xs) (hq:2 <= q) (hl:blen q <= 100000) (hx:∀ x ∈ xs,blen x <= 100000) (hn:n <= 12) (hV:V <= 1000000) :
  Calls Tryz.prog 23 #[vq,.slice p n c,.int .i64 V] w fun en w'=>en=.returned (.int .i64 (faultN q n V xs:Nat)) /\ Below w.heap.size w w':=by
 have HQw:=hol hQ
 have HP:=hol h
 have HLX:=hol hx
 have HLQ:Hold (blen q <= 900000):=⟨by omega⟩
 have HQ0:Hold (0 < q):=⟨by omega⟩
 have hcap:n <= c:=h.cap
 have hmax:c <= 9223372036854775807:=h.max
 have HLN:=hol h.len
 obtain ⟨pq,nq,cq,rfl⟩:∃ pq nq cq,vq=.slice pq nq cq:=let ⟨a,b,d,e1,_⟩:=hQ; ⟨a,b,d,e1⟩
 clear hQ h hx hl hq
 unfold faultN
 by_cases h0:n=0
 ·subst h0
  rw [if_pos rfl]
  go_enter Tryz.func23,Tryz.ntmps23
  go_wp2
  go_ret
  exact ⟨rfl,Below.refl _ _⟩
 rw [if_neg h0]
 have h0':((n:Int) == 0)=false:=by rw [beq_eq_false_iff_ne]; omega
 by_cases h1:n=V
 ·subst h1
  have h1':((n:Int) != n)=false:=by simp
  have h2:¬ (n ≠ n):=fun h=>h rfl
  rw [if_neg h2]
  have HH:Hold (1 <= n):=⟨by omega⟩
  clear h2 hV
  obtain ⟨D,hD⟩:∃ D,decide (xs.map fun x=>x % q).Nodup=D:=⟨_,rfl⟩
  have HD:=hol hD
  have HE:Hold ((if (xs.map fun x=>x % q).Nodup then 0 else 11)=if D then 0 else 11):=⟨by
   rw [<- hD]
   by_cases hd:(xs.map fun x=>x % q).Nodup
   ·rw [if_pos hd,decide_eq_true hd]; rfl
   ·rw [if_neg hd,decide_eq_false hd]; rfl⟩
  rw [HE.out]
  clear hD HE h0
  go_enter Tryz.func23,Tryz.ntmps23
  go_wp2
  go_loopw [7,8,18] (fun _ _ iv wr=>∃ k:Nat,k <= n /\ iv=.int .i64 k /\ Hold (∀ (b:Nat),b < k -> ∀ (a A B:Nat),a < b -> xs[a]? = some A -> xs[b]? = some B -> A % q ≠ B % q) /\ Hold (Below w.heap.size w wr)) (fun _ _ iv _=>n - (intOf iv).toNat)
  case atStart=>exact ⟨0,by omega,rfl,⟨fun b h=>by omega⟩,⟨Below.refl _ _⟩⟩
  case round =>
   obtain ⟨k,hk,rfl,HO,HBr⟩:=hrel
   by_cases hkn:k < n
   ·have hkn':(k:Int) < n:=by omega
    have HKN:=hol hkn
    obtain ⟨A,hAk⟩:∃ A,xs[k]? = some A:=⟨xs[k]'(by rw [<- HLN.out]; exact hkn),List.getElem?_eq_getElem _⟩
    have HAk:=hol hAk
    have HLA:Hold (blen A <= 900000):=⟨Nat.le_trans (HLX.out A (List.mem_of_getElem? hAk)) (by decide)⟩
    clear hAk
    obtain ⟨wA,hwA⟩:∃ x,x=wr:=⟨_,rfl⟩
    subst hwA
    go_wp2
    go_loopw [8] (fun jv wq=>∃ j:Nat,j <= k /\ jv=.int .i64 j /\ Hold (∀ (a B:Nat),a < j -> xs[a]? = some B -> B % q ≠ A % q) /\ Hold (Below wA.heap.size wA wq)) (fun jv _=>k - (intOf jv).toNat)
    case atStart=>exact ⟨0,by omega,rfl,⟨fun a B h=>by omega⟩,⟨Below.refl _ _⟩⟩
    case round =>
     obtain ⟨j,hj,rfl,HJ,HBq⟩:=hrel
     by_cases hjk:j < k
     ·have hjk':(j:Int) < k:=by omega
      have HJK:=hol hjk
      have HJN:Hold (j < n):=⟨by omega⟩
      obtain ⟨B,hBj⟩:∃ B,xs[j]? = some B:=⟨xs[j]'(by rw [<- HLN.out]; omega),List.getElem?_eq_getElem _⟩
      have HBj:=hol hBj
      have HLB:Hold (blen B <= 900000):=⟨Nat.le_trans (HLX.out B (List.mem_of_getElem? hBj)) (by decide)⟩
      have HLM1:Hold (blen (A % q) <= 1000000):=⟨Nat.le_trans (blen_mono (Nat.mod_le _ _)) (Nat.le_trans HLA.out (by decide))⟩
      have HLM2:Hold (blen (B % q) <= 1000000):=⟨Nat.le_trans (blen_mono (Nat.mod_le _ _)) (Nat.le_trans HLB.out (by decide))⟩
      have HBt:Hold (Below w.heap.size w wr):=⟨bstep HBr.out HBq.out⟩
      have HQ:Hold (RBits q (.slice pq nq cq) wr):=⟨HQw.out.below HBt.out⟩
      obtain ⟨bp,op,rfl,hbp,hcp⟩:=(HP.out.below HBt.out).at_ (by omega)
      obtain ⟨qa,ma,da,ca1,ca2⟩:=hcp k A HAk.out
      obtain ⟨qb,mb,db,cb1,cb2⟩:=hcp j B HBj.out
      have HBX:Hold (bp < wr.heap.size):=⟨hbp⟩
      have HCA:Hold (wr.cell? ⟨bp,op + k,none⟩=some (.slice qa ma da)):=⟨ca1⟩
      have HCB:Hold (wr.cell? ⟨bp,op + j,none⟩=some (.slice qb mb db)):=⟨cb1⟩
      have HA:=hol ca2
      have HB9:=hol cb2
      obtain ⟨EE,hEE⟩:∃ b,(cmpI (A % q) (B % q) == 0)=b:=⟨_,rfl⟩
      have HEE:Hold (EE=decide (A % q=B % q)):=⟨by
       rw [<- hEE]
       by_cases he:A % q=B % q
       ·rw [cmpI_zero.2 he,decide_eq_true he]; rfl
       ·rw [decide_eq_false he,beq_eq_false_iff_ne]; exact fun h=>he (cmpI_zero.1 h)⟩
      clear hbp hcp ca1 ca2 cb1 cb2 hBj
      go_wp2
      refine wp_region_duties (by kernel_rfl) (by kernel_rfl)
       [some (.slice (some ⟨bp,op,none⟩) n c),some (.int .i64 (k:Nat)),some (.pointer (some ⟨bp,op + k,none⟩)),some (.slice qa ma da),some (.slice pq nq cq),none,some (.slice (some ⟨bp,op,none⟩) n c),some (.int .i64 (j:Nat)),some (.pointer (some ⟨bp,op + j,none⟩)),some (.slice qb mb db),some (.slice pq nq cq),none,none,some (.bool EE)]
       [false,false,false,false,false,true,false,false,false,false,false,true,true,false] rfl
       (fun w1 w2=>Below w1.heap.size w1 w2)
       (fun _ w'=>Below wr.heap.size wr w')
       (fun i v w'=>match i with
        | 5=>RBits (A % q) v w'
        | 11=>RBits (B % q) v w'
        | 12=>v=.int .i64 (cmpI (A % q) (B % q))
        | _=>True)
       ?_ (Below.refl _ _).drew ?_ ?_
      ·intro i v w1 w2 hf hb
       split at hf
       ·exact hf.below hb
       ·exact hf.below hb
       ·exact hf
       ·trivial
      ·simp only [Duties,Nat.reduceAdd]
       refine ⟨?_,?_,?_,?_,?_,?_,?_,?_,?_,?_,?_,?_,?_,?_,trivial⟩
       all_goals intro D sp w' hD hW hdp hbx'
       case refine_3 =>
        have hni:¬ n <= k:=Nat.not_le.2 HKN.out
        with_reducible refine asked_pl ?_ ?_
        all_goals simp [Region.wanted,yielded,execOp,Act.eval,Act.put,go_sem,hni]
       case refine_4 =>
        have c0:w'.cell? ⟨bp,op + k,none⟩=some (.slice qa ma da):=(hbx'.cell (p:=⟨bp,op + k,none⟩) HBX.out).trans HCA.out
        with_reducible refine asked_pl ?_ ?_
        all_goals simp [Region.wanted,yielded,execOp,Act.eval,Act.put,go_sem,c0]
       case refine_6 =>
        (with_reducible refine asked_call (w1:=w') (f := 72) (args:=#[.slice qa ma da,.slice pq nq cq]) ?_ ?_ ?_)
        ·simp [Region.wanted,yielded,Act.put,go_sem]
        ·simp [Act.eval,Act.put,go_sem]
        ·refine (dof_fit (RBits.of (HA.out.below hbx')) (HQ.out.below hbx') HLA.out HLQ.out HQ0.out).mono ?_
         rintro en w9 ⟨u,rfl,hu,hb⟩
         exact ⟨u,rfl,hb,hu,bstep hbx' hb⟩
       case refine_9 =>
        have hni:¬ n <= j:=Nat.not_le.2 HJN.out
        with_reducible refine asked_pl ?_ ?_
        all_goals simp [Region.wanted,yielded,execOp,Act.eval,Act.put,go_sem,hni]
       case refine_10 =>
        have c0:w'.cell? ⟨bp,op + j,none⟩=some (.slice qb mb db):=(hbx'.cell (p:=⟨bp,op + j,none⟩) HBX.out).trans HCB.out
        with_reducible refine asked_pl ?_ ?_
        all_goals simp [Region.wanted,yielded,execOp,Act.eval,Act.put,go_sem,c0]
       case refine_12 =>
        (with_reducible refine asked_call (w1:=w') (f := 72) (args:=#[.slice qb mb db,.slice pq nq cq]) ?_ ?_ ?_)
        ·simp [Region.wanted,yielded,Act.put,go_sem]
        ·simp [Act.eval,Act.put,go_sem]
        ·refine (dof_fit (RBits.of (HB9.out.below hbx')) (HQ.out.below hbx') HLB.out HLQ.out HQ0.out).mono ?_
         rintro en w9 ⟨u,rfl,hu,hb⟩
         exact ⟨u,rfl,hb,hu,bstep hbx' hb⟩
       case refine_13 =>
        have k5:RBits (A % q) (sp 5) w':=(hdp 5 (mq (by kernel_rfl))).2
        have k11:RBits (B % q) (sp 11) w':=(hdp 11 (mq (by kernel_rfl))).2
        (with_reducible refine asked_call (w1:=w') (f := 56) (args:=#[sp 5,sp 11]) ?_ ?_ ?_)
        ·simp [Region.wanted,yielded,Act.put,go_sem]
        ·simp [Act.eval,Act.put,go_sem]
        ·refine (rcmp_fit k5 k11 HLM1.out HLM2.out).mono ?_
         rintro en w9 ⟨u,rfl,rfl,hb⟩
         exact ⟨_,rfl,hb,rfl,bstep hbx' hb⟩
       case refine_14 =>
        have k12:(sp 12)=.int .i64 (cmpI (A % q) (B % q)):=(hdp 12 (mq (by kernel_rfl))).2
        with_reducible refine asked_pl ?_ ?_
        all_goals simp [Region.wanted,yielded,execOp,Act.eval,Act.put,go_sem,k12,hEE]
       all_goals ((with_reducible refine asked_pl ?_ ?_); all_goals first | (simp only [Region.wanted]; done) | simp [Region.wanted,yielded,execOp,Act.eval,Act.put,go_sem])
      ·intro sp w7 hsp hbx'
       have HBe:=hol (bstep HBq.out hbx')
       clear hsp hbx' hEE
       simp only [frameOf,Nat.reduceAdd]
       generalize sp 5=y5,sp 11=y11,sp 12=y12 at *
       go_simp
       by_cases he:A % q=B % q
       ·have hE:EE=true:=by rw [HEE.out,decide_eq_true he]
        have HF:Hold (D=false):=⟨by
         rw [<- HD.out]
         exact decide_eq_false fun h=>nodup_mod.1 h j k B A HJK.out HBj.out HAk.out he.symm⟩
        have HBw:=hol (bstep HBr.out HBe.out)
        subst hE
        have hF:=HF.out
        subst hF
        clear HEE HF HD
        go_wp2
        go_ret
        exact ⟨rfl,HBw.out⟩
       ·have hE:EE=false:=by rw [HEE.out,decide_eq_false he]
        have HJ':Hold (∀ (a B:Nat),a < j + 1 -> xs[a]? = some B -> B % q ≠ A % q):=⟨fun a B2 ha hB2=>by
         rcases (by omega:a < j ∨ a=j) with h | rfl
         ·exact HJ.out a B2 h hB2
         ·intro e
          rw [HBj.out] at hB2
          cases hB2
          exact he e.symm⟩
        subst hE
        clear HEE he
        go_wp2
        go_roundw
        case rel=>exact ⟨j + 1,by omega,by go_num,HJ',HBe⟩
        case measure=>simp [intOf]; omega
     ·obtain rfl:j=k:=by omega
      have hjk':¬ (j:Int) < j:=by omega
      have HO':Hold (∀ (b:Nat),b < j + 1 -> ∀ (a A B:Nat),a < b -> xs[a]? = some A -> xs[b]? = some B -> A % q ≠ B % q):=⟨fun b hb a A2 B2 hab h2 h3=>by
       rcases (by omega:b < j ∨ b=j) with h | rfl
       ·exact HO.out b h a A2 B2 hab h2 h3
       ·rw [HAk.out] at h3
        cases h3
        exact HJ.out a A2 hab h2⟩
      have HBw:=hol (bstep HBr.out HBq.out)
      go_wp2
      go_roundw
      case rel=>exact ⟨j + 1,by omega,by go_num,HO',HBw⟩
      case measure=>simp [intOf]; omega
   ·obtain rfl:k=n:=by omega
    have hkn':¬ (k:Int) < k:=by omega
    have HF:Hold (D=true):=⟨by
     rw [<- HD.out]
     refine decide_eq_true (nodup_mod.2 fun i j A B hij hi hj=>?_)
     have hjn:j < k:=by
      have:=(List.getElem?_eq_some_iff.1 hj).1
      rw [HLN.out]; exact this
     exact HO.out j hjn i A B hij hi hj⟩
    have hF:=HF.out
    subst hF
    clear HF HD
    go_wp2
    go_ret
    exact ⟨rfl,HBr.out⟩
 ·rw [if_pos h1]
  have h1':((V:Int) != n)=true:=by rw [bne_iff_ne]; omega
  clear h1
  go_enter Tryz.func23,Tryz.ntmps23
  go_wp2
  go_ret
  exact ⟨rfl,Below.refl _ _⟩
end Go.Proofs.YtdebccghjbfgdaaGreatDoor
