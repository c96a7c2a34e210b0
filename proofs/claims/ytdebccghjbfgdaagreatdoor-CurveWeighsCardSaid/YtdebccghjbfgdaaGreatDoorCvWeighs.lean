/- CurveWeighs, walked. -/
import Derived.Test.YtdebccghjbfgdaaGreatDoorDcC
set_option maxRecDepth 1000000
set_option maxHeartbeats 16000000
set_option linter.unusedSimpArgs false
set_option linter.unusedVariables false
namespace Go.Proofs.YtdebccghjbfgdaaGreatDoor
open Go Go.RowKit Go.Proofs.YtdebccghjbfgdaaGreatDoor.Flow
theorem hor11:horQ 101 2 [3,2,1]=11:=by decide
theorem lives10_calls (w:World) (hr:Tabs w) :
  Calls Tryz.prog 14 #[] w fun e w'=>e=.returned (.bool true) /\ Below w.heap.size w w':=by
 have HF:=hol (field_calls w 0 hr)
 clear hr
 go_enter Tryz.func14,Tryz.ntmps14
 go_wp2_with fail
 refine HF.out.mono ?_
 rintro en w1 ⟨r,rfl,hr,hb1⟩
 have hr':Ring w1 r 101 33:=hr
 obtain ⟨W1,hW1⟩:∃ W,w1.alloc (.cells #[.int .u64 3,.int .u64 2,.int .u64 1] 23)=W:=⟨_,rfl⟩
 have hbw:Below w1.heap.size w1 W1:=by rw [<- hW1]; exact (Below.refl _ _).alloc (Nat.le_refl _) _
 have hnew:W1.heap[w1.heap.size]? = some (.cells #[.int .u64 3,.int .u64 2,.int .u64 1] 23 (0,0)):=by rw [<- hW1]; exact heap_alloc_new w1 _
 have hrow:RowIn W1 .u64 (some ⟨w1.heap.size,0,none⟩) 3 3 [3,2,1]:=⟨rfl,Nat.le_refl _,by decide,fun _=>⟨rfl,Nat.le_refl _,by decide,.inr ⟨w1.heap.size,0,rfl,(Array.getElem?_eq_some_iff.1 hnew).1,fun i x hx=>by
  match i,hx with
  | 0,hx=>simp at hx; subst hx; simp [World.cell?,hnew]
  | 1,hx=>simp at hx; subst hx; simp [World.cell?,hnew]
  | 2,hx=>simp at hx; subst hx; simp [World.cell?,hnew]
  | i + 3,hx=>simp at hx⟩⟩⟩
 have HN:=hol (nums_calls W1 _ 3 3 [3,2,1] hrow (fun x hx=>by simp at hx; unfold U64; omega) (by decide))
 have HR1:=hol (hr'.below hbw)
 have HB1:=hol (bstep hb1 hbw)
 clear hr hr' hbw hnew hrow hb1 HF
 go_wp2_with fail
 refine HN.out.mono ?_
 rintro en w2 ⟨p,c,rfl,hp,hb2⟩
 have HR2:=hol (HR1.out.below hb2)
 have HP2:=hol hp
 have HB2:=hol (bstep HB1.out hb2)
 clear hp hb2 HR1 HB1 HN hW1
 go_wp2_with fail
 refine (two_fit w2).mono ?_
 rintro en w3 ⟨x3,rfl,h3,b3⟩
 have HE:=hol (eval_fit (HR2.out.below b3) (HP2.out.below b3) h3 (by decide) (by decide) (by decide))
 have HB3:=hol (bstep HB2.out b3)
 clear h3 b3 HR2 HP2 HB2
 go_wp2_with fail
 refine HE.out.mono ?_
 rintro en w4 ⟨x4,rfl,h4,b4⟩
 rw [hor11] at h4
 have H4:=hol h4
 have HB4:=hol (bstep HB3.out b4)
 clear h4 b4 HE HB3
 go_wp2_with fail
 refine (newnat_fit (n:=11) w4 (by omega)).mono ?_
 rintro en w5 ⟨x5,rfl,h5,b5⟩
 have HC:=hol (cmp_fitK (H4.out.below b5) h5 (by decide) (by decide) (cmpI_zero.2 rfl))
 have HB5:=hol (bstep HB4.out b5)
 clear h5 b5 H4 HB4
 go_wp2_with fail
 refine HC.out.mono ?_
 rintro en w6 ⟨_,rfl,rfl,b6⟩
 have HB6:=hol (bstep HB5.out b6)
 clear b6 HC HB5
 go_wp2
 go_ret
 exact ⟨rfl,HB6.out⟩
theorem subM_self (x q:Nat):subM x x q=0:=by unfold subM; rw [if_pos (Nat.le_refl _)]; omega
theorem docW_nought (q x z:Nat):∀ l:List Nat,docW q x z 0 l=0
 | []=>rfl
 | a :: l=>by
  show docW q x z (0 * (subM x a q * invQ q (subM z a q) % q) % q) l=0
  rw [Nat.zero_mul,Nat.zero_mod]
  exact docW_nought q x z l
theorem docW_zero {q x z:Nat}:∀ (l:List Nat) (o:Nat),x ∈ l -> docW q x z o l=0
 | a :: l,o,h=>by
  show docW q x z (o * (subM x a q * invQ q (subM z a q) % q) % q) l=0
  rcases List.mem_cons.1 h with rfl | h
  ·rw [subM_self,Nat.zero_mul,Nat.zero_mod,Nat.mul_zero,Nat.zero_mod]
   exact docW_nought q x z l
  ·exact docW_zero l _ h
theorem docW_own {q x:Nat} (hq:2 <= q):∀ (l:List Nat) (o:Nat),o < q -> (∀ a ∈ l,Nat.gcd q (subM x a q)=1) -> docW q x x o l=o
 | [],_,_,_=>rfl
 | a :: l,o,ho,h=>by
  show docW q x x (o * (subM x a q * invQ q (subM x a q) % q) % q) l=o
  have h1:=((invQ_is hq (subM x a q)).1 (h a (List.mem_cons_self ..))).2
  rw [Nat.mul_comm (subM x a q),h1,Nat.mod_eq_of_lt (show 1 < q by omega),Nat.mul_one,Nat.mod_eq_of_lt ho]
  exact docW_own hq l o ho fun b hb=>h b (List.mem_cons_of_mem _ hb)
theorem sub_apart {q x a:Nat} (hq:Prime q) (h:x % q ≠ a % q):Nat.gcd q (subM x a q)=1:=by
 have h2:2 <= q:=hq.1
 have hlt:subM x a q < q:=subM_lt h2
 have h0:subM x a q ≠ 0:=by
  have h3:=Nat.mod_lt a (show 0 < q by omega)
  have h4:=Nat.mod_lt x (show 0 < q by omega)
  unfold subM
  split <;> omega
 rcases hq.2 _ (Nat.gcd_dvd_left q (subM x a q)) with h | h
 ·exact h
 ·have:=Nat.le_of_dvd (by omega) (Nat.gcd_dvd_right q (subM x a q))
  omega
theorem place_is (n:Int) (m:Nat) (h1:1 <= m) (h2:m <= 1000):∃ k:Nat,wrap64 ((IntKind.u64.wrap n).tmod m)=(k:Int) /\ k < m:=by
 have h0:0 <= IntKind.u64.wrap n:=by rw [IntKind.wrap_u64]; omega
 rw [Int.tmod_eq_emod_of_nonneg h0]
 have h3:=Int.emod_nonneg (IntKind.u64.wrap n) (show (m:Int) ≠ 0 by omega)
 have h4:=Int.emod_lt_of_pos (IntKind.u64.wrap n) (show (0:Int) < m by omega)
 obtain ⟨k,hk⟩:=Int.eq_ofNat_of_zero_le h3
 refine ⟨k,?_,by omega⟩
 rw [hk]
 exact IntWalk.wrap64_in _ (by omega)
structure NLs (n:Nat) (xs:List Nat) (v:Value) (w:World):Prop where
 ex:∃ q d,v=.slice q n d /\ NList w q n d xs
theorem NLs.below {n:Nat} {xs:List Nat} {v:Value} {w w':World} (h:NLs n xs v w) (hb:Below w.heap.size w w'):NLs n xs v w' :=
 let ⟨q,d,h1,h2⟩:=h.ex; ⟨q,d,h1,h2.below hb⟩
theorem refs_fit {w:World} {p:Option Addr} {n c e:Nat} {xs:List Nat} (h:PList w e p n c xs) (he:e <= 200) (hn:n <= 1000) :
  Calls Tryz.prog 24 #[.slice p n c] w fun en w'=>∃ u,en=.returned u /\ NLs n xs u w' /\ Below w.heap.size w w' :=
 (refs_calls h he hn).mono fun _ _ ⟨q,d,h1,h2,h3⟩=>⟨_,h1,⟨q,d,rfl,h2⟩,h3⟩
theorem dweight_fit {w:World} {q n i X Z:Nat} {vq vx v:Value} {xs:List Nat} (hQ:RBits q vq w) (h:NLs n xs v w) (hX:RBits X vx w) (hq:2 <= q) (hl:blen q <= 100000) (hlX:blen X <= 100000) (hx:∀ x ∈ xs,blen x <= 100000) (hn:n <= 12) (hi:xs[i]? = some Z)
  (hu:∀ (k j a b:Nat),k ≠ j -> xs[k]? = some a -> xs[j]? = some b -> Nat.gcd q (subM a b q)=1) :
  Calls Tryz.prog 34 #[vq,v,.int .i64 i,vx] w fun en w'=>∃ u,en=.returned u /\ RBits (docW q X Z 1 (xs.take i ++ xs.drop (i + 1))) u w' /\ Below w.heap.size w w':=by
 obtain ⟨p,c,rfl,h2⟩:=h.ex
 exact dweight_calls hQ h2 hX hq hl hlX hx hn hi fun k a hk ha=>hu i k Z a (fun e=>hk e.symm) hi ha
theorem cweighs_calls (w:World) (hr:Tabs w) (A:Int) (p:Option Addr) (n c:Nat) (xs:List Nat) (h:RowIn w .u64 p n c xs) (h64:∀ x ∈ xs,U64 x) (X:Nat) (hX:U64 X) (AT:Int) :
  Calls Tryz.prog 4 #[.int .i64 A,.slice p n c,.int .u64 (X:Nat),.int .i64 AT] w fun e w'=>e=.returned (.bool true) /\ Below w.heap.size w w':=by
 have HLI:=hol lives10_calls
 have HFD:=hol field_calls
 have HT:=hol hr
 have HROW:=hol h
 have H64:=hol h64
 have HX:Hold (X < 18446744073709551616):=⟨hX⟩
 have HLX:Hold (blen X <= 100000):=⟨Nat.le_trans ((blen_le X 64).2 hX) (by decide)⟩
 have HXS:Hold (∀ x ∈ xs,blen x <= 100000):=⟨fun x hx=>Nat.le_trans ((blen_le x 64).2 (h64 x hx)) (by decide)⟩
 have HLN:=hol h.len
 have hnc:=h.cap
 have hcm:=h.max
 obtain ⟨i,hi⟩:∃ i,((IntKind.u64.wrap A) % 3).toNat=i:=⟨_,rfl⟩
 have HI3:Hold (i < 3):=⟨by rw [<- hi]; exact idx_lt A⟩
 have HI:=hol hi
 clear h h64 hr hX hi
 go_enter Tryz.func4,Tryz.ntmps4
 go_wp2_with fail
 refine (HLI.out w HT.out).mono ?_
 rintro en w1 ⟨rfl,b1⟩
 have B1:=hol b1
 clear b1
 by_cases hn12:6 < n
 ·have hn12':(6:Int) < n:=by omega
  go_wp2_with fail
  refine (HLI.out w1 (HT.out.below B1.out HT.out.size)).mono ?_
  rintro en w2 ⟨rfl,b2⟩
  have B2:=hol (bstep B1.out b2)
  clear b2
  go_wp2
  go_ret
  exact ⟨rfl,B2.out⟩
 have hn12':¬ (6:Int) < n:=by omega
 have HN6:Hold (n <= 1000):=⟨by omega⟩
 have HN12:Hold (n <= 12):=⟨by omega⟩
 go_wp2_with fail
 refine (HFD.out w1 A (HT.out.below B1.out HT.out.size)).mono ?_
 rintro en w2 ⟨r,rfl,hr2,b2⟩
 rw [HI.out] at hr2
 obtain ⟨q,hq⟩:∃ q,gQ i=q:=⟨_,rfl⟩
 have HQ:Hold (Prime q):=⟨by rw [<- hq]; exact gQ_prime i HI3.out⟩
 have HQ2:Hold (2 <= q):=⟨HQ.out.two⟩
 rw [hq] at hr2
 have HLQ:Hold (blen q <= 100000):=⟨by have:=blen33 hr2.lim; omega⟩
 have HR2:=hol hr2
 have B2:=hol (bstep B1.out b2)
 clear hr2 b2 hq
 go_wp2_with fail
 refine (modulus_fit HR2.out).mono ?_
 rintro en w3 ⟨_,rfl,⟨p3,n3,c3,rfl,h3,l3⟩,b3⟩
 have HM3:=hol h3
 have HL3:=hol l3
 have B3:=hol (bstep B2.out b3)
 have HR3:=hol (HR2.out.below b3)
 clear h3 l3 b3
 go_wp2_with fail
 refine (num9_new HM3.out HL3.out (by decide)).mono ?_
 rintro en w4 ⟨pq,nq,cq,rfl,hn4,b4,_⟩
 have HNQ4:=hol (RBits.of hn4)
 have B4:=hol (bstep B3.out b4)
 have HR4:=hol (HR3.out.below b4)
 clear hn4 b4
 go_wp2_with fail
 refine (nums_calls w4 p n c xs (HROW.out.below B4.out) H64.out HN6.out).mono ?_
 rintro en w5 ⟨p4,c4,rfl,hp5,b5⟩
 have HP5:=hol hp5
 have HR5:=hol (HR4.out.below b5)
 have HNQ5:=hol (HNQ4.out.below b5)
 have B5:=hol (bstep B4.out b5)
 have hnc4:=hp5.cap
 have hcm4:=hp5.max
 clear hp5 b5
 go_wp2_with fail
 refine (newnat_fit (n:=X) w5 HX.out).mono ?_
 rintro en w6 ⟨x,rfl,hx6,b6⟩
 have HW:=hol (weights_fit HQ.out (HR5.out.below b6) (HP5.out.below b6) hx6 (by decide) (by decide) HN12.out)
 have HR6:=hol (HR5.out.below b6)
 have HP6:=hol (HP5.out.below b6)
 have HNQ6:=hol (HNQ5.out.below b6)
 have B6:=hol (bstep B5.out b6)
 clear hx6 b6
 go_wp2_with fail
 refine HW.out.mono ?_
 rintro en w7 ⟨g1,g2,b7⟩
 have G1:=hol g1
 have G2:=hol g2
 have B7:=hol (bstep B6.out b7)
 have HR7:=hol (HR6.out.below b7)
 have HP7:=hol (HP6.out.below b7)
 have HNQ7:=hol (HNQ6.out.below b7)
 clear b7 HW g1 g2
 by_cases hd:faultN q n n xs=0
 ·obtain ⟨g,rfl,hp8⟩:=G2.out hd
  have HD:=hol hd
  have HPW:=hol hp8
  clear hd hp8 G1 G2
  go_wp2_with fail
  refine (refs_fit HP7.out (by decide) HN6.out).mono ?_
  rintro en w8 ⟨_,rfl,⟨p8,c8,rfl,hl8⟩,b8⟩
  have HL8:=hol hl8
  have B8:=hol b8
  clear hl8 b8
  go_wp2_with fail
  refine (dasked_calls (HNQ7.out.below B8.out) HL8.out HQ2.out HLQ.out HXS.out HN12.out (by have:=HN6.out; omega)).mono ?_
  rintro en w9 ⟨rfl,b9⟩
  rw [HD.out]
  have B9:=hol (bstep B8.out b9)
  have HR:=hol (HR7.out.below B9.out)
  have HP4:=hol (HP7.out.below B9.out)
  have HNQ:=hol (HNQ7.out.below B9.out)
  have HWS:=hol (HPW.out.below B9.out)
  have BB:=hol (bstep B7.out B9.out)
  have HU:Hold (∀ (k j a b:Nat),k ≠ j -> xs[k]? = some a -> xs[j]? = some b -> Nat.gcd q (subM a b q)=1):=⟨fun k j a b hkj ha hb=>by
   have hd:(xs.map fun x=>x % q).Nodup:=by
    have h:=HD.out
    unfold faultN at h
    by_cases h0:n=0
    ·rw [if_pos h0] at h; omega
    rw [if_neg h0,if_neg (fun h=>h rfl)] at h
    by_cases h1:(xs.map fun x=>x % q).Nodup
    ·exact h1
    ·rw [if_neg h1] at h; omega
   refine sub_apart HQ.out ?_
   rcases Nat.lt_or_gt_of_ne hkj with h | h
   ·exact nodup_mod.1 hd k j a b h ha hb
   ·exact fun e=>nodup_mod.1 hd j k b a h hb ha e.symm⟩
  clear b9 HR7 HP7 HNQ7 HPW B8 B9 B7 HL8
  go_wp2
  go_loopw [15,67] (fun _ iv wr=>∃ k:Nat,k <= n /\ iv=.int .i64 k /\ Hold (Below w9.heap.size w9 wr)) (fun _ iv _=>n - (intOf iv).toNat)
  case atStart=>exact ⟨0,by omega,rfl,⟨Below.refl _ _⟩⟩
  case round =>
   obtain ⟨k,hk,rfl,HBr⟩:=hrel
   by_cases hkn:k < n
   ·have hkn':(k:Int) < n:=by omega
    have HKN:=hol hkn
    obtain ⟨Z,hZk⟩:∃ Z,xs[k]? = some Z:=⟨xs[k]'(by rw [<- HLN.out]; exact hkn),List.getElem?_eq_getElem _⟩
    have HZk:=hol hZk
    have hWk:=weis_get q X xs [] k Z hZk
    rw [List.nil_append] at hWk
    obtain ⟨WW,hWW⟩:∃ W,docW q X Z 1 (xs.take k ++ xs.drop (k + 1))=W:=⟨_,rfl⟩
    rw [hWW] at hWk
    have HWW:=hol hWW
    obtain ⟨b2,off2,e2,hb2,hc2⟩:=HWS.out.at_ (by omega)
    simp only [Option.some.injEq,Addr.mk.injEq,and_true] at e2
    obtain ⟨rfl,rfl⟩:=e2
    obtain ⟨qy,my,dy,hy1,hy2,hy3⟩:=hc2 k WW hWk
    rw [Nat.zero_add] at hy1
    have HGX:Hold (g < wr.heap.size):=⟨Nat.lt_of_lt_of_le hb2 HBr.out.size⟩
    have HCW:Hold (wr.cell? ⟨g,k,none⟩=some (.slice qy my dy)):=⟨(HBr.out.cell (p:=⟨g,k,none⟩) hb2).trans hy1⟩
    have HFW:Hold (Fit 33 WW (.agg #[.slice qy my dy]) wr):=⟨(Fit.of hy2 hy3).below HBr.out⟩
    have HP4r:=hol (HP4.out.below HBr.out)
    have HNQr:=hol (HNQ.out.below HBr.out)
    clear hc2 hb2 hy1 hy2 hy3 hWk hWW hZk
    go_wp2
    refine wp_region_duties (by kernel_rfl) (by kernel_rfl)
     [some (.slice (some ⟨g,0,none⟩) n n),some (.int .i64 (k:Nat)),some (.pointer (some ⟨g,k,none⟩)),some (.agg #[.slice qy my dy]),some (.slice pq nq cq),some (.slice p4 n c4),none,some (.int .i64 (k:Nat)),some (.int .u64 (X:Nat)),none,none,none,some (.bool false)]
     [false,false,false,false,false,false,true,false,false,true,true,true,false] rfl
     (fun w1 w2=>Below w1.heap.size w1 w2)
     (fun _ w'=>Below wr.heap.size wr w')
     (fun i v w'=>match i with
      | 6=>NLs n xs v w'
      | 9=>RBits X v w'
      | 10=>RBits WW v w'
      | 11=>v=.bool true
      | _=>True)
     ?_ (Below.refl _ _).drew ?_ ?_
    ·intro i v w1 w2 hf hb
     split at hf
     ·exact hf.below hb
     ·exact hf.below hb
     ·exact hf.below hb
     ·exact hf
     ·trivial
    ·simp only [Duties,Nat.reduceAdd]
     refine ⟨?_,?_,?_,?_,?_,?_,?_,?_,?_,?_,?_,?_,?_,trivial⟩
     all_goals intro D sp w' hD hW hdp hbx'
     case refine_3 =>
      have hni:¬ n <= k:=Nat.not_le.2 HKN.out
      with_reducible refine asked_pl ?_ ?_
      all_goals simp [Region.wanted,yielded,execOp,Act.eval,Act.put,go_sem,hni]
     case refine_4 =>
      have c0:w'.cell? ⟨g,k,none⟩=some (.slice qy my dy):=(hbx'.cell (p:=⟨g,k,none⟩) HGX.out).trans HCW.out
      with_reducible refine asked_pl ?_ ?_
      all_goals simp [Region.wanted,yielded,execOp,Act.eval,Act.put,go_sem,c0]
     case refine_7 =>
      (with_reducible refine asked_call (w1:=w') (f := 24) (args:=#[.slice p4 n c4]) ?_ ?_ ?_)
      ·simp [Region.wanted,yielded,Act.put,go_sem]
      ·simp [Act.eval,Act.put,go_sem]
      ·refine (refs_fit (HP4r.out.below hbx') (by decide) HN6.out).mono ?_
       rintro en w9 ⟨u,rfl,hu,hb⟩
       exact ⟨u,rfl,hb,hu,bstep hbx' hb⟩
     case refine_10 =>
      (with_reducible refine asked_call (w1:=w') (f := 26) (args:=#[.int .u64 (X:Nat)]) ?_ ?_ ?_)
      ·simp [Region.wanted,yielded,Act.put,go_sem]
      ·simp [Act.eval,Act.put,go_sem]
      ·refine (small_calls X w' HX.out).mono ?_
       rintro en w9 ⟨q9,m9,d9,rfl,hu,hb,_⟩
       exact ⟨_,rfl,hb,RBits.of hu,bstep hbx' hb⟩
     case refine_11 =>
      have k6:NLs n xs (sp 6) w':=(hdp 6 (mq (by kernel_rfl))).2
      have k9:RBits X (sp 9) w':=(hdp 9 (mq (by kernel_rfl))).2
      (with_reducible refine asked_call (w1:=w') (f := 34) (args:=#[.slice pq nq cq,sp 6,.int .i64 (k:Nat),sp 9]) ?_ ?_ ?_)
      ·simp [Region.wanted,yielded,Act.put,go_sem]
      ·simp [Act.eval,Act.put,go_sem]
      ·refine (dweight_fit (HNQr.out.below hbx') k6 k9 HQ2.out HLQ.out HLX.out HXS.out HN12.out HZk.out HU.out).mono ?_
       rintro en w9 ⟨u,rfl,hu,hb⟩
       rw [HWW.out] at hu
       exact ⟨u,rfl,hb,hu,bstep hbx' hb⟩
     case refine_12 =>
      have k10:RBits WW (sp 10) w':=(hdp 10 (mq (by kernel_rfl))).2
      (with_reducible refine asked_call (w1:=w') (f := 27) (args:=#[.agg #[.slice qy my dy],sp 10]) ?_ ?_ ?_)
      ·simp [Region.wanted,yielded,Act.put,go_sem]
      ·simp [Act.eval,Act.put,go_sem]
      ·refine (same_fit' (HFW.out.below hbx') k10 (by decide)).mono ?_
       rintro en w9 ⟨u,rfl,rfl,hb⟩
       exact ⟨_,rfl,hb,rfl,bstep hbx' hb⟩
     case refine_13 =>
      have k11:(sp 11)=.bool true:=(hdp 11 (mq (by kernel_rfl))).2
      with_reducible refine asked_pl ?_ ?_
      all_goals simp [Region.wanted,yielded,execOp,Act.eval,Act.put,go_sem,k11]
     all_goals ((with_reducible refine asked_pl ?_ ?_); all_goals first | (simp only [Region.wanted]; done) | simp [Region.wanted,yielded,execOp,Act.eval,Act.put,go_sem])
    ·intro sp w7 hsp hbx'
     have HBx:=hol (bstep HBr.out hbx')
     clear hsp hbx'
     simp only [frameOf,Nat.reduceAdd]
     generalize sp 6=y6,sp 9=y9,sp 10=y10,sp 11=y11 at *
     go_simp
     go_wp2
     go_roundw
     case rel=>exact ⟨k + 1,by omega,by go_num,HBx⟩
     case measure=>simp [intOf]; omega
   ·obtain rfl:k=n:=by omega
    have hkn':¬ (k:Int) < k:=by omega
    have BBr:=hol (bstep BB.out HBr.out)
    have HRr:=hol (HR.out.below HBr.out)
    have HPr:=hol (HP4.out.below HBr.out)
    have HK0:Hold (1 <= k):=⟨by
     have h:=HD.out
     unfold faultN at h
     by_cases h0:k=0
     ·rw [if_pos h0] at h; omega
     ·omega⟩
    obtain ⟨J,hJ,hJk⟩:=place_is AT k HK0.out (by have:=HN6.out; omega)
    have hk0:¬ ((k:Int)=0):=by have:=HK0.out; omega
    have HJK:Hold (J < k):=⟨hJk⟩
    obtain ⟨Y,hYj⟩:∃ Z,xs[J]? = some Z:=⟨xs[J]'(by rw [<- HLN.out]; exact hJk),List.getElem?_eq_getElem _⟩
    have HYJ:=hol hYj
    obtain ⟨b4,o4,rfl,hb4,hc4⟩:=HPr.out.at_ (by have:=HK0.out; omega)
    obtain ⟨qj,mj,dj,hj1,hj2,hj3⟩:=hc4 J Y hYj
    have HFY:Hold (Fit 2 Y (.agg #[.slice qj mj dj]) wr):=⟨Fit.of hj2 hj3⟩
    have hnj:¬ k <= J:=Nat.not_le.2 hJk
    clear HBr HR HP4 HNQ HWS BB hc4 hb4 hj2 hj3 hYj
    go_wp2_with fail
    refine (weights_fit HQ.out HRr.out HPr.out HFY.out (by decide) (by decide) HN12.out).mono ?_
    rintro en wq ⟨_,g5,bq⟩
    obtain ⟨gw,rfl,hpq⟩:=g5 HD.out
    have HPQ:=hol hpq
    have BBq:=hol (bstep BBr.out bq)
    have HOWN:Hold (∀ (j:Nat),j < k -> (weis q Y [] xs)[j]? = some (if j=J then 1 else 0)):=⟨fun j hj=>by
     obtain ⟨Z,hZj⟩:∃ Z,xs[j]? = some Z:=⟨xs[j]'(by rw [<- HLN.out]; exact hj),List.getElem?_eq_getElem _⟩
     rw [weis_get q Y xs [] j Z hZj,List.nil_append]
     by_cases hjJ:j=J
     ·rw [if_pos hjJ]
      subst hjJ
      have e:=HYJ.out
      rw [hZj] at e
      cases e
      rw [docW_own HQ2.out _ 1 (by have:=HQ2.out; omega) fun a ha=>?_]
      rcases List.mem_append.1 ha with ha | ha
      ·obtain ⟨i,hi,e⟩:=List.getElem_of_mem ha
       rw [List.length_take] at hi
       rw [List.getElem_take] at e
       exact HU.out j i _ a (by omega) hZj (by rw [<- e]; exact List.getElem?_eq_getElem _)
      ·obtain ⟨i,hi,e⟩:=List.getElem_of_mem ha
       rw [List.length_drop] at hi
       rw [List.getElem_drop] at e
       exact HU.out j (j + 1 + i) _ a (by omega) hZj (by rw [<- e]; exact List.getElem?_eq_getElem _)
     ·rw [if_neg hjJ,docW_zero]
      obtain ⟨hl,e⟩:=List.getElem?_eq_some_iff.1 HYJ.out
      rcases Nat.lt_or_gt_of_ne hjJ with h | h
      ·refine List.mem_append_right _ ?_
       rw [<- e]
       have e2:(xs.drop (j + 1))[J - (j + 1)]? = some xs[J]:=by
        rw [List.getElem?_drop,show j + 1 + (J - (j + 1))=J by omega]; exact List.getElem?_eq_getElem _
       exact List.mem_of_getElem? e2
      ·refine List.mem_append_left _ ?_
       rw [<- e]
       have e2:(xs.take j)[J]? = some xs[J]:=by rw [List.getElem?_take,if_pos h]; exact List.getElem?_eq_getElem _
       exact List.mem_of_getElem? e2⟩
    have hnk:k <= 9223372036854775807:=by have:=HN6.out; omega
    clear bq hpq hj1 g5 HRr HPr HFY BBr
    go_wp2
    go_loopw [18,103] (fun _ iv wr=>∃ j:Nat,j <= k /\ iv=.int .i64 j /\ Hold (Below wq.heap.size wq wr)) (fun _ iv _=>k - (intOf iv).toNat)
    case atStart=>exact ⟨0,by omega,rfl,⟨Below.refl _ _⟩⟩
    case round =>
     obtain ⟨j,hj,rfl,HBr⟩:=hrel
     by_cases hjk:j < k
     ·have hjk':(j:Int) < k:=by omega
      have HJN:=hol hjk
      obtain ⟨b2,off2,e2,hb2,hc2⟩:=HPQ.out.at_ (by omega)
      simp only [Option.some.injEq,Addr.mk.injEq,and_true] at e2
      obtain ⟨rfl,rfl⟩:=e2
      obtain ⟨qy,my,dy,hy1,hy2,hy3⟩:=hc2 j _ (HOWN.out j hjk)
      rw [Nat.zero_add] at hy1
      have HGX:Hold (gw < wr.heap.size):=⟨Nat.lt_of_lt_of_le hb2 HBr.out.size⟩
      have HCW:Hold (wr.cell? ⟨gw,j,none⟩=some (.slice qy my dy)):=⟨(HBr.out.cell (p:=⟨gw,j,none⟩) hb2).trans hy1⟩
      by_cases hjJ:j=J
      ·rw [if_pos hjJ] at hy2 hy3
       subst hjJ
       have HFW:Hold (Fit 33 1 (.agg #[.slice qy my dy]) wr):=⟨(Fit.of hy2 hy3).below HBr.out⟩
       have hjj:((j:Int) != j)=false:=by simp
       have hjj2:((j:Int) == j)=true:=by simp
       clear hc2 hb2 hy1 hy2 hy3
       go_wp2
       refine wp_region_duties (by kernel_rfl) (by kernel_rfl)
        [some (.slice (some ⟨gw,0,none⟩) k k),some (.int .i64 (j:Nat)),some (.pointer (some ⟨gw,j,none⟩)),some (.agg #[.slice qy my dy]),none,some (.int .i64 (j:Nat)),some (.int .i64 (j:Nat)),some (.bool false),some (.bool false),some (.bool false),some (.int .i64 (j:Nat)),some (.int .i64 (j:Nat)),some (.bool true),some (.bool true),some (.slice (some ⟨gw,0,none⟩) k k),some (.int .i64 (j:Nat)),some (.pointer (some ⟨gw,j,none⟩)),some (.agg #[.slice qy my dy]),none,none,some (.bool false),some (.bool false),some (.bool false)]
        [false,false,false,false,true,false,false,false,false,false,false,false,false,false,false,false,false,false,true,true,false,false,false] rfl
        (fun w1 w2=>Below w1.heap.size w1 w2)
        (fun _ w'=>Below wr.heap.size wr w')
        (fun i v w'=>match i with
         | 4=>v=.bool false
         | 18=>Fit 2 1 v w'
         | 19=>v=.int .i64 0
         | _=>True)
        ?_ (Below.refl _ _).drew ?_ ?_
       ·intro i v w1 w2 hf hb
        split at hf
        ·exact hf
        ·exact hf.below hb
        ·exact hf
        ·trivial
       ·simp only [Duties,Nat.reduceAdd]
        refine ⟨?_,?_,?_,?_,?_,?_,?_,?_,?_,?_,?_,?_,?_,?_,?_,?_,?_,?_,?_,?_,?_,?_,?_,trivial⟩
        all_goals intro D sp w' hD hW hdp hbx'
        case refine_3 | refine_17 =>
         have hni:¬ k <= j:=Nat.not_le.2 HJN.out
         with_reducible refine asked_pl ?_ ?_
         all_goals simp [Region.wanted,yielded,execOp,Act.eval,Act.put,go_sem,hni]
        case refine_4 | refine_18 =>
         have c0:w'.cell? ⟨gw,j,none⟩=some (.slice qy my dy):=(hbx'.cell (p:=⟨gw,j,none⟩) HGX.out).trans HCW.out
         with_reducible refine asked_pl ?_ ?_
         all_goals simp [Region.wanted,yielded,execOp,Act.eval,Act.put,go_sem,c0]
        case refine_5 =>
         (with_reducible refine asked_call (w1:=w') (f := 25) (args:=#[.agg #[.slice qy my dy]]) ?_ ?_ ?_)
         ·simp [Region.wanted,yielded,Act.put,go_sem]
         ·simp [Act.eval,Act.put,go_sem]
         ·refine (zero_fit (HFW.out.below hbx')).mono ?_
          rintro en w9 ⟨u,rfl,rfl,hb⟩
          exact ⟨_,rfl,hb,rfl,bstep hbx' hb⟩
        case refine_9 =>
         have k4:(sp 4)=.bool false:=(hdp 4 (mq (by kernel_rfl))).2
         with_reducible refine asked_pl ?_ ?_
         all_goals simp [Region.wanted,yielded,execOp,Act.eval,Act.put,go_sem,k4]
        case refine_19 =>
         (with_reducible refine asked_call (w1:=w') (f := 20) (args:=#[.int .u64 1]) ?_ ?_ ?_)
         ·simp [Region.wanted,yielded,Act.put,go_sem]
         ·simp [Act.eval,Act.put,go_sem]
         ·refine (newnat_fit (n:=1) w' (by decide)).mono ?_
          rintro en w9 ⟨u,rfl,hu,hb⟩
          exact ⟨u,rfl,hb,hu,bstep hbx' hb⟩
        case refine_20 =>
         have k18:Fit 2 1 (sp 18) w':=(hdp 18 (mq (by kernel_rfl))).2
         (with_reducible refine asked_call (w1:=w') (f := 35) (args:=#[.agg #[.slice qy my dy],sp 18]) ?_ ?_ ?_)
         ·simp [Region.wanted,yielded,Act.put,go_sem]
         ·simp [Act.eval,Act.put,go_sem]
         ·refine (cmp_fitK (HFW.out.below hbx') k18 (by decide) (by decide) (cmpI_zero.2 rfl)).mono ?_
          rintro en w9 ⟨u,rfl,rfl,hb⟩
          exact ⟨_,rfl,hb,rfl,bstep hbx' hb⟩
        case refine_21 =>
         have k19:(sp 19)=.int .i64 0:=(hdp 19 (mq (by kernel_rfl))).2
         with_reducible refine asked_pl ?_ ?_
         all_goals simp [Region.wanted,yielded,execOp,Act.eval,Act.put,go_sem,k19]
        all_goals ((with_reducible refine asked_pl ?_ ?_); all_goals first | (simp only [Region.wanted]; done) | simp [Region.wanted,yielded,execOp,Act.eval,Act.put,go_sem])
       ·intro sp w7 hsp hbx'
        have HBx:=hol (bstep HBr.out hbx')
        clear hsp hbx'
        simp only [frameOf,Nat.reduceAdd]
        generalize sp 4=y4,sp 18=y18,sp 19=y19 at *
        go_simp
        go_wp2
        go_roundw
        case rel=>exact ⟨j + 1,by omega,by go_num,HBx⟩
        case measure=>simp [intOf]; omega
      ·rw [if_neg hjJ] at hy2 hy3
       have HFW:Hold (Fit 33 0 (.agg #[.slice qy my dy]) wr):=⟨(Fit.of hy2 hy3).below HBr.out⟩
       have hjj:((j:Int) != J)=true:=by rw [bne_iff_ne]; omega
       have hjj2:((j:Int) == J)=false:=by rw [beq_eq_false_iff_ne]; omega
       clear hc2 hb2 hy1 hy2 hy3
       go_wp2
       refine wp_region_duties (by kernel_rfl) (by kernel_rfl)
        [some (.slice (some ⟨gw,0,none⟩) k k),some (.int .i64 (j:Nat)),some (.pointer (some ⟨gw,j,none⟩)),some (.agg #[.slice qy my dy]),none,some (.int .i64 (j:Nat)),some (.int .i64 (J:Nat)),some (.bool true),some (.bool false),some (.bool false),some (.int .i64 (j:Nat)),some (.int .i64 (J:Nat)),some (.bool false),some (.bool false),some (undef),some (undef),some (undef),some (undef),some (undef),some (undef),some (undef),some (.bool false),some (.bool false)]
        [false,false,false,false,true,false,false,false,false,false,false,false,false,false,false,false,false,false,false,false,false,false,false] rfl
        (fun w1 w2=>Below w1.heap.size w1 w2)
        (fun _ w'=>Below wr.heap.size wr w')
        (fun i v w'=>match i with
         | 4=>v=.bool true
         | _=>True)
        ?_ (Below.refl _ _).drew ?_ ?_
       ·intro i v w1 w2 hf hb
        split at hf
        ·exact hf
        ·trivial
       ·simp only [Duties,Nat.reduceAdd]
        refine ⟨?_,?_,?_,?_,?_,?_,?_,?_,?_,?_,?_,?_,?_,?_,?_,?_,?_,?_,?_,?_,?_,?_,?_,trivial⟩
        all_goals intro D sp w' hD hW hdp hbx'
        case refine_3 =>
         have hni:¬ k <= j:=Nat.not_le.2 HJN.out
         with_reducible refine asked_pl ?_ ?_
         all_goals simp [Region.wanted,yielded,execOp,Act.eval,Act.put,go_sem,hni]
        case refine_4 =>
         have c0:w'.cell? ⟨gw,j,none⟩=some (.slice qy my dy):=(hbx'.cell (p:=⟨gw,j,none⟩) HGX.out).trans HCW.out
         with_reducible refine asked_pl ?_ ?_
         all_goals simp [Region.wanted,yielded,execOp,Act.eval,Act.put,go_sem,c0]
        case refine_5 =>
         (with_reducible refine asked_call (w1:=w') (f := 25) (args:=#[.agg #[.slice qy my dy]]) ?_ ?_ ?_)
         ·simp [Region.wanted,yielded,Act.put,go_sem]
         ·simp [Act.eval,Act.put,go_sem]
         ·refine (zero_fit (HFW.out.below hbx')).mono ?_
          rintro en w9 ⟨u,rfl,rfl,hb⟩
          exact ⟨_,rfl,hb,rfl,bstep hbx' hb⟩
        case refine_8 =>
         (with_reducible refine asked_value (w1:=w') (v:=.bool true) ?_ ?_ ?_)
         ·simp [Region.wanted,yielded,Act.put,go_sem]
         ·simp [execOp,Act.eval,Act.put,go_sem,hjj]
         ·exact ⟨rfl,rfl⟩
        case refine_9 =>
         have k4:(sp 4)=.bool true:=(hdp 4 (mq (by kernel_rfl))).2
         with_reducible refine asked_pl ?_ ?_
         all_goals simp [Region.wanted,yielded,execOp,Act.eval,Act.put,go_sem,k4]
        case refine_13 =>
         (with_reducible refine asked_value (w1:=w') (v:=.bool false) ?_ ?_ ?_)
         ·simp [Region.wanted,yielded,Act.put,go_sem]
         ·simp [execOp,Act.eval,Act.put,go_sem,hjj2]
         ·exact ⟨rfl,rfl⟩
        case refine_15 | refine_16 | refine_17 | refine_18 | refine_19 | refine_20 | refine_21 =>
         (with_reducible refine asked_not ?_ ?_)
         ·(simp [Region.wanted,yielded,Act.put,go_sem] <;> exact fun h=>by cases h)
         ·exact ⟨rfl,rfl⟩
        all_goals ((with_reducible refine asked_pl ?_ ?_); all_goals first | (simp only [Region.wanted]; done) | simp [Region.wanted,yielded,execOp,Act.eval,Act.put,go_sem])
       ·intro sp w7 hsp hbx'
        have HBx:=hol (bstep HBr.out hbx')
        clear hsp hbx'
        simp only [frameOf,Nat.reduceAdd]
        generalize sp 4=y4 at *
        go_simp
        go_wp2
        go_roundw
        case rel=>exact ⟨j + 1,by omega,by go_num,HBx⟩
        case measure=>simp [intOf]; omega
     ·obtain rfl:j=k:=by omega
      have hjk':¬ (j:Int) < j:=by omega
      have hjj2:((j:Int) == j)=true:=by simp
      have BBf:=hol (bstep BBq.out HBr.out)
      go_wp2
      go_ret
      exact ⟨rfl,BBf.out⟩
 ·have hl:Hold (∃ E:Nat,faultN q n n xs=E /\ E ≠ 0):=⟨_,rfl,hd⟩
  obtain ⟨E,hE,hE0⟩:=hl.out
  have g1:=G1.out hd
  rw [hE] at g1
  subst g1
  have HE:=hol hE
  clear hl hd hE G1 G2
  go_wp2_with fail
  refine (refs_fit HP7.out (by decide) HN6.out).mono ?_
  rintro en w8 ⟨_,rfl,⟨p8,c8,rfl,hl8⟩,b8⟩
  have HL8:=hol hl8
  have B8:=hol b8
  clear hl8 b8
  go_wp2_with fail
  refine (dasked_calls (HNQ7.out.below B8.out) HL8.out HQ2.out HLQ.out HXS.out HN12.out (by have:=HN6.out; omega)).mono ?_
  rintro en w9 ⟨rfl,b9⟩
  rw [HE.out]
  have BB:=hol (bstep B7.out (bstep B8.out b9))
  have e1:((E:Int) != E)=false:=by simp
  have e2:((E:Int) != 0)=true:=by rw [bne_iff_ne]; omega
  have e3:((E:Int) == E)=true:=by simp
  clear b9
  go_wp2
  go_ret
  exact ⟨rfl,BB.out⟩
end Go.Proofs.YtdebccghjbfgdaaGreatDoor
