/- The document's Right and Sign. -/
import Derived.Lib.SlBytesConst
import Derived.Test.YtdebccghjbfgdaaGreatDoorSdA
set_option maxRecDepth 1000000
set_option maxHeartbeats 16000000
set_option linter.unusedSimpArgs false
set_option linter.unusedVariables false
namespace Go.Proofs.YtdebccghjbfgdaaGreatDoor
open Go Go.RowKit
def four:List Nat:=[3,7,11,15]
def pp:Nat:=2 ^ 130 - 5
open Go Go.RowKit Go.Proofs.YtdebccghjbfgdaaGreatDoor.Flow
theorem run_app_full {w:World} {g n:Nat} {xs:List Nat} (hx:Blk w g 5 .u8 xs) (hl:n=xs.length) {p:Option Addr} {m c:Nat} {bs:List Nat} (hr:RowIn w .u8 p m c bs) (hm:0 < m)
  (hmax:n + m <= 140737488355328) (ty:TypeId) {C:Prop}
  (k:∀ v' w',(Builtin.append_ #[70, 70] ty #[.slice (some ⟨g,0,none⟩) n n,.slice p m c]).run Tryz.prog w=.ok v' w' -> Own w' w.heap.size v' (xs ++ bs) -> Below w.heap.size w w' -> C):C:=by
 obtain ⟨i,hi,hz,hs,hb⟩:=info_parts Tryz.info_u8
 have hbl:=hr.len
 obtain ⟨b,off,e,h2,h3⟩:=(hr.row hm).pos hm
 subst e
 obtain ⟨v',w',h1,h4,h5⟩:=run_append_arg_grows (P:=Tryz.prog) w 70 ty 5 i (.int .u8 0) 1 1 Tryz.underlying70 hi hz hs hb rfl (by decide) ⟨g,0,none⟩ n n (xs.map fun (x:Nat)=>Value.int .u8 (x:Int)) (by simp [hl])
  (fun j u hu=>by
   rw [List.getElem?_map] at hu
   obtain ⟨x,hx',rfl⟩:=Option.map_eq_some_iff.1 hu
   rw [add_plain,Nat.zero_add]
   exact hx.cell hx')
  ⟨b,off,none⟩ m c (bs.map fun (x:Nat)=>Value.int .u8 (x:Int)) (by simp [hbl])
  (fun j u hu=>by
   rw [List.getElem?_map] at hu
   obtain ⟨x,hx,rfl⟩:=Option.map_eq_some_iff.1 hu
   rw [add_plain]
   exact h3 j x hx) (by omega) (by simp only [maxLen]; omega) (by omega)
 refine k v' w' h1 ⟨?_⟩ ⟨h5.os,h5.tape,h5.output,h5.size,fun k hk=>h5.block k hk (by simp)⟩
 rw [List.length_append,List.map_append,<- hl,<- hbl]
 exact h4
theorem gblen_few {N:Nat} (h:bsize N <= 16):blen N <= 100000:=by unfold bsize at h; omega
theorem blen_lt_few {N M:Nat} (h:N < M) (hM:bsize M <= 16):blen N <= 100000:=Nat.le_trans (blen_mono (Nat.le_of_lt h)) (gblen_few hM)
theorem bits_zero {w:World} {q:Option Addr} {m d N:Nat} (h:BitsAt w q m d N):m=0 ↔ N=0:=by
 rw [bits_len h]
 exact ⟨fun h0=>by have:=(blen_le N 0).1 (by omega); simpa using this,fun h0=>by subst h0; decide⟩
theorem dright_calls {w:World} {v u:Value} {P Q G H X:Nat} (h:RefVal P Q G H v w) (hu:RBits X u w) (lX:blen X <= 100000) (lQ:blen Q <= 100000) :
  Calls Tryz.prog 49 #[v,u] w fun e w'=>e=.returned (.bool (decide (0 < X /\ X < Q))) /\ Below w.heap.size w w':=by
 obtain ⟨p0,n0,c0,p1,n1,c1,p2,n2,c2,p3,n3,c3,rfl,h0,h1,h2,h3⟩:=h.ex
 have hbx:Below w.heap.size w (w.alloc (.cells #[.slice p0 n0 c0,.slice p1 n1 c1,.slice p2 n2 c2,.slice p3 n3 c3] 30)):=bal
 have hbo:=Box4.made 30 w (.slice p0 n0 c0) (.slice p1 n1 c1) (.slice p2 n2 c2) (.slice p3 n3 c3)
 obtain ⟨wa,hwa⟩:∃ wa,w.alloc (.cells #[.slice p0 n0 c0,.slice p1 n1 c1,.slice p2 n2 c2,.slice p3 n3 c3] 30)=wa:=⟨_,rfl⟩
 rw [hwa] at hbx hbo
 have HB:=hol hbx
 have HBX:=hol hbo
 have HV:Hold (RefVal P Q G H (.agg #[.slice p0 n0 c0,.slice p1 n1 c1,.slice p2 n2 c2,.slice p3 n3 c3]) wa):=⟨⟨p0,n0,c0,p1,n1,c1,p2,n2,c2,p3,n3,c3,rfl,h0.below hbx,h1.below hbx,h2.below hbx,h3.below hbx⟩⟩
 obtain ⟨qx,mx,dx,rfl,hx⟩:=hu
 have hmz:=bits_zero hx
 have hml:=bits_len hx
 have HX:=hol (RBits.of (hx.below hbx))
 have HQ:=hol (RBits.of (h1.below hbx))
 have g1:=HBX.out.cells.2.1
 obtain ⟨RT,hRT⟩:∃ A,decide (0 < X /\ X < Q)=A:=⟨_,rfl⟩
 have HRT:=hol hRT
 rw [hRT]
 clear hRT
 by_cases h0:mx=0
 ·have HF:Hold (RT=false):=⟨by rw [<- HRT.out]; exact decide_eq_false (by have:=hmz.1 h0; omega)⟩
  have hm0:¬ (0:Int) < mx:=by omega
  clear h h1 h2 h3 hbx hbo hx hmz hml h0
  go_enter Tryz.func49,Tryz.ntmps49
  go_wp2
  go_ret
  exact ⟨by rw [HF.out]; rfl,HB.out⟩
 ·have hm0:(0:Int) < mx:=by omega
  obtain ⟨KC,hKC⟩:∃ K,cmpI X Q=K:=⟨_,rfl⟩
  obtain ⟨ANS,hA⟩:∃ A,decide (KC < 0)=A:=⟨_,rfl⟩
  have HF:Hold (RT=ANS):=⟨by
   rw [<- HRT.out,<- hA,<- hKC]
   have hX0:X ≠ 0:=fun h=>h0 (hmz.2 h)
   exact decide_eq_decide.2 ⟨fun h=>cmpN_neg.2 h.2,fun h=>⟨by omega,cmpN_neg.1 h⟩⟩⟩
  have HKC:=hol hKC
  have HL:Hold (blen X <= 1000000 /\ blen Q <= 1000000):=⟨by omega,by omega⟩
  clear h h1 h2 h3 hbx hbo hx hmz hml h0 hKC
  go_enter Tryz.func49,Tryz.ntmps49
  go_wp2_with fail
  refine (rcmp_fit HX.out HQ.out HL.out.1 HL.out.2).mono ?_
  rintro en w1 ⟨_,rfl,rfl,hb1⟩
  rw [HKC.out]
  have HB1:=hol (bstep HB.out hb1)
  clear hb1 g1
  go_wp2
  go_ret
  exact ⟨by rw [HF.out]; rfl,HB1.out⟩
theorem dsign_calls {w:World} {v u:Value} {P Q G H X nm cm:Nat} {pm:Option Addr} {msg:List Nat} (h:RefVal P Q G H v w) (hu:RBits X u w) (hX:X < Q) (hG:G < P) (hQ:2 <= Q) (hPs:bsize P <= 16) (hQs:bsize Q <= 16) (hm:PartOk w ⟨pm,nm,cm,msg⟩) (hz:pm=none -> cm=0) (hn:nm <= 1000) :
  Calls Tryz.prog 50 #[v,u,.slice pm nm cm] w fun e w'=>∃ x,e=.returned x /\ OwnIs 0 (sigB P Q G X msg) x w' /\ Below w.heap.size w w':=by
 obtain ⟨p0,n0,c0,p1,n1,c1,p2,n2,c2,p3,n3,c3,rfl,h0,h1,h2,h3⟩:=h.ex
 have hbx:Below w.heap.size w (w.alloc (.cells #[.slice p0 n0 c0,.slice p1 n1 c1,.slice p2 n2 c2,.slice p3 n3 c3] 30)):=bal
 have hbo:=Box4.made 30 w (.slice p0 n0 c0) (.slice p1 n1 c1) (.slice p2 n2 c2) (.slice p3 n3 c3)
 obtain ⟨wa,hwa⟩:∃ wa,w.alloc (.cells #[.slice p0 n0 c0,.slice p1 n1 c1,.slice p2 n2 c2,.slice p3 n3 c3] 30)=wa:=⟨_,rfl⟩
 rw [hwa] at hbx hbo
 have HB:=hol hbx
 have HBX:=hol hbo
 have HV:Hold (RefVal P Q G H (.agg #[.slice p0 n0 c0,.slice p1 n1 c1,.slice p2 n2 c2,.slice p3 n3 c3]) wa):=⟨⟨p0,n0,c0,p1,n1,c1,p2,n2,c2,p3,n3,c3,rfl,h0.below hbx,h1.below hbx,h2.below hbx,h3.below hbx⟩⟩
 obtain ⟨qx,mx,dx,rfl,hx⟩:=hu
 obtain ⟨b3,hb3⟩:∃ b,w.heap.size=b:=⟨_,rfl⟩
 have HBX:Hold (Box4 30 wa b3 (.slice p0 n0 c0) (.slice p1 n1 c1) (.slice p2 n2 c2) (.slice p3 n3 c3)):=⟨by rw [<- hb3]; exact HBX.out⟩
 have HX:=hol (RBits.of (hx.below hbx))
 have HM:=hol (hm.below hbx)
 have HZM:=hol hz
 have HNM:=hol hn
 have HQB:=hol (RBits.of (h1.below hbx))
 have HGB:=hol (RBits.of (h2.below hbx))
 have HPf:=hol hPs
 have HQf:=hol hQs
 have HQk:Hold (bsize Q <= 1000):=⟨by omega⟩
 have HPl:Hold (blen P <= 100000):=⟨gblen_few hPs⟩
 have HQl:Hold (blen Q <= 100000):=⟨gblen_few hQs⟩
 have HQl2:Hold (blen Q <= 900000):=⟨by have:=HQl.out; omega⟩
 have HQ0:Hold (0 < Q):=⟨by omega⟩
 have HP0:Hold (0 < P):=⟨by omega⟩
 have HGl:Hold (blen G <= 100000):=⟨blen_lt_few hG hPs⟩
 have HXb:Hold (blen X <= 100000):=⟨blen_lt_few hX hQs⟩
 have HXl:Hold (X < B8 (bsize Q)):=⟨Nat.lt_trans hX (bsize_lt Q)⟩
 have HWp:Hold (0 < bsize Q):=⟨Nat.pos_of_ne_zero fun h=>by
  have h3:=bsize_lt Q
  rw [h] at h3
  have h5:Q < 1:=h3
  omega⟩
 obtain ⟨SB,hSB⟩:∃ S,sigB P Q G X msg=S:=⟨_,rfl⟩
 have HSB0:=hol hSB
 obtain ⟨EE,hEE⟩:∃ E,(exps (beOf X (bsize Q)) msg ((64 + 31) / 32)).take 64=E:=⟨_,rfl⟩
 have HEE:=hol hEE
 have HE8:Hold (Bytes8 EE):=⟨fun y hy=>by rw [<- hEE] at hy; exact exps_bytes _ _ _ y (List.mem_of_mem_take hy)⟩
 have HEl:Hold (EE.length <= 1000):=⟨by rw [<- hEE]; exact Nat.le_trans (List.length_take_le _ _) (by decide)⟩
 obtain ⟨DN,hDD⟩:∃ ZZ,be EE=ZZ:=⟨_,rfl⟩
 have HDD:=hol hDD
 have HDl:Hold (blen DN <= 900000):=⟨by
  have h1:=be_blen HE8.out
  have h2:=HEl.out
  rw [hDD] at h1
  omega⟩
 obtain ⟨Z,hZ⟩:∃ ZZ,DN % Q=ZZ:=⟨_,rfl⟩
 have HZ:=hol hZ
 have HZl:Hold (blen Z <= 100000):=⟨blen_lt_few (by rw [<- hZ]; exact Nat.mod_lt _ HQ0.out) hQs⟩
 have HKD0:Hold (sigK Q X msg=if Z=0 then 1 else Z):=⟨by
  have e:drawN Q X msg=DN:=by rw [<- hDD,<- hEE]; rfl
  unfold sigK
  rw [e,hZ]⟩
 rw [hSB]
 clear h h0 h1 h2 h3 hbx hbo hx hX hG hQ hPs hQs hm hz hn hSB hEE hDD hZ
 go_enter Tryz.func50,Tryz.ntmps50
 go_wp2
 clear hwa hb3
 refine wp_region_duties (by kernel_rfl) (by kernel_rfl)
  [some (.agg #[.slice p0 n0 c0,.slice p1 n1 c1,.slice p2 n2 c2,.slice p3 n3 c3]),some (.slice qx mx dx),none,some (.slice pm nm cm),none,none,some (.pointer (some ⟨b3,1,none⟩)),some (.slice p1 n1 c1),none,none]
  [false,false,true,false,true,true,false,false,true,true] rfl
  (fun w1 w2=>Below w1.heap.size w1 w2)
  (fun _ w'=>Below wa.heap.size wa w')
  (fun i v w'=>match i with
   | 2=>BytesV (bsize Q) (beOf X (bsize Q)) v w'
   | 4=>OwnIs 0 EE v w'
   | 5=>RBits DN v w'
   | 8=>RBits Z v w'
   | 9=>RBits Z v w'
   | _=>True)
  ?_ (Below.refl _ _).drew ?_ ?_
 ·intro i v w1 w2 hf hb
  split at hf
  ·exact hf.below hb
  ·exact hf.below hb
  ·exact hf.below hb
  ·exact hf.below hb
  ·exact hf.below hb
  ·trivial
 ·simp only [Duties,Nat.reduceAdd]
  refine ⟨?_,?_,?_,?_,?_,?_,?_,?_,?_,?_,trivial⟩
  all_goals intro D sp w' hD hW hdp hbx'
  case refine_1 =>
   have hB4:=HBX.out.below hbx' HBX.out.lt
   have g0:=hB4.cells.1
   have g1:=hB4.cells.2.1
   have g2:=hB4.cells.2.2.1
   have g3:=hB4.cells.2.2.2
   with_reducible refine asked_pl ?_ ?_
   all_goals simp [Region.wanted,yielded,execOp,Act.eval,Act.put,go_sem,g0,g1,g2,g3]
  case refine_3 =>
   (with_reducible refine asked_call (w1:=w') (f := 54) (args:=#[.agg #[.slice p0 n0 c0,.slice p1 n1 c1,.slice p2 n2 c2,.slice p3 n3 c3],.slice qx mx dx]) ?_ ?_ ?_)
   ·simp [Region.wanted,yielded,Act.put,go_sem]
   ·simp [Act.eval,Act.put,go_sem]
   ·refine (dfixed_calls (HV.out.below hbx') (HX.out.below hbx') HQl.out HQf.out (HXl.out)).mono ?_
    rintro en w9 ⟨g9,rfl,hu,_,hb⟩
    exact ⟨_,rfl,hb,⟨g9,rfl,hu⟩,bstep hbx' hb⟩
  case refine_5 =>
   have hxa:∃ g,sp 2=.slice (some ⟨g,0,none⟩) (bsize Q) (bsize Q) /\ Blk w' g 5 .u8 (beOf X (bsize Q)):=(hdp 2 (mq (by kernel_rfl))).2
   (with_reducible refine Exists.elim hxa fun ga ha1=>?_)
   have ea:=ha1.1
   (with_reducible refine asked_call (w1:=w') (f := 97) (args:=#[.slice (some ⟨ga,0,none⟩) (bsize Q) (bsize Q),.slice pm nm cm,.int .i64 (64:Nat)]) ?_ ?_ ?_)
   ·simp only [Region.wanted]
   ·simp [Act.eval,Act.put,go_sem,ea]
   ·refine (refexpand_calls w' (some ⟨ga,0,none⟩) (bsize Q) (bsize Q) (beOf X (bsize Q)) pm nm cm msg 64 (blk_part ha1.2 HQk.out) (fun h=>by cases h) (HM.out.below hbx') HZM.out HQk.out HNM.out (by decide)).mono ?_
    rintro en w9 ⟨u,rfl,hu,hb⟩
    rw [HEE.out] at hu
    exact ⟨u,rfl,hb,hu.zero,bstep hbx' hb⟩
  case refine_6 =>
   have hf:OwnIs 0 EE (sp 4) w':=(hdp 4 (mq (by kernel_rfl))).2
   (with_reducible refine hf.elim (fun p9 c9 hv hr _ _=>?_))
   (with_reducible refine asked_call (w1:=w') (f := 79) (args:=#[.slice p9 EE.length c9]) ?_ ?_ ?_)
   ·simp only [Region.wanted]
   ·simp [Act.eval,Act.put,go_sem,hv]
   ·refine (of_calls w' p9 EE.length c9 EE hr HE8.out HEl.out).mono ?_
    rintro en w9 ⟨q9,m9,d9,rfl,hu,hb,_⟩
    rw [HDD.out] at hu
    exact ⟨_,rfl,hb,RBits.of hu,bstep hbx' hb⟩
  case refine_8 =>
   have hB4:=HBX.out.below hbx' HBX.out.lt
   have g1:=hB4.cells.2.1
   with_reducible refine asked_pl ?_ ?_
   all_goals simp [Region.wanted,yielded,execOp,Act.eval,Act.put,go_sem,g1]
  case refine_9 =>
   have k5:RBits DN (sp 5) w':=(hdp 5 (mq (by kernel_rfl))).2
   (with_reducible refine asked_call (w1:=w') (f := 72) (args:=#[sp 5,.slice p1 n1 c1]) ?_ ?_ ?_)
   ·simp [Region.wanted,yielded,Act.put,go_sem]
   ·simp [Act.eval,Act.put,go_sem]
   ·refine (dof_fit k5 (HQB.out.below hbx') HDl.out HQl2.out HQ0.out).mono ?_
    rintro en w9 ⟨u,rfl,hu,hb⟩
    rw [HZ.out] at hu
    exact ⟨u,rfl,hb,hu,bstep hbx' hb⟩
  case refine_10 =>
   have k8:RBits Z (sp 8) w':=(hdp 8 (mq (by kernel_rfl))).2
   (with_reducible refine asked_value (w1:=w') (v:=sp 8) ?_ ?_ ?_)
   ·simp [Region.wanted,yielded,Act.put,go_sem]
   ·simp [execOp,Act.eval,Act.put,go_sem]
   ·exact ⟨Below.refl _ _,k8,hbx'⟩
  all_goals ((with_reducible refine asked_pl ?_ ?_); all_goals first | (simp only [Region.wanted]; done) | simp [Region.wanted,yielded,execOp,Act.eval,Act.put,go_sem])
 ·intro sp w1 hsp hb
  obtain ⟨qk,mk,dk,ek,hk⟩:RBits Z (sp 9) w1:=hsp 9 rfl
  have hmz:=bits_zero hk
  have HK1:=hol (RBits.of hk)
  have HBX:=hol (HBX.out.below hb HBX.out.lt)
  clear hsp hk
  have HX_:=HX.out.below hb
  have HV_:=HV.out.below hb
  have HM_:=HM.out.below hb
  have HQB_:=HQB.out.below hb
  have HGB_:=HGB.out.below hb
  have HB_:=bstep HB.out hb
  clear HX HV HM HQB HGB HB
  have HX:=hol HX_
  have HV:=hol HV_
  have HM:=hol HM_
  have HQB:=hol HQB_
  have HGB:=hol HGB_
  have HB:=hol HB_
  clear HX_ HV_ HM_ HQB_ HGB_ HB_
  clear hb
  simp only [frameOf,Nat.reduceAdd]
  rw [ek]
  clear ek
  generalize sp 2=y2,sp 4=y4,sp 5=y5,sp 8=y8 at *
  go_simp
  by_cases hz:mk=0
  ·have hm0:((mk:Int) == 0)=true:=by rw [hz]; rfl
   have HKD:Hold (sigK Q X msg=1):=⟨by rw [HKD0.out,if_pos (hmz.1 hz)]⟩
   have HKl:Hold (blen 1 <= 100000):=⟨by decide⟩
   clear hz hmz
   go_wp2_with fail
   refine (small_calls 1 w1 (by decide)).mono ?_
   rintro en wk ⟨qk',mk',dk',rfl,hn1,hb,_⟩
   have HK:=hol (RBits.of hn1)
   have HBX:=hol (HBX.out.below hb HBX.out.lt)
   clear hn1 hm0 HK1
   have HX_:=HX.out.below hb
   have HV_:=HV.out.below hb
   have HM_:=HM.out.below hb
   have HQB_:=HQB.out.below hb
   have HGB_:=HGB.out.below hb
   have HB_:=bstep HB.out hb
   clear HX HV HM HQB HGB HB
   have HX:=hol HX_
   have HV:=hol HV_
   have HM:=hol HM_
   have HQB:=hol HQB_
   have HGB:=hol HGB_
   have HB:=hol HB_
   clear HX_ HV_ HM_ HQB_ HGB_ HB_
   clear hb
   obtain ⟨GK,hGK⟩:∃ ZZ,G ^ 1 % P=ZZ:=⟨_,rfl⟩
   obtain ⟨Y,hYE⟩:∃ ZZ,G ^ X % P=ZZ:=⟨_,rfl⟩
   obtain ⟨CC,hCC⟩:∃ ZZ,sigCh P Q GK Y msg=ZZ:=⟨_,rfl⟩
   obtain ⟨MM,hMM⟩:∃ ZZ,CC * X % Q=ZZ:=⟨_,rfl⟩
   obtain ⟨SS,hSS⟩:∃ ZZ,(1 + MM) % Q=ZZ:=⟨_,rfl⟩
   have HSB:Hold (beOf CC (bsize Q) ++ beOf SS (bsize Q)=SB):=⟨by
    rw [<- HSB0.out]
    unfold sigB sigS sigC
    rw [HKD.out,hGK,hYE,hCC,hMM,hSS]⟩
   have HGK:=hol hGK
   have HYE:=hol hYE
   have HCC:=hol hCC
   have HMM:=hol hMM
   have HSS:=hol hSS
   have hlq:=bsize_lt Q
   have HGKl:Hold (GK < P):=⟨by rw [<- hGK]; exact Nat.mod_lt _ HP0.out⟩
   have HYl:Hold (Y < P):=⟨by rw [<- hYE]; exact Nat.mod_lt _ HP0.out⟩
   have hcq:CC < Q:=by rw [<- hCC]; exact sigCh_lt HQ0.out
   have hsq:SS < Q:=by rw [<- hSS]; exact Nat.mod_lt _ HQ0.out
   have hmq:MM < Q:=by rw [<- hMM]; exact Nat.mod_lt _ HQ0.out
   have HCl:Hold (CC < B8 (bsize Q)):=⟨Nat.lt_trans hcq hlq⟩
   have HSl:Hold (SS < B8 (bsize Q)):=⟨Nat.lt_trans hsq hlq⟩
   have HCb:Hold (blen CC <= 100000):=⟨blen_lt_few hcq HQf.out⟩
   have HMb:Hold (blen MM <= 100000):=⟨blen_lt_few hmq HQf.out⟩
   clear hGK hYE hCC hMM hSS hlq hcq hsq hmq
   go_wp2
   refine wp_region_duties (by kernel_rfl) (by kernel_rfl)
    [some (.agg #[.slice p0 n0 c0,.slice p1 n1 c1,.slice p2 n2 c2,.slice p3 n3 c3]),some (.agg #[.slice p0 n0 c0,.slice p1 n1 c1,.slice p2 n2 c2,.slice p3 n3 c3]),some (.pointer (some ⟨b3,2,none⟩)),some (.slice p2 n2 c2),some (.slice qk' mk' dk'),none,some (.agg #[.slice p0 n0 c0,.slice p1 n1 c1,.slice p2 n2 c2,.slice p3 n3 c3]),some (.pointer (some ⟨b3,2,none⟩)),some (.slice p2 n2 c2),some (.slice qx mx dx),none,some (.slice pm nm cm),none,none]
    [false,false,false,false,false,true,false,false,false,false,true,false,true,true] rfl
    (fun w1 w2=>Below w1.heap.size w1 w2)
    (fun _ w'=>Below wk.heap.size wk w')
    (fun i v w'=>match i with
     | 5=>RBits GK v w'
     | 10=>RBits Y v w'
     | 12=>RBits CC v w'
     | 13=>RBits CC v w'
     | _=>True)
    ?_ (Below.refl _ _).drew ?_ ?_
   ·intro i v w1 w2 hf hb
    split at hf
    ·exact hf.below hb
    ·exact hf.below hb
    ·exact hf.below hb
    ·exact hf.below hb
    ·trivial
   ·simp only [Duties,Nat.reduceAdd]
    refine ⟨?_,?_,?_,?_,?_,?_,?_,?_,?_,?_,?_,?_,?_,?_,trivial⟩
    all_goals intro D sp w' hD hW hdp hbx'
    case refine_1 | refine_2 | refine_7 =>
     have hB4:=HBX.out.below hbx' HBX.out.lt
     have g0:=hB4.cells.1
     have g1:=hB4.cells.2.1
     have g2:=hB4.cells.2.2.1
     have g3:=hB4.cells.2.2.2
     with_reducible refine asked_pl ?_ ?_
     all_goals simp [Region.wanted,yielded,execOp,Act.eval,Act.put,go_sem,g0,g1,g2,g3]
    case refine_4 | refine_9 =>
     have hB4:=HBX.out.below hbx' HBX.out.lt
     have g2:=hB4.cells.2.2.1
     with_reducible refine asked_pl ?_ ?_
     all_goals simp [Region.wanted,yielded,execOp,Act.eval,Act.put,go_sem,g2]
    case refine_6 =>
     (with_reducible refine asked_call (w1:=w') (f := 78) (args:=#[.agg #[.slice p0 n0 c0,.slice p1 n1 c1,.slice p2 n2 c2,.slice p3 n3 c3],.slice p2 n2 c2,.slice qk' mk' dk']) ?_ ?_ ?_)
     ·simp [Region.wanted,yielded,Act.put,go_sem]
     ·simp [Act.eval,Act.put,go_sem]
     ·refine (dgexp_calls (HV.out.below hbx') (HGB.out.below hbx') (HK.out.below hbx') HGl.out (HKl.out) HPl.out HP0.out).mono ?_
      rintro en w9 ⟨u,rfl,hu,hb⟩
      rw [HGK.out] at hu
      exact ⟨u,rfl,hb,hu,bstep hbx' hb⟩
    case refine_11 =>
     (with_reducible refine asked_call (w1:=w') (f := 78) (args:=#[.agg #[.slice p0 n0 c0,.slice p1 n1 c1,.slice p2 n2 c2,.slice p3 n3 c3],.slice p2 n2 c2,.slice qx mx dx]) ?_ ?_ ?_)
     ·simp [Region.wanted,yielded,Act.put,go_sem]
     ·simp [Act.eval,Act.put,go_sem]
     ·refine (dgexp_calls (HV.out.below hbx') (HGB.out.below hbx') (HX.out.below hbx') HGl.out (HXb.out) HPl.out HP0.out).mono ?_
      rintro en w9 ⟨u,rfl,hu,hb⟩
      rw [HYE.out] at hu
      exact ⟨u,rfl,hb,hu,bstep hbx' hb⟩
    case refine_13 =>
     have k5:RBits GK (sp 5) w':=(hdp 5 (mq (by kernel_rfl))).2
     have k10:RBits Y (sp 10) w':=(hdp 10 (mq (by kernel_rfl))).2
     (with_reducible refine asked_call (w1:=w') (f := 55) (args:=#[.agg #[.slice p0 n0 c0,.slice p1 n1 c1,.slice p2 n2 c2,.slice p3 n3 c3],sp 5,sp 10,.slice pm nm cm]) ?_ ?_ ?_)
     ·simp [Region.wanted,yielded,Act.put,go_sem]
     ·simp [Act.eval,Act.put,go_sem]
     ·refine (dsch_calls (HV.out.below hbx') k5 k10 HGKl.out HYl.out HPl.out HQl.out HQ0.out HPf.out (HM.out.below hbx') HZM.out HNM.out).mono ?_
      rintro en w9 ⟨u,rfl,hu,hb⟩
      rw [HCC.out] at hu
      exact ⟨u,rfl,hb,hu,bstep hbx' hb⟩
    case refine_14 =>
     have k12:RBits CC (sp 12) w':=(hdp 12 (mq (by kernel_rfl))).2
     (with_reducible refine asked_value (w1:=w') (v:=sp 12) ?_ ?_ ?_)
     ·simp [Region.wanted,yielded,Act.put,go_sem]
     ·simp [execOp,Act.eval,Act.put,go_sem]
     ·exact ⟨Below.refl _ _,k12,hbx'⟩
    all_goals ((with_reducible refine asked_pl ?_ ?_); all_goals first | (simp only [Region.wanted]; done) | simp [Region.wanted,yielded,execOp,Act.eval,Act.put,go_sem])
   ·intro sp w4 hsp hb
    obtain ⟨qc,mc,dc,ec,hc⟩:RBits CC (sp 13) w4:=hsp 13 rfl
    have HC:=hol (RBits.of hc)
    have HBX:=hol (HBX.out.below hb HBX.out.lt)
    clear hsp hc
    have HX_:=HX.out.below hb
    have HV_:=HV.out.below hb
    have HM_:=HM.out.below hb
    have HQB_:=HQB.out.below hb
    have HGB_:=HGB.out.below hb
    have HB_:=bstep HB.out hb
    have HK_:=HK.out.below hb
    clear HX HV HM HQB HGB HB HK
    have HX:=hol HX_
    have HV:=hol HV_
    have HM:=hol HM_
    have HQB:=hol HQB_
    have HGB:=hol HGB_
    have HB:=hol HB_
    have HK:=hol HK_
    clear HX_ HV_ HM_ HQB_ HGB_ HB_ HK_
    clear hb
    simp only [frameOf,Nat.reduceAdd]
    rw [ec]
    clear ec
    generalize sp 5=y5,sp 10=y10,sp 12=y12 at *
    go_simp
    go_wp2
    refine wp_region_duties (by kernel_rfl) (by kernel_rfl)
     [some (.slice qk' mk' dk'),some (.slice qc mc dc),some (.slice qx mx dx),some (.pointer (some ⟨b3,1,none⟩)),some (.slice p1 n1 c1),none,some (.pointer (some ⟨b3,1,none⟩)),some (.slice p1 n1 c1),none,none]
     [false,false,false,false,false,true,false,false,true,true] rfl
     (fun w1 w2=>Below w1.heap.size w1 w2)
     (fun _ w'=>Below w4.heap.size w4 w')
     (fun i v w'=>match i with
      | 5=>RBits MM v w'
      | 8=>RBits SS v w'
      | 9=>RBits SS v w'
      | _=>True)
     ?_ (Below.refl _ _).drew ?_ ?_
    ·intro i v w1 w2 hf hb
     split at hf
     ·exact hf.below hb
     ·exact hf.below hb
     ·exact hf.below hb
     ·trivial
    ·simp only [Duties,Nat.reduceAdd]
     refine ⟨?_,?_,?_,?_,?_,?_,?_,?_,?_,?_,trivial⟩
     all_goals intro D sp w' hD hW hdp hbx'
     case refine_5 | refine_8 =>
      have hB4:=HBX.out.below hbx' HBX.out.lt
      have g1:=hB4.cells.2.1
      with_reducible refine asked_pl ?_ ?_
      all_goals simp [Region.wanted,yielded,execOp,Act.eval,Act.put,go_sem,g1]
     case refine_6 =>
      (with_reducible refine asked_call (w1:=w') (f := 76) (args:=#[.slice qc mc dc,.slice qx mx dx,.slice p1 n1 c1]) ?_ ?_ ?_)
      ·simp [Region.wanted,yielded,Act.put,go_sem]
      ·simp [Act.eval,Act.put,go_sem]
      ·refine (dmul_fit (HC.out.below hbx') (HX.out.below hbx') (HQB.out.below hbx') HCb.out HXb.out HQl.out HQ0.out).mono ?_
       rintro en w9 ⟨u,rfl,hu,hb⟩
       rw [HMM.out] at hu
       exact ⟨u,rfl,hb,hu,bstep hbx' hb⟩
     case refine_9 =>
      have k5:RBits MM (sp 5) w':=(hdp 5 (mq (by kernel_rfl))).2
      (with_reducible refine asked_call (w1:=w') (f := 75) (args:=#[.slice qk' mk' dk',sp 5,.slice p1 n1 c1]) ?_ ?_ ?_)
      ·simp [Region.wanted,yielded,Act.put,go_sem]
      ·simp [Act.eval,Act.put,go_sem]
      ·refine (dadd_fit (HK.out.below hbx') k5 (HQB.out.below hbx') HKl.out HMb.out HQl.out HQ0.out).mono ?_
       rintro en w9 ⟨u,rfl,hu,hb⟩
       rw [HSS.out] at hu
       exact ⟨u,rfl,hb,hu,bstep hbx' hb⟩
     case refine_10 =>
      have k8:RBits SS (sp 8) w':=(hdp 8 (mq (by kernel_rfl))).2
      (with_reducible refine asked_value (w1:=w') (v:=sp 8) ?_ ?_ ?_)
      ·simp [Region.wanted,yielded,Act.put,go_sem]
      ·simp [execOp,Act.eval,Act.put,go_sem]
      ·exact ⟨Below.refl _ _,k8,hbx'⟩
     all_goals ((with_reducible refine asked_pl ?_ ?_); all_goals first | (simp only [Region.wanted]; done) | simp [Region.wanted,yielded,execOp,Act.eval,Act.put,go_sem])
    ·intro sp w5 hsp hb
     obtain ⟨qs,ms,ds,es,hs⟩:RBits SS (sp 9) w5:=hsp 9 rfl
     have HS:=hol (RBits.of hs)
     have HBX:=hol (HBX.out.below hb HBX.out.lt)
     clear hsp hs
     have HX_:=HX.out.below hb
     have HV_:=HV.out.below hb
     have HM_:=HM.out.below hb
     have HQB_:=HQB.out.below hb
     have HGB_:=HGB.out.below hb
     have HB_:=bstep HB.out hb
     have HC_:=HC.out.below hb
     clear HX HV HM HQB HGB HB HC
     have HX:=hol HX_
     have HV:=hol HV_
     have HM:=hol HM_
     have HQB:=hol HQB_
     have HGB:=hol HGB_
     have HB:=hol HB_
     have HC:=hol HC_
     clear HX_ HV_ HM_ HQB_ HGB_ HB_ HC_
     clear hb
     simp only [frameOf,Nat.reduceAdd]
     rw [es]
     clear es
     generalize sp 5=y5,sp 8=y8 at *
     go_simp
     go_wp2
     refine wp_region_duties (by kernel_rfl) (by kernel_rfl)
      [some (.agg #[.slice p0 n0 c0,.slice p1 n1 c1,.slice p2 n2 c2,.slice p3 n3 c3]),some (.slice qc mc dc),none,some (.agg #[.slice p0 n0 c0,.slice p1 n1 c1,.slice p2 n2 c2,.slice p3 n3 c3]),some (.slice qs ms ds),none,none,none]
      [false,false,true,false,false,true,true,true] rfl
      (fun w1 w2=>Below w1.heap.size w1 w2)
      (fun _ w'=>Below w5.heap.size w5 w')
      (fun i v w'=>match i with
       | 2=>BytesV (bsize Q) (beOf CC (bsize Q)) v w'
       | 5=>BytesV (bsize Q) (beOf SS (bsize Q)) v w'
       | 6=>OwnIs 0 SB v w'
       | 7=>OwnIs 0 SB v w'
       | _=>True)
      ?_ (Below.refl _ _).drew ?_ ?_
     ·intro i v w1 w2 hf hb
      split at hf
      ·exact hf.below hb
      ·exact hf.below hb
      ·exact hf.below hb
      ·exact hf.below hb
      ·trivial
     ·simp only [Duties,Nat.reduceAdd]
      refine ⟨?_,?_,?_,?_,?_,?_,?_,?_,trivial⟩
      all_goals intro D sp w' hD hW hdp hbx'
      case refine_1 | refine_4 =>
       have hB4:=HBX.out.below hbx' HBX.out.lt
       have g0:=hB4.cells.1
       have g1:=hB4.cells.2.1
       have g2:=hB4.cells.2.2.1
       have g3:=hB4.cells.2.2.2
       with_reducible refine asked_pl ?_ ?_
       all_goals simp [Region.wanted,yielded,execOp,Act.eval,Act.put,go_sem,g0,g1,g2,g3]
      case refine_3 =>
       (with_reducible refine asked_call (w1:=w') (f := 54) (args:=#[.agg #[.slice p0 n0 c0,.slice p1 n1 c1,.slice p2 n2 c2,.slice p3 n3 c3],.slice qc mc dc]) ?_ ?_ ?_)
       ·simp [Region.wanted,yielded,Act.put,go_sem]
       ·simp [Act.eval,Act.put,go_sem]
       ·refine (dfixed_calls (HV.out.below hbx') (HC.out.below hbx') HQl.out HQf.out (HCl.out)).mono ?_
        rintro en w9 ⟨g9,rfl,hu,_,hb⟩
        exact ⟨_,rfl,hb,⟨g9,rfl,hu⟩,bstep hbx' hb⟩
      case refine_6 =>
       (with_reducible refine asked_call (w1:=w') (f := 54) (args:=#[.agg #[.slice p0 n0 c0,.slice p1 n1 c1,.slice p2 n2 c2,.slice p3 n3 c3],.slice qs ms ds]) ?_ ?_ ?_)
       ·simp [Region.wanted,yielded,Act.put,go_sem]
       ·simp [Act.eval,Act.put,go_sem]
       ·refine (dfixed_calls (HV.out.below hbx') (HS.out.below hbx') HQl.out HQf.out (HSl.out)).mono ?_
        rintro en w9 ⟨g9,rfl,hu,_,hb⟩
        exact ⟨_,rfl,hb,⟨g9,rfl,hu⟩,bstep hbx' hb⟩
      case refine_7 =>
       have hxa:∃ g,sp 2=.slice (some ⟨g,0,none⟩) (bsize Q) (bsize Q) /\ Blk w' g 5 .u8 (beOf CC (bsize Q)):=(hdp 2 (mq (by kernel_rfl))).2
       (with_reducible refine Exists.elim hxa fun ga ha1=>?_)
       have ea:=ha1.1
       have hxb:∃ g,sp 5=.slice (some ⟨g,0,none⟩) (bsize Q) (bsize Q) /\ Blk w' g 5 .u8 (beOf SS (bsize Q)):=(hdp 5 (mq (by kernel_rfl))).2
       (with_reducible refine Exists.elim hxb fun gb hb1=>?_)
       have eb:=hb1.1
       (with_reducible refine run_app_full (n:=bsize Q) ha1.2 (beOf_length _ _).symm (blk_part hb1.2 HQk.out).row HWp.out (show bsize Q + bsize Q <= 140737488355328 by have:=HQf.out; omega) 70 (fun v' w5 hr ho hb=>?_))
       (with_reducible refine asked_value (v:=v') (w1:=w5) ?_ ?_ ?_)
       ·simp only [Region.wanted]
       ·simp [execOp,resolve,invoke,builtin,Act.eval,Act.put,ea,eb,hr,Result.andThen]
       ·have h9:=(OwnIs.mk ho).zero
        rw [HSB.out] at h9
        exact ⟨hb,h9,bstep hbx' hb⟩
      case refine_8 =>
       have k6:OwnIs 0 SB (sp 6) w':=(hdp 6 (mq (by kernel_rfl))).2
       (with_reducible refine asked_value (w1:=w') (v:=sp 6) ?_ ?_ ?_)
       ·simp [Region.wanted,yielded,Act.put,go_sem]
       ·simp [execOp,Act.eval,Act.put,go_sem]
       ·exact ⟨Below.refl _ _,k6,hbx'⟩
      all_goals ((with_reducible refine asked_pl ?_ ?_); all_goals first | (simp only [Region.wanted]; done) | simp [Region.wanted,yielded,execOp,Act.eval,Act.put,go_sem])
     ·intro sp w6 hsp hb
      have HO:Hold (OwnIs 0 SB (sp 7) w6):=⟨hsp 7 rfl⟩
      have HBf:=hol (bstep HB.out hb)
      clear hsp hb
      simp only [frameOf,Nat.reduceAdd]
      generalize sp 2=y2,sp 5=y5,sp 6=y6,sp 7=y7 at *
      go_simp
      go_wp2
      go_ret
      exact ⟨_,rfl,HO.out,HBf.out⟩
  ·have hm0:((mk:Int) == 0)=false:=by rw [beq_eq_false_iff_ne]; omega
   have HKD:Hold (sigK Q X msg=Z):=⟨by rw [HKD0.out,if_neg (fun h=>hz (hmz.2 h))]⟩
   have HKl:=hol HZl.out
   have HK:=hol HK1.out
   clear hz hmz HK1
   obtain ⟨GK,hGK⟩:∃ ZZ,G ^ Z % P=ZZ:=⟨_,rfl⟩
   obtain ⟨Y,hYE⟩:∃ ZZ,G ^ X % P=ZZ:=⟨_,rfl⟩
   obtain ⟨CC,hCC⟩:∃ ZZ,sigCh P Q GK Y msg=ZZ:=⟨_,rfl⟩
   obtain ⟨MM,hMM⟩:∃ ZZ,CC * X % Q=ZZ:=⟨_,rfl⟩
   obtain ⟨SS,hSS⟩:∃ ZZ,(Z + MM) % Q=ZZ:=⟨_,rfl⟩
   have HSB:Hold (beOf CC (bsize Q) ++ beOf SS (bsize Q)=SB):=⟨by
    rw [<- HSB0.out]
    unfold sigB sigS sigC
    rw [HKD.out,hGK,hYE,hCC,hMM,hSS]⟩
   have HGK:=hol hGK
   have HYE:=hol hYE
   have HCC:=hol hCC
   have HMM:=hol hMM
   have HSS:=hol hSS
   have hlq:=bsize_lt Q
   have HGKl:Hold (GK < P):=⟨by rw [<- hGK]; exact Nat.mod_lt _ HP0.out⟩
   have HYl:Hold (Y < P):=⟨by rw [<- hYE]; exact Nat.mod_lt _ HP0.out⟩
   have hcq:CC < Q:=by rw [<- hCC]; exact sigCh_lt HQ0.out
   have hsq:SS < Q:=by rw [<- hSS]; exact Nat.mod_lt _ HQ0.out
   have hmq:MM < Q:=by rw [<- hMM]; exact Nat.mod_lt _ HQ0.out
   have HCl:Hold (CC < B8 (bsize Q)):=⟨Nat.lt_trans hcq hlq⟩
   have HSl:Hold (SS < B8 (bsize Q)):=⟨Nat.lt_trans hsq hlq⟩
   have HCb:Hold (blen CC <= 100000):=⟨blen_lt_few hcq HQf.out⟩
   have HMb:Hold (blen MM <= 100000):=⟨blen_lt_few hmq HQf.out⟩
   clear hGK hYE hCC hMM hSS hlq hcq hsq hmq
   go_wp2
   refine wp_region_duties (by kernel_rfl) (by kernel_rfl)
    [some (.agg #[.slice p0 n0 c0,.slice p1 n1 c1,.slice p2 n2 c2,.slice p3 n3 c3]),some (.agg #[.slice p0 n0 c0,.slice p1 n1 c1,.slice p2 n2 c2,.slice p3 n3 c3]),some (.pointer (some ⟨b3,2,none⟩)),some (.slice p2 n2 c2),some (.slice qk mk dk),none,some (.agg #[.slice p0 n0 c0,.slice p1 n1 c1,.slice p2 n2 c2,.slice p3 n3 c3]),some (.pointer (some ⟨b3,2,none⟩)),some (.slice p2 n2 c2),some (.slice qx mx dx),none,some (.slice pm nm cm),none,none]
    [false,false,false,false,false,true,false,false,false,false,true,false,true,true] rfl
    (fun w1 w2=>Below w1.heap.size w1 w2)
    (fun _ w'=>Below w1.heap.size w1 w')
    (fun i v w'=>match i with
     | 5=>RBits GK v w'
     | 10=>RBits Y v w'
     | 12=>RBits CC v w'
     | 13=>RBits CC v w'
     | _=>True)
    ?_ (Below.refl _ _).drew ?_ ?_
   ·intro i v w1 w2 hf hb
    split at hf
    ·exact hf.below hb
    ·exact hf.below hb
    ·exact hf.below hb
    ·exact hf.below hb
    ·trivial
   ·simp only [Duties,Nat.reduceAdd]
    refine ⟨?_,?_,?_,?_,?_,?_,?_,?_,?_,?_,?_,?_,?_,?_,trivial⟩
    all_goals intro D sp w' hD hW hdp hbx'
    case refine_1 | refine_2 | refine_7 =>
     have hB4:=HBX.out.below hbx' HBX.out.lt
     have g0:=hB4.cells.1
     have g1:=hB4.cells.2.1
     have g2:=hB4.cells.2.2.1
     have g3:=hB4.cells.2.2.2
     with_reducible refine asked_pl ?_ ?_
     all_goals simp [Region.wanted,yielded,execOp,Act.eval,Act.put,go_sem,g0,g1,g2,g3]
    case refine_4 | refine_9 =>
     have hB4:=HBX.out.below hbx' HBX.out.lt
     have g2:=hB4.cells.2.2.1
     with_reducible refine asked_pl ?_ ?_
     all_goals simp [Region.wanted,yielded,execOp,Act.eval,Act.put,go_sem,g2]
    case refine_6 =>
     (with_reducible refine asked_call (w1:=w') (f := 78) (args:=#[.agg #[.slice p0 n0 c0,.slice p1 n1 c1,.slice p2 n2 c2,.slice p3 n3 c3],.slice p2 n2 c2,.slice qk mk dk]) ?_ ?_ ?_)
     ·simp [Region.wanted,yielded,Act.put,go_sem]
     ·simp [Act.eval,Act.put,go_sem]
     ·refine (dgexp_calls (HV.out.below hbx') (HGB.out.below hbx') (HK.out.below hbx') HGl.out (HKl.out) HPl.out HP0.out).mono ?_
      rintro en w9 ⟨u,rfl,hu,hb⟩
      rw [HGK.out] at hu
      exact ⟨u,rfl,hb,hu,bstep hbx' hb⟩
    case refine_11 =>
     (with_reducible refine asked_call (w1:=w') (f := 78) (args:=#[.agg #[.slice p0 n0 c0,.slice p1 n1 c1,.slice p2 n2 c2,.slice p3 n3 c3],.slice p2 n2 c2,.slice qx mx dx]) ?_ ?_ ?_)
     ·simp [Region.wanted,yielded,Act.put,go_sem]
     ·simp [Act.eval,Act.put,go_sem]
     ·refine (dgexp_calls (HV.out.below hbx') (HGB.out.below hbx') (HX.out.below hbx') HGl.out (HXb.out) HPl.out HP0.out).mono ?_
      rintro en w9 ⟨u,rfl,hu,hb⟩
      rw [HYE.out] at hu
      exact ⟨u,rfl,hb,hu,bstep hbx' hb⟩
    case refine_13 =>
     have k5:RBits GK (sp 5) w':=(hdp 5 (mq (by kernel_rfl))).2
     have k10:RBits Y (sp 10) w':=(hdp 10 (mq (by kernel_rfl))).2
     (with_reducible refine asked_call (w1:=w') (f := 55) (args:=#[.agg #[.slice p0 n0 c0,.slice p1 n1 c1,.slice p2 n2 c2,.slice p3 n3 c3],sp 5,sp 10,.slice pm nm cm]) ?_ ?_ ?_)
     ·simp [Region.wanted,yielded,Act.put,go_sem]
     ·simp [Act.eval,Act.put,go_sem]
     ·refine (dsch_calls (HV.out.below hbx') k5 k10 HGKl.out HYl.out HPl.out HQl.out HQ0.out HPf.out (HM.out.below hbx') HZM.out HNM.out).mono ?_
      rintro en w9 ⟨u,rfl,hu,hb⟩
      rw [HCC.out] at hu
      exact ⟨u,rfl,hb,hu,bstep hbx' hb⟩
    case refine_14 =>
     have k12:RBits CC (sp 12) w':=(hdp 12 (mq (by kernel_rfl))).2
     (with_reducible refine asked_value (w1:=w') (v:=sp 12) ?_ ?_ ?_)
     ·simp [Region.wanted,yielded,Act.put,go_sem]
     ·simp [execOp,Act.eval,Act.put,go_sem]
     ·exact ⟨Below.refl _ _,k12,hbx'⟩
    all_goals ((with_reducible refine asked_pl ?_ ?_); all_goals first | (simp only [Region.wanted]; done) | simp [Region.wanted,yielded,execOp,Act.eval,Act.put,go_sem])
   ·intro sp w4 hsp hb
    obtain ⟨qc,mc,dc,ec,hc⟩:RBits CC (sp 13) w4:=hsp 13 rfl
    have HC:=hol (RBits.of hc)
    have HBX:=hol (HBX.out.below hb HBX.out.lt)
    clear hsp hc
    have HX_:=HX.out.below hb
    have HV_:=HV.out.below hb
    have HM_:=HM.out.below hb
    have HQB_:=HQB.out.below hb
    have HGB_:=HGB.out.below hb
    have HB_:=bstep HB.out hb
    have HK_:=HK.out.below hb
    clear HX HV HM HQB HGB HB HK
    have HX:=hol HX_
    have HV:=hol HV_
    have HM:=hol HM_
    have HQB:=hol HQB_
    have HGB:=hol HGB_
    have HB:=hol HB_
    have HK:=hol HK_
    clear HX_ HV_ HM_ HQB_ HGB_ HB_ HK_
    clear hb
    simp only [frameOf,Nat.reduceAdd]
    rw [ec]
    clear ec
    generalize sp 5=y5,sp 10=y10,sp 12=y12 at *
    go_simp
    go_wp2
    refine wp_region_duties (by kernel_rfl) (by kernel_rfl)
     [some (.slice qk mk dk),some (.slice qc mc dc),some (.slice qx mx dx),some (.pointer (some ⟨b3,1,none⟩)),some (.slice p1 n1 c1),none,some (.pointer (some ⟨b3,1,none⟩)),some (.slice p1 n1 c1),none,none]
     [false,false,false,false,false,true,false,false,true,true] rfl
     (fun w1 w2=>Below w1.heap.size w1 w2)
     (fun _ w'=>Below w4.heap.size w4 w')
     (fun i v w'=>match i with
      | 5=>RBits MM v w'
      | 8=>RBits SS v w'
      | 9=>RBits SS v w'
      | _=>True)
     ?_ (Below.refl _ _).drew ?_ ?_
    ·intro i v w1 w2 hf hb
     split at hf
     ·exact hf.below hb
     ·exact hf.below hb
     ·exact hf.below hb
     ·trivial
    ·simp only [Duties,Nat.reduceAdd]
     refine ⟨?_,?_,?_,?_,?_,?_,?_,?_,?_,?_,trivial⟩
     all_goals intro D sp w' hD hW hdp hbx'
     case refine_5 | refine_8 =>
      have hB4:=HBX.out.below hbx' HBX.out.lt
      have g1:=hB4.cells.2.1
      with_reducible refine asked_pl ?_ ?_
      all_goals simp [Region.wanted,yielded,execOp,Act.eval,Act.put,go_sem,g1]
     case refine_6 =>
      (with_reducible refine asked_call (w1:=w') (f := 76) (args:=#[.slice qc mc dc,.slice qx mx dx,.slice p1 n1 c1]) ?_ ?_ ?_)
      ·simp [Region.wanted,yielded,Act.put,go_sem]
      ·simp [Act.eval,Act.put,go_sem]
      ·refine (dmul_fit (HC.out.below hbx') (HX.out.below hbx') (HQB.out.below hbx') HCb.out HXb.out HQl.out HQ0.out).mono ?_
       rintro en w9 ⟨u,rfl,hu,hb⟩
       rw [HMM.out] at hu
       exact ⟨u,rfl,hb,hu,bstep hbx' hb⟩
     case refine_9 =>
      have k5:RBits MM (sp 5) w':=(hdp 5 (mq (by kernel_rfl))).2
      (with_reducible refine asked_call (w1:=w') (f := 75) (args:=#[.slice qk mk dk,sp 5,.slice p1 n1 c1]) ?_ ?_ ?_)
      ·simp [Region.wanted,yielded,Act.put,go_sem]
      ·simp [Act.eval,Act.put,go_sem]
      ·refine (dadd_fit (HK.out.below hbx') k5 (HQB.out.below hbx') HKl.out HMb.out HQl.out HQ0.out).mono ?_
       rintro en w9 ⟨u,rfl,hu,hb⟩
       rw [HSS.out] at hu
       exact ⟨u,rfl,hb,hu,bstep hbx' hb⟩
     case refine_10 =>
      have k8:RBits SS (sp 8) w':=(hdp 8 (mq (by kernel_rfl))).2
      (with_reducible refine asked_value (w1:=w') (v:=sp 8) ?_ ?_ ?_)
      ·simp [Region.wanted,yielded,Act.put,go_sem]
      ·simp [execOp,Act.eval,Act.put,go_sem]
      ·exact ⟨Below.refl _ _,k8,hbx'⟩
     all_goals ((with_reducible refine asked_pl ?_ ?_); all_goals first | (simp only [Region.wanted]; done) | simp [Region.wanted,yielded,execOp,Act.eval,Act.put,go_sem])
    ·intro sp w5 hsp hb
     obtain ⟨qs,ms,ds,es,hs⟩:RBits SS (sp 9) w5:=hsp 9 rfl
     have HS:=hol (RBits.of hs)
     have HBX:=hol (HBX.out.below hb HBX.out.lt)
     clear hsp hs
     have HX_:=HX.out.below hb
     have HV_:=HV.out.below hb
     have HM_:=HM.out.below hb
     have HQB_:=HQB.out.below hb
     have HGB_:=HGB.out.below hb
     have HB_:=bstep HB.out hb
     have HC_:=HC.out.below hb
     clear HX HV HM HQB HGB HB HC
     have HX:=hol HX_
     have HV:=hol HV_
     have HM:=hol HM_
     have HQB:=hol HQB_
     have HGB:=hol HGB_
     have HB:=hol HB_
     have HC:=hol HC_
     clear HX_ HV_ HM_ HQB_ HGB_ HB_ HC_
     clear hb
     simp only [frameOf,Nat.reduceAdd]
     rw [es]
     clear es
     generalize sp 5=y5,sp 8=y8 at *
     go_simp
     go_wp2
     refine wp_region_duties (by kernel_rfl) (by kernel_rfl)
      [some (.agg #[.slice p0 n0 c0,.slice p1 n1 c1,.slice p2 n2 c2,.slice p3 n3 c3]),some (.slice qc mc dc),none,some (.agg #[.slice p0 n0 c0,.slice p1 n1 c1,.slice p2 n2 c2,.slice p3 n3 c3]),some (.slice qs ms ds),none,none,none]
      [false,false,true,false,false,true,true,true] rfl
      (fun w1 w2=>Below w1.heap.size w1 w2)
      (fun _ w'=>Below w5.heap.size w5 w')
      (fun i v w'=>match i with
       | 2=>BytesV (bsize Q) (beOf CC (bsize Q)) v w'
       | 5=>BytesV (bsize Q) (beOf SS (bsize Q)) v w'
       | 6=>OwnIs 0 SB v w'
       | 7=>OwnIs 0 SB v w'
       | _=>True)
      ?_ (Below.refl _ _).drew ?_ ?_
     ·intro i v w1 w2 hf hb
      split at hf
      ·exact hf.below hb
      ·exact hf.below hb
      ·exact hf.below hb
      ·exact hf.below hb
      ·trivial
     ·simp only [Duties,Nat.reduceAdd]
      refine ⟨?_,?_,?_,?_,?_,?_,?_,?_,trivial⟩
      all_goals intro D sp w' hD hW hdp hbx'
      case refine_1 | refine_4 =>
       have hB4:=HBX.out.below hbx' HBX.out.lt
       have g0:=hB4.cells.1
       have g1:=hB4.cells.2.1
       have g2:=hB4.cells.2.2.1
       have g3:=hB4.cells.2.2.2
       with_reducible refine asked_pl ?_ ?_
       all_goals simp [Region.wanted,yielded,execOp,Act.eval,Act.put,go_sem,g0,g1,g2,g3]
      case refine_3 =>
       (with_reducible refine asked_call (w1:=w') (f := 54) (args:=#[.agg #[.slice p0 n0 c0,.slice p1 n1 c1,.slice p2 n2 c2,.slice p3 n3 c3],.slice qc mc dc]) ?_ ?_ ?_)
       ·simp [Region.wanted,yielded,Act.put,go_sem]
       ·simp [Act.eval,Act.put,go_sem]
       ·refine (dfixed_calls (HV.out.below hbx') (HC.out.below hbx') HQl.out HQf.out (HCl.out)).mono ?_
        rintro en w9 ⟨g9,rfl,hu,_,hb⟩
        exact ⟨_,rfl,hb,⟨g9,rfl,hu⟩,bstep hbx' hb⟩
      case refine_6 =>
       (with_reducible refine asked_call (w1:=w') (f := 54) (args:=#[.agg #[.slice p0 n0 c0,.slice p1 n1 c1,.slice p2 n2 c2,.slice p3 n3 c3],.slice qs ms ds]) ?_ ?_ ?_)
       ·simp [Region.wanted,yielded,Act.put,go_sem]
       ·simp [Act.eval,Act.put,go_sem]
       ·refine (dfixed_calls (HV.out.below hbx') (HS.out.below hbx') HQl.out HQf.out (HSl.out)).mono ?_
        rintro en w9 ⟨g9,rfl,hu,_,hb⟩
        exact ⟨_,rfl,hb,⟨g9,rfl,hu⟩,bstep hbx' hb⟩
      case refine_7 =>
       have hxa:∃ g,sp 2=.slice (some ⟨g,0,none⟩) (bsize Q) (bsize Q) /\ Blk w' g 5 .u8 (beOf CC (bsize Q)):=(hdp 2 (mq (by kernel_rfl))).2
       (with_reducible refine Exists.elim hxa fun ga ha1=>?_)
       have ea:=ha1.1
       have hxb:∃ g,sp 5=.slice (some ⟨g,0,none⟩) (bsize Q) (bsize Q) /\ Blk w' g 5 .u8 (beOf SS (bsize Q)):=(hdp 5 (mq (by kernel_rfl))).2
       (with_reducible refine Exists.elim hxb fun gb hb1=>?_)
       have eb:=hb1.1
       (with_reducible refine run_app_full (n:=bsize Q) ha1.2 (beOf_length _ _).symm (blk_part hb1.2 HQk.out).row HWp.out (show bsize Q + bsize Q <= 140737488355328 by have:=HQf.out; omega) 70 (fun v' w5 hr ho hb=>?_))
       (with_reducible refine asked_value (v:=v') (w1:=w5) ?_ ?_ ?_)
       ·simp only [Region.wanted]
       ·simp [execOp,resolve,invoke,builtin,Act.eval,Act.put,ea,eb,hr,Result.andThen]
       ·have h9:=(OwnIs.mk ho).zero
        rw [HSB.out] at h9
        exact ⟨hb,h9,bstep hbx' hb⟩
      case refine_8 =>
       have k6:OwnIs 0 SB (sp 6) w':=(hdp 6 (mq (by kernel_rfl))).2
       (with_reducible refine asked_value (w1:=w') (v:=sp 6) ?_ ?_ ?_)
       ·simp [Region.wanted,yielded,Act.put,go_sem]
       ·simp [execOp,Act.eval,Act.put,go_sem]
       ·exact ⟨Below.refl _ _,k6,hbx'⟩
      all_goals ((with_reducible refine asked_pl ?_ ?_); all_goals first | (simp only [Region.wanted]; done) | simp [Region.wanted,yielded,execOp,Act.eval,Act.put,go_sem])
     ·intro sp w6 hsp hb
      have HO:Hold (OwnIs 0 SB (sp 7) w6):=⟨hsp 7 rfl⟩
      have HBf:=hol (bstep HB.out hb)
      clear hsp hb
      simp only [frameOf,Nat.reduceAdd]
      generalize sp 2=y2,sp 5=y5,sp 6=y6,sp 7=y7 at *
      go_simp
      go_wp2
      go_ret
      exact ⟨_,rfl,HO.out,HBf.out⟩
end Go.Proofs.YtdebccghjbfgdaaGreatDoor
