/- What is signed (sign.Sign). -/
import Derived.Test.YtdebccghjbfgdaaGreatDoorSgD
set_option maxRecDepth 1000000
set_option maxHeartbeats 16000000
set_option linter.unusedSimpArgs false
set_option linter.unusedVariables false
namespace Go.Proofs.YtdebccghjbfgdaaGreatDoor
open Go Go.RowKit Go.Proofs.YtdebccghjbfgdaaGreatDoor.Flow
def SigV (C S:Nat) (v:Value) (w:World):Prop:=∃ x y:Option Addr × Nat × Nat,v=.agg #[.slice x.1 x.2.1 x.2.2,.slice y.1 y.2.1 y.2.2] /\ At3 w x C /\ At3 w y S
theorem SigV.below {C S:Nat} {v:Value} {w w':World} (h:SigV C S v w) (hb:Below w.heap.size w w'):SigV C S v w' :=
 let ⟨x,y,h1,h2,h3⟩:=h
 ⟨x,y,h1,h2.below hb,h3.below hb⟩
theorem sign_ok {w:World} {b P Q G H e X:Nat} {v:Value} {pm:Option Addr} {nm cm:Nat} {msg:List Nat} (hg:GroupAt w b P Q G H) (hT:Tabs w) (hv:Fit e X v w) (he:e <= 30000) (hP:bsize P <= 16) (hQ:bsize Q <= 16) (hm:PartOk w ⟨pm,nm,cm,msg⟩) (hk:0 < X /\ X < Q) :
  Calls Tryz.prog 47 #[.pointer (some ⟨b,0,none⟩),v,.slice pm nm cm] w fun en w'=>∃ u,en=.returned (.tuple #[u,.int .i64 0]) /\ OwnIs 0 (sigB P Q G X msg) u w' /\ Below w.heap.size w w':=by
 obtain ⟨px,nx,cx,rfl,h1,h2⟩:=fit_cases hv
 have hb0:Below w.heap.size w (w.alloc (.cells #[.slice px nx cx] 36)):=bal
 have hX0:=NatBox.made w (.slice px nx cx)
 obtain ⟨wa,hwa⟩:∃ W,w.alloc (.cells #[.slice px nx cx] 36)=W:=⟨_,rfl⟩
 rw [hwa] at hb0 hX0
 have c0:=hX0.cell
 have HX0:=hol hX0
 have HBL:=hol hb0
 have HX:=hol ((Fit.of h1 h2).below hb0)
 have HGA:=hol hg
 have HT:=hol hT
 have HM:=hol hm
 have HPs:=hol hP
 have HQs:=hol hQ
 have HKy:=hol hk
 have HPU:=hol (public_ok (hg.below hb0) ((Fit.of h1 h2).below hb0) he hk)
 have HQl:=hol hg.lims.2.2.2
 have hP2:=hg.lims.1
 have hQ2:=hg.lims.2.2.1
 obtain ⟨Y,hY⟩:∃ Y,G ^ X % P=Y:=⟨_,rfl⟩
 obtain ⟨KD,hKN⟩:∃ K,sigK Q X msg=K:=⟨_,rfl⟩
 obtain ⟨GK,hGK⟩:∃ K,G ^ KD % P=K:=⟨_,rfl⟩
 obtain ⟨CC,hCC⟩:∃ C,sigCh P Q GK Y msg=C:=⟨_,rfl⟩
 obtain ⟨MM,hMM⟩:∃ M,CC * X % Q=M:=⟨_,rfl⟩
 obtain ⟨SS,hSS⟩:∃ S,(KD + MM) % Q=S:=⟨_,rfl⟩
 obtain ⟨SB,hSB⟩:∃ S,sigB P Q G X msg=S:=⟨_,rfl⟩
 have HSB:Hold (beOf CC (bsize Q) ++ beOf SS (bsize Q)=SB):=⟨by
  rw [<- hSB]
  unfold sigB sigS sigC
  rw [hKN,hGK,hY,hCC,hMM,hSS]⟩
 have HY:=hol hY
 have HKN:=hol hKN
 have HGK:=hol hGK
 have HCC:=hol hCC
 have HMM:=hol hMM
 have HSS:=hol hSS
 have HGKl:Hold (GK < P):=⟨by rw [<- hGK]; exact Nat.mod_lt _ (by omega)⟩
 have HYl:Hold (Y < P):=⟨by rw [<- hY]; exact Nat.mod_lt _ (by omega)⟩
 have HCl:Hold (CC < Q):=⟨by rw [<- hCC]; exact sigCh_lt (by omega)⟩
 have HSl:Hold (SS < Q):=⟨by rw [<- hSS]; exact Nat.mod_lt _ (by omega)⟩
 rw [hSB]
 clear hY hKN hGK hCC hMM hSS hSB h1 h2 hg hv hT hm hP hQ hk hX0 hb0 hP2 hQ2
 go_enter Tryz.func47,Tryz.ntmps47
 go_wp2_with fail
 refine HPU.out.mono ?_
 rintro en w1 ⟨_,rfl,⟨py,ny,cy,rfl,hy,ly⟩,hb1⟩
 rw [HY.out] at hy ly
 have hb2:Below w1.heap.size w1 (w1.alloc (.cells #[.slice py ny cy] 36)):=bal
 have hX2:=NatBox.made w1 (.slice py ny cy)
 obtain ⟨w2,hw2⟩:∃ W,w1.alloc (.cells #[.slice py ny cy] 36)=W:=⟨_,rfl⟩
 rw [hw2] at hb2 hX2
 have hb02:=bstep hb1 hb2
 have HB2:=hol (bstep HBL.out hb02)
 have HX2:=hol (HX0.out.below hb02 HX0.out.lt)
 have HXF2:=hol (HX.out.below hb02)
 have HXY2:=hol hX2
 have HY2:=hol ((Fit.of hy ly).below hb2)
 clear hy ly hb1 hb2 hb02 hX2 HX0 HX HBL hwa HPU c0
 have c0:=HX2.out.cell
 go_wp2_with fail
 clear hw2
 refine (draw_fit (HGA.out.below HB2.out) (HT.out.below HB2.out HT.out.size) HXF2.out he HKy.out.2 HQs.out (HM.out.below HB2.out)).mono ?_
 rintro en w3 ⟨_,rfl,⟨pk,nk,ck,rfl,hk3,lk3⟩,hb3⟩
 rw [HKN.out] at hk3 lk3
 have hb4:Below w3.heap.size w3 (w3.alloc (.cells #[.slice pk nk ck] 36)):=bal
 have hX4:=NatBox.made w3 (.slice pk nk ck)
 obtain ⟨w4,hw4⟩:∃ W,w3.alloc (.cells #[.slice pk nk ck] 36)=W:=⟨_,rfl⟩
 rw [hw4] at hb4 hX4
 have hb34:=bstep hb3 hb4
 have HB4:=hol (bstep HB2.out hb34)
 have HXX:=hol (HX2.out.below hb34 HX2.out.lt)
 have HXF:=hol (HXF2.out.below hb34)
 have HXY:=hol (HXY2.out.below hb34 HXY2.out.lt)
 have HY:Hold (Fit 33 Y (.agg #[.slice py ny cy]) w4):=⟨HY2.out.below hb34⟩
 have HXK:=hol hX4
 have HK:Hold (Fit 33 KD (.agg #[.slice pk nk ck]) w4):=⟨(Fit.of hk3 lk3).below hb4⟩
 have HG:=hol (HGA.out.below HB4.out)
 have HT5:=hol (HT.out.below HB4.out HT.out.size)
 have HM5:=hol (HM.out.below HB4.out)
 clear hk3 lk3 hb3 hb4 hb34 hX4 HX2 HXF2 HXY2 HY2 c0
 go_wp2
 clear hw4
 refine wp_region_dutiesS (by kernel_rfl) (by kernel_rfl)
  [some (.pointer (some ⟨b,0,none⟩)),some (.pointer (some ⟨b,0,none⟩)),some (.pointer (some ⟨b,0,none⟩)),none,some (.agg #[.slice pk nk ck]),none,some (.agg #[.slice py ny cy]),some (.slice pm nm cm),none,none,none]
  [false,false,false,true,false,true,false,false,true,true,true] rfl
  (fun wA wB=>KN (w4.heap.size) wA wB)
  (fun D sp w'=>RG (w4.heap.size) w4 [] w' /\ MkB (D 9) (D 10) (sp 9) (w4.heap.size) (CC) w')
  (fun i v w'=>match i with
   | 3=>Fit 33 G v w'
   | 5=>Fit 33 (GK) v w'
   | 8=>Fit 33 (CC) v w'
   | _=>True)
  ?_ ⟨RG.start (Nat.le_refl _) (fun x hx=>by cases hx),MkB.start (Nat.le_refl _)⟩ ?_ ?_
 ·intro i v wA wB hf hb
  split at hf
  ·exact hf.kn hb
  ·exact hf.kn hb
  ·exact hf.kn hb
  ·trivial
 ·simp only [DutiesS,Nat.reduceAdd]
  refine ⟨?_,?_,?_,?_,?_,?_,?_,?_,?_,?_,?_,trivial⟩
  all_goals intro D sp w' hD hW hdp hg
  case refine_4 =>
   (with_reducible refine asked_call (w1:=w') (f := 40) (args:=#[.pointer (some ⟨b,0,none⟩)]) ?_ ?_ ?_)
   ·simp [Region.wanted,yielded,Act.put,go_sem]
   ·simp [Act.eval,Act.put,go_sem]
   ·refine (gG_fit (HG.out.below hg.1.keep.bel)).mono ?_
    rintro en w9 ⟨u,rfl,hu,hb⟩
    exact ⟨u,rfl,KN.of hb hg.1.base,hu,hg.1.later hb,by simpa [upd] using hg.2.later hb⟩
  case refine_5 =>
   have c0:=(HXK.out.below hg.1.keep.bel HXK.out.lt).cell
   with_reducible refine asked_pl ?_ ?_
   all_goals simp [Region.wanted,yielded,execOp,Act.eval,Act.put,go_sem,c0]
  case refine_6 =>
   have k3:Fit 33 G (sp 3) w':=(hdp 3 (mq (by kernel_rfl))).2
   (with_reducible refine asked_call (w1:=w') (f := 39) (args:=#[.pointer (some ⟨b,0,none⟩),sp 3,.agg #[.slice pk nk ck]]) ?_ ?_ ?_)
   ·simp [Region.wanted,yielded,Act.put,go_sem]
   ·simp [Act.eval,Act.put,go_sem]
   ·refine (gexp_fit (HG.out.below hg.1.keep.bel) k3 (HK.out.below hg.1.keep.bel) (by decide) (by decide)).mono ?_
    rintro en w9 ⟨u,rfl,hu,hb⟩
    rw [HGK.out] at hu
    exact ⟨u,rfl,KN.of hb hg.1.base,hu,hg.1.later hb,by simpa [upd] using hg.2.later hb⟩
  case refine_7 =>
   have c0:=(HXY.out.below hg.1.keep.bel HXY.out.lt).cell
   with_reducible refine asked_pl ?_ ?_
   all_goals simp [Region.wanted,yielded,execOp,Act.eval,Act.put,go_sem,c0]
  case refine_9 =>
   have k5:Fit 33 (GK) (sp 5) w':=(hdp 5 (mq (by kernel_rfl))).2
   (with_reducible refine asked_call (w1:=w') (f := 94) (args:=#[.pointer (some ⟨b,0,none⟩),sp 5,.agg #[.slice py ny cy],.slice pm nm cm]) ?_ ?_ ?_)
   ·simp [Region.wanted,yielded,Act.put,go_sem]
   ·simp [Act.eval,Act.put,go_sem]
   ·refine (schal_fit (HG.out.below hg.1.keep.bel) (HT5.out.below hg.1.keep.bel HT5.out.size) k5 (HY.out.below hg.1.keep.bel) (by decide) HGKl.out HYl.out HPs.out (HM5.out.below hg.1.keep.bel)).mono ?_
    rintro en w9 ⟨u,rfl,hu,hb⟩
    rw [HCC.out] at hu
    exact ⟨u,rfl,KN.of hb hg.1.base,hu,hg.1.later hb,by simpa [upd] using hg.2.later hb⟩
  case refine_10 =>
   have h9:D 10=false:=hW 10 (mq (by kernel_rfl))
   rw [hD,h9] at hg
   (with_reducible refine asked_value (w1:=w'.alloc (.cells #[.slice none 0 0] 36)) (v:=.pointer (some ⟨w'.heap.size,0,none⟩)) ?_ ?_ ?_)
   ·simp [Region.wanted,yielded,Act.put,go_sem]
   ·simp [execOp,go_sem]
   ·have hb:Below w'.heap.size w' (w'.alloc (.cells #[.slice none 0 0] 36)):=bal
    refine ⟨KN.of hb hg.1.base,trivial,hg.1.later hb,?_⟩
    have h8:=hg.2.made
    simpa [upd,h9] using h8
  case refine_11 =>
   have hx:∃ p n c,sp 8=.agg #[.slice p n c] /\ NatAt w' p n c (CC) /\ CC < B32 (33):=(hdp 8 (mq (by kernel_rfl))).2
   (with_reducible refine Exists.elim hx fun p hx1=>Exists.elim hx1 fun n hx2=>Exists.elim hx2 fun c hx3=>?_)
   have h1:=hx3.1
   have h9:D 9=true:=(hdp 9 (mq (by kernel_rfl))).1
   rw [h9] at hg
   have hp:=hg.2.put (hx3.2.1)
   (with_reducible refine Exists.elim hp fun b hy0=>Exists.elim hy0 fun q hy1=>Exists.elim hy1 fun m hy2=>Exists.elim hy2 fun k hy3=>?_)
   have h3:=hy3.1
   have h6:=hy3.2.2.1.cell
   have h7:=hy3.2.2.1.free
   (with_reducible refine asked_skip (w1:=w'.setCell ⟨b,0,none⟩ (.slice p n c)) ?_ ?_ ?_)
   ·simp [Region.wanted,yielded,Act.put,go_sem]
   ·simp [execOp,Act.eval,Act.put,go_sem,h1,h3,h6,h7]
   ·refine ⟨KN.store hy3.2.2.1 (Nat.le_trans (Nat.le_refl _) hy3.2.1) _,trivial,hg.1.store_over hy3.2.2.1 (Nat.le_refl _) hy3.2.1 (fun x hx=>by cases hx) _,?_⟩
    have h8:=hy3.2.2.2
    simpa [upd,h9] using h8
  all_goals ((with_reducible refine asked_pl ?_ ?_); all_goals first | (simp only [Region.wanted]; done) | simp [Region.wanted,yielded,execOp,Act.eval,Act.put,go_sem])
 ·intro sp w5 hsp hg
  obtain ⟨hg1,_,hmk⟩:=hg
  obtain ⟨b11,e11,hb11,pc,nc,cc,hxc,hnc⟩:=hmk rfl
  replace hnc:=hnc rfl
  have HXC5:=hol hxc
  have HNC5:=hol (Fit.of (e:=33) hnc (Nat.lt_trans HCl.out HQl.out))
  have hbel:=hg1.keep.bel
  have HB5:=hol (bstep HB4.out hbel)
  have HXK5:=hol (HXK.out.below hbel HXK.out.lt)
  have HK5:=hol (HK.out.below hbel)
  have HXX5:=hol (HXX.out.below hbel HXX.out.lt)
  have HXF5:=hol (HXF.out.below hbel)
  clear hsp hg1 hmk hxc hnc hb11 hbel HXY HY HM5 HG HT5
  simp only [frameOf,Nat.reduceAdd]
  rw [e11]
  clear e11
  generalize sp 3=y3,sp 5=y5,sp 8=y8,sp 10=y10 at *
  go_simp
  go_wp2_with fail
  refine (gfield_fit (HGA.out.below HB5.out)).mono ?_
  rintro en w6 ⟨r,rfl,hr,hb6⟩
  have HR:=hol hr
  have HB6:=hol (bstep HB5.out hb6)
  have HXC:=hol (HXC5.out.below hb6 HXC5.out.lt)
  have HC7:=hol (HNC5.out.below hb6)
  have HXK7:=hol (HXK5.out.below hb6 HXK5.out.lt)
  have HK7:=hol (HK5.out.below hb6)
  have HXX7:=hol (HXX5.out.below hb6 HXX5.out.lt)
  have HX7:=hol (HXF5.out.below hb6)
  have HG7:=hol (HGA.out.below HB6.out)
  clear hr hb6 HXC5 HNC5 HXK5 HK5 HXX5 HXF5
  go_wp2
  refine wp_region_duties (by kernel_rfl) (by kernel_rfl)
   [some (.agg #[.slice pc nc cc]),some (.pointer (some ⟨r,0,none⟩)),some (.agg #[.slice pk nk ck]),some (.pointer (some ⟨r,0,none⟩)),some (.agg #[.slice pc nc cc]),some (.agg #[.slice px nx cx]),none,none,none,some (.pointer (some ⟨b,0,none⟩)),none,none,some (.int .i64 0)]
   [false,false,false,false,false,false,true,true,true,false,true,true,false] rfl
   (fun w1 w2=>Below w1.heap.size w1 w2)
   (fun _ w'=>Below w6.heap.size w6 w')
   (fun i v w'=>match i with
    | 6=>Fit 33 (MM) v w'
    | 7=>Fit 33 (SS) v w'
    | 8=>SigV CC SS v w'
    | 10=>OwnIs 0 SB v w'
    | 11=>OwnIs 0 SB v w'
    | _=>True)
   ?_ (Below.refl _ _).drew ?_ ?_
  ·intro i v w1 w2 hf hb
   split at hf
   ·exact hf.below hb
   ·exact hf.below hb
   ·exact hf.below hb
   ·exact hf.below hb
   ·exact hf.below hb
   ·trivial
  ·simp only [Duties,Nat.reduceAdd]
   refine ⟨?_,?_,?_,?_,?_,?_,?_,?_,?_,?_,?_,?_,?_,trivial⟩
   all_goals intro D sp w' hD hW hdp hbx'
   case refine_1 | refine_5 =>
    have c0:=(HXC.out.below hbx' HXC.out.lt).cell
    with_reducible refine asked_pl ?_ ?_
    all_goals simp [Region.wanted,yielded,execOp,Act.eval,Act.put,go_sem,c0]
   case refine_3 =>
    have c0:=(HXK7.out.below hbx' HXK7.out.lt).cell
    with_reducible refine asked_pl ?_ ?_
    all_goals simp [Region.wanted,yielded,execOp,Act.eval,Act.put,go_sem,c0]
   case refine_6 =>
    have c0:=(HXX7.out.below hbx' HXX7.out.lt).cell
    with_reducible refine asked_pl ?_ ?_
    all_goals simp [Region.wanted,yielded,execOp,Act.eval,Act.put,go_sem,c0]
   case refine_7 =>
    (with_reducible refine asked_call (w1:=w') (f := 45) (args:=#[.pointer (some ⟨r,0,none⟩),.agg #[.slice pc nc cc],.agg #[.slice px nx cx]]) ?_ ?_ ?_)
    ·simp [Region.wanted,yielded,Act.put,go_sem]
    ·simp [Act.eval,Act.put,go_sem]
    ·refine (rngmul_fit (HR.out.below hbx') (HC7.out.below hbx') (HX7.out.below hbx') (by decide) (by omega)).mono ?_
     rintro en w9 ⟨u,rfl,hu,hb⟩
     rw [HMM.out] at hu
     exact ⟨u,rfl,hb,hu,bstep hbx' hb⟩
   case refine_8 =>
    have k6:Fit 33 (MM) (sp 6) w':=(hdp 6 (mq (by kernel_rfl))).2
    (with_reducible refine asked_call (w1:=w') (f := 43) (args:=#[.pointer (some ⟨r,0,none⟩),.agg #[.slice pk nk ck],sp 6]) ?_ ?_ ?_)
    ·simp [Region.wanted,yielded,Act.put,go_sem]
    ·simp [Act.eval,Act.put,go_sem]
    ·refine (rngadd_fit (HR.out.below hbx') (HK7.out.below hbx') k6 (by decide) (by decide)).mono ?_
     rintro en w9 ⟨u,rfl,hu,hb⟩
     rw [HSS.out] at hu
     exact ⟨u,rfl,hb,hu,bstep hbx' hb⟩
   case refine_9 =>
    have hx:∃ p n c,sp 7=.agg #[.slice p n c] /\ NatAt w' p n c (SS) /\ SS < B32 (33):=(hdp 7 (mq (by kernel_rfl))).2
    (with_reducible refine Exists.elim hx fun p hx1=>Exists.elim hx1 fun n hx2=>Exists.elim hx2 fun c hx3=>?_)
    have h1:=hx3.1
    (with_reducible refine asked_value (w1:=w') (v:=.agg #[.slice pc nc cc,.slice p n c]) ?_ ?_ ?_)
    ·simp only [Region.wanted]
    ·simp [execOp,Act.eval,Act.put,go_sem,h1]
    ·exact ⟨Below.refl _ _,⟨(pc,nc,cc),(p,n,c),rfl,fit_nat (HC7.out.below hbx'),hx3.2.1⟩,hbx'⟩
   case refine_11 =>
    have hx:∃ x y:Option Addr × Nat × Nat,sp 8=.agg #[.slice x.1 x.2.1 x.2.2,.slice y.1 y.2.1 y.2.2] /\ At3 w' x CC /\ At3 w' y SS:=(hdp 8 (mq (by kernel_rfl))).2
    (with_reducible refine Exists.elim hx fun x hx1=>Exists.elim hx1 fun y hx2=>?_)
    have h1:=hx2.1
    (with_reducible refine asked_call (w1:=w') (f := 95) (args:=#[.agg #[.slice x.1 x.2.1 x.2.2,.slice y.1 y.2.1 y.2.2],.pointer (some ⟨b,0,none⟩)]) ?_ ?_ ?_)
    ·simp only [Region.wanted]
    ·simp [Act.eval,Act.put,go_sem,h1]
    ·refine (sigbytes_fit (QAt.of (HG7.out.below hbx')) HQs.out hx2.2.1 hx2.2.2 HCl.out HSl.out HQl.out).mono ?_
     rintro en w9 ⟨u,rfl,hu,hb⟩
     rw [HSB.out] at hu
     exact ⟨u,rfl,hb,hu.zero,bstep hbx' hb⟩
   case refine_12 =>
    have k10:OwnIs 0 SB (sp 10) w':=(hdp 10 (mq (by kernel_rfl))).2
    (with_reducible refine asked_value (w1:=w') (v:=sp 10) ?_ ?_ ?_)
    ·simp [Region.wanted,yielded,Act.put,go_sem]
    ·simp [execOp,Act.eval,Act.put,go_sem]
    ·exact ⟨Below.refl _ _,k10,hbx'⟩
   all_goals ((with_reducible refine asked_pl ?_ ?_); all_goals first | (simp only [Region.wanted]; done) | simp [Region.wanted,yielded,execOp,Act.eval,Act.put,go_sem])
  ·intro sp w8 hsp hb8
   have HO:Hold (OwnIs 0 SB (sp 11) w8):=⟨hsp 11 rfl⟩
   have HBf:=hol (bstep HB6.out hb8)
   clear hsp hb8
   simp only [frameOf,Nat.reduceAdd]
   generalize sp 6=y6,sp 7=y7,sp 8=y8,sp 10=y10,sp 11=y11 at *
   go_simp
   go_wp2
   go_ret2
   exact ⟨_,rfl,HO.out,HBf.out⟩
theorem sign_err {w:World} {b P Q G H e X:Nat} {v:Value} {pm:Option Addr} {nm cm:Nat} {msg:List Nat} (hg:GroupAt w b P Q G H) (hT:Tabs w) (hv:Fit e X v w) (he:e <= 30000) (hP:bsize P <= 16) (hQ:bsize Q <= 16) (hm:PartOk w ⟨pm,nm,cm,msg⟩) (hk:¬ (0 < X /\ X < Q)) :
  Calls Tryz.prog 47 #[.pointer (some ⟨b,0,none⟩),v,.slice pm nm cm] w fun en w'=>en=.returned (.tuple #[.slice none 0 0,.int .i64 1]) /\ Below w.heap.size w w':=by
 obtain ⟨px,nx,cx,rfl,h1,h2⟩:=fit_cases hv
 have hb0:Below w.heap.size w (w.alloc (.cells #[.slice px nx cx] 36)):=bal
 have hX0:=NatBox.made w (.slice px nx cx)
 obtain ⟨wa,hwa⟩:∃ W,w.alloc (.cells #[.slice px nx cx] 36)=W:=⟨_,rfl⟩
 rw [hwa] at hb0 hX0
 have HBL:=hol hb0
 have HPU:=hol (public_err (hg.below hb0) ((Fit.of h1 h2).below hb0) he hk)
 have c0:=hX0.cell
 clear h1 h2 hg hv hT hm hP hQ hk hX0 hb0
 go_enter Tryz.func47,Tryz.ntmps47
 go_wp2_with fail
 refine HPU.out.mono ?_
 rintro en w1 ⟨rfl,hb1⟩
 have HB1:Hold (Below w.heap.size w (w1.alloc (.cells #[.slice none 0 0] 36))):=⟨bstep HBL.out (bstep hb1 ((Below.refl _ _).alloc (Nat.le_refl _) _))⟩
 clear hb1
 go_wp2
 go_ret2
 exact ⟨rfl,HB1.out⟩
end Go.Proofs.YtdebccghjbfgdaaGreatDoor
