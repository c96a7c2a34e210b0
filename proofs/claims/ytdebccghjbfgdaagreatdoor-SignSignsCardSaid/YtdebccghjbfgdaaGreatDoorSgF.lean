/- Does a signature verify (sign.Verify)? -/
import Derived.Test.YtdebccghjbfgdaaGreatDoorSgE
set_option maxRecDepth 1000000
set_option maxHeartbeats 16000000
set_option linter.unusedSimpArgs false
set_option linter.unusedVariables false
namespace Go.Proofs.YtdebccghjbfgdaaGreatDoor
open Go Go.RowKit Go.Proofs.YtdebccghjbfgdaaGreatDoor.Flow
def Row2 (N M:Nat) (v:Value) (w:World):Prop:=∃ (g:Nat) (x y:Option Addr × Nat × Nat),v=.slice (some ⟨g,0,none⟩) 2 2 /\ w.heap[g]? = some (.cells #[.slice x.1 x.2.1 x.2.2,.slice y.1 y.2.1 y.2.2] 36 (0,0)) /\ At3 w x N /\ At3 w y M /\ N < B32 33 /\ M < B32 33
theorem Row2.kn {N M B:Nat} {v:Value} {w w':World} (h:Row2 N M v w) (k:KN B w w'):Row2 N M v w' :=
 let ⟨g,x,y,h1,h2,h3,h4,h5,h6⟩:=h
 ⟨g,x,y,h1,k.blk _ _ h2 (fun _ _ _=>by simp),k.k.nat _ _ _ _ h3,k.k.nat _ _ _ _ h4,h5,h6⟩
theorem Row2.plist {N M g:Nat} {x y:Option Addr × Nat × Nat} {w:World} (h2:w.heap[g]? = some (.cells #[.slice x.1 x.2.1 x.2.2,.slice y.1 y.2.1 y.2.2] 36 (0,0))) (h3:At3 w x N) (h4:At3 w y M) (h5:N < B32 33) (h6:M < B32 33):PList w 33 (some ⟨g,0,none⟩) 2 2 [N,M]:=by
 refine ⟨rfl,Nat.le_refl _,by decide,(fun e=>by cases e),fun _=>⟨g,0,rfl,(Array.getElem?_eq_some_iff.1 h2).1,fun i K hK=>?_⟩⟩
 match i,hK with
 | 0,hK=>cases hK; exact ⟨x.1,x.2.1,x.2.2,by simp [World.cell?,h2],h3,h5⟩
 | 1,hK=>cases hK; exact ⟨y.1,y.2.1,y.2.2,by simp [World.cell?,h2],h4,h6⟩
theorem pair_prod {P G S Z C:Nat}:mprod P 1 ([G,Z].zip [S,C])=(1 * (G ^ S % P) % P) * (Z ^ C % P) % P:=rfl
theorem verify_fit {w:World} {b P Q G H Y e nm cm ns cs:Nat} {v:Value} {pm ps:Option Addr} {msg sig:List Nat} (hg:GroupAt w b P Q G H) (hT:Tabs w) (hv:Fit e Y v w) (he:e <= 33) (hP:bsize P <= 16) (hQ:bsize Q <= 16) (hm:PartOk w ⟨pm,nm,cm,msg⟩) (hs:PartOk w ⟨ps,ns,cs,sig⟩) :
  Calls Tryz.prog 52 #[.pointer (some ⟨b,0,none⟩),v,.slice pm nm cm,.slice ps ns cs] w fun en w'=>∃ X,en=.returned (.bool X) /\ (X=true ↔ sigOk P Q G Y msg sig) /\ Below w.heap.size w w':=by
 obtain ⟨py,ny,cy,rfl,h1,h2⟩:=fit_cases (hv.wide he)
 have hb0:Below w.heap.size w (w.alloc (.cells #[.slice py ny cy] 36)):=bal
 have hX0:=NatBox.made w (.slice py ny cy)
 obtain ⟨wa,hwa⟩:∃ W,w.alloc (.cells #[.slice py ny cy] 36)=W:=⟨_,rfl⟩
 rw [hwa] at hb0 hX0
 have HX0:=hol hX0
 have HBL:=hol hb0
 have HY0:=hol ((Fit.of h1 h2).below hb0)
 have HGA:=hol hg
 have HT:=hol hT
 have HM:=hol hm
 have HPs:=hol hP
 have HSG:=hol (sigof_fit (QAt.of (hg.below hb0)) hQ (hs.below hb0))
 have hlims:=hg.lims
 have HL:=hol hlims
 clear h1 h2 hg hv hT hm hP hs hX0 hb0 hlims
 go_enter Tryz.func52,Tryz.ntmps52
 go_wp2_with fail
 refine HSG.out.mono ?_
 rintro en w1 ⟨x,y,X,rfl,hX,hN,hb1⟩
 have hb2:Below w1.heap.size w1 (w1.alloc (.cells #[.slice x.1 x.2.1 x.2.2,.slice y.1 y.2.1 y.2.2] 129)):=bal
 have hS2:=SigBox.made w1 (.slice x.1 x.2.1 x.2.2) (.slice y.1 y.2.1 y.2.2)
 obtain ⟨b9,hb9⟩:∃ b,w1.heap.size=b:=⟨_,rfl⟩
 obtain ⟨w2,hw2⟩:∃ W,w1.alloc (.cells #[.slice x.1 x.2.1 x.2.2,.slice y.1 y.2.1 y.2.2] 129)=W:=⟨_,rfl⟩
 rw [hw2] at hb2 hS2
 rw [hb9] at hS2
 have hb12:=bstep hb1 hb2
 have HS2:=hol hS2
 have HN2:Hold (sigIn Q sig -> At3 w2 x (be (sig.take (bsize Q))) /\ At3 w2 y (be (sig.drop (bsize Q)))):=⟨fun h=>⟨(hN h).1.below hb2,(hN h).2.below hb2⟩⟩
 have HX2:=hol (HX0.out.below hb12 HX0.out.lt)
 have HY2:=hol (HY0.out.below hb12)
 have HB2:=hol (bstep HBL.out hb12)
 have HXI:=hol hX
 clear hX hN hb1 hb2 hS2 hb12 HX0 HY0 HBL HSG hwa
 cases X with
 | false =>
  have HF:Hold (false=true ↔ sigOk P Q G Y msg sig):=⟨⟨(fun h=>by cases h),fun h=>HXI.out.2 h.1⟩⟩
  go_wp2
  go_ret
  exact ⟨false,rfl,HF.out,HB2.out⟩
 | true =>
  have hin:=HXI.out.1 rfl
  have HIN:=hol hin
  have hn:=HN2.out hin
  have HCN2:=hol hn.1
  have HSN2:=hol hn.2
  have c0:=HX2.out.cell
  obtain ⟨CC,hCC⟩:∃ C,be (sig.take (bsize Q))=C:=⟨_,rfl⟩
  obtain ⟨SS,hSS⟩:∃ C,be (sig.drop (bsize Q))=C:=⟨_,rfl⟩
  rw [hCC] at HCN2
  rw [hSS] at HSN2
  have HCL:Hold (CC < B32 33):=⟨by rw [<- hCC]; exact Nat.lt_trans hin.2.1 HL.out.2.2.2⟩
  have HSL:Hold (SS < B32 33):=⟨by rw [<- hSS]; exact Nat.lt_trans hin.2.2 HL.out.2.2.2⟩
  have HOK:Hold (sigOk P Q G Y msg sig ↔ sigMem P Q Y /\ sigCh P Q (sigA P G Y CC SS) Y msg=CC):=⟨by
   unfold sigOk
   rw [hCC,hSS]
   exact ⟨fun h=>h.2,fun h=>⟨hin,h⟩⟩⟩
  clear hCC hSS hin hn HN2 HXI
  by_cases hm:0 < Y /\ Y < P /\ Y ^ Q % P=1
  ·have HMT:Hold _:=⟨decide_eq_true hm⟩
   have HYl:=hol hm.2.1
   have HMM:Hold (sigMem P Q Y):=⟨hm⟩
   clear hm
   go_wp2_with fail
   refine (gmember_fit (HGA.out.below HB2.out) HY2.out (by decide)).mono ?_
   rintro en w3 ⟨rfl,hb3⟩
   rw [HMT.out]
   have HB3:=hol (bstep HB2.out hb3)
   have HXY:=hol (HX2.out.below hb3 HX2.out.lt)
   have HY:=hol (HY2.out.below hb3)
   have HS9:=hol (HS2.out.below hb3 HS2.out.lt)
   have HCN:Hold (At3 w3 x CC):=⟨HCN2.out.below hb3⟩
   have HSN:Hold (At3 w3 y SS):=⟨HSN2.out.below hb3⟩
   have HG:=hol (HGA.out.below HB3.out)
   obtain ⟨ZZ,hZZ⟩:∃ Z,invQ P Y=Z:=⟨_,rfl⟩
   obtain ⟨AA,hAA⟩:∃ A,mprod P 1 ([G,ZZ].zip [SS,CC])=A:=⟨_,rfl⟩
   have HZZ:=hol hZZ
   have HAA:=hol hAA
   have HAE:Hold (sigA P G Y CC SS=AA):=⟨by
    unfold sigA
    rw [hZZ,<- hAA,pair_prod,Nat.one_mul,Nat.mod_mod]⟩
   have HAAl:Hold (AA < P):=⟨by rw [<- HAE.out]; exact Nat.mod_lt _ (by have:=HL.out.1; omega)⟩
   have HAAb:Hold (AA < B32 33):=⟨Nat.lt_trans HAAl.out HL.out.2.1⟩
   clear hZZ hAA hb3 HX2 HY2 HS2 HCN2 HSN2 c0
   go_wp2
   clear hw2 hb9
   refine wp_region_dutiesS (by kernel_rfl) (by kernel_rfl)
    [some (.pointer (some ⟨b,0,none⟩)),some (.pointer (some ⟨b,0,none⟩)),none,some (.pointer (some ⟨b,0,none⟩)),some (.agg #[.slice py ny cy]),none,none,some (.pointer (some ⟨b9,1,none⟩)),some (.agg #[.slice y.1 y.2.1 y.2.2]),some (.pointer (some ⟨b9,0,none⟩)),some (.agg #[.slice x.1 x.2.1 x.2.2]),none,none,none,none,some (.int .i64 0),none,none,some (.int .i64 0)]
    [false,false,true,false,false,true,true,false,false,false,false,true,true,true,true,false,true,true,false] rfl
    (fun wA wB=>KN (w3.heap.size) wA wB)
    (fun D sp w'=>RG (w3.heap.size) w3 [] w' /\ MkB (D 16) (D 17) (sp 16) (w3.heap.size) (AA) w')
    (fun i v w'=>match i with
     | 2=>Fit 33 G v w'
     | 5=>Fit 33 (ZZ) v w'
     | 6=>Row2 G ZZ v w'
     | 11=>Row2 SS CC v w'
     | 12=>TupFit 33 AA (.int .i64 0) v w'
     | 13=>TupFit 33 AA (.int .i64 0) v w'
     | 14=>Fit (33) (AA) v w'
     | _=>True)
    ?_ ⟨RG.start (Nat.le_refl _) (fun x hx=>by cases hx),MkB.start (Nat.le_refl _)⟩ ?_ ?_
   ·intro i v wA wB hf hb
    split at hf
    ·exact hf.kn hb
    ·exact hf.kn hb
    ·exact hf.kn hb
    ·exact hf.kn hb
    ·exact hf.kn hb
    ·exact hf.kn hb
    ·exact hf.kn hb
    ·trivial
   ·simp only [DutiesS,Nat.reduceAdd]
    refine ⟨?_,?_,?_,?_,?_,?_,?_,?_,?_,?_,?_,?_,?_,?_,?_,?_,?_,?_,?_,trivial⟩
    all_goals intro D sp w' hD hW hdp hg
    case refine_3 =>
     (with_reducible refine asked_call (w1:=w') (f := 40) (args:=#[.pointer (some ⟨b,0,none⟩)]) ?_ ?_ ?_)
     ·simp [Region.wanted,yielded,Act.put,go_sem]
     ·simp [Act.eval,Act.put,go_sem]
     ·refine (gG_fit (HG.out.below hg.1.keep.bel)).mono ?_
      rintro en w9 ⟨u,rfl,hu,hb⟩
      exact ⟨u,rfl,KN.of hb hg.1.base,hu,hg.1.later hb,by simpa [upd] using hg.2.later hb⟩
    case refine_5 =>
     have c0:=(HXY.out.below hg.1.keep.bel HXY.out.lt).cell
     with_reducible refine asked_pl ?_ ?_
     all_goals simp [Region.wanted,yielded,execOp,Act.eval,Act.put,go_sem,c0]
    case refine_6 =>
     (with_reducible refine asked_call (w1:=w') (f := 101) (args:=#[.pointer (some ⟨b,0,none⟩),.agg #[.slice py ny cy]]) ?_ ?_ ?_)
     ·simp [Region.wanted,yielded,Act.put,go_sem]
     ·simp [Act.eval,Act.put,go_sem]
     ·refine (ginv_fit (HG.out.below hg.1.keep.bel) (HY.out.below hg.1.keep.bel) (by decide)).mono ?_
      rintro en w9 ⟨u,rfl,hu,hb⟩
      rw [HZZ.out] at hu
      exact ⟨u,rfl,KN.of hb hg.1.base,hu,hg.1.later hb,by simpa [upd] using hg.2.later hb⟩
    case refine_7 =>
     have hxa:∃ p n c,sp 2=.agg #[.slice p n c] /\ NatAt w' p n c (G) /\ G < B32 (33):=(hdp 2 (mq (by kernel_rfl))).2
     (with_reducible refine Exists.elim hxa fun pa hxa1=>Exists.elim hxa1 fun na hxa2=>Exists.elim hxa2 fun ca hxa3=>?_)
     have ha:=hxa3.1
     have hxb:∃ p n c,sp 5=.agg #[.slice p n c] /\ NatAt w' p n c (ZZ) /\ ZZ < B32 (33):=(hdp 5 (mq (by kernel_rfl))).2
     (with_reducible refine Exists.elim hxb fun pb hxb1=>Exists.elim hxb1 fun nb hxb2=>Exists.elim hxb2 fun cb hxb3=>?_)
     have hb:=hxb3.1
     (with_reducible refine asked_value (w1:=w'.alloc (.cells #[.slice pa na ca,.slice pb nb cb] 36)) (v:=.slice (some ⟨w'.heap.size,0,none⟩) 2 2) ?_ ?_ ?_)
     ·simp only [Region.wanted]
     ·simp [execOp,Act.eval,Act.put,go_sem,ha,hb]
     ·have hbl:Below w'.heap.size w' (w'.alloc (.cells #[.slice pa na ca,.slice pb nb cb] 36)):=bal
      exact ⟨KN.of hbl hg.1.base,⟨w'.heap.size,(pa,na,ca),(pb,nb,cb),rfl,heap_alloc_new w' _,hxa3.2.1.below hbl,hxb3.2.1.below hbl,hxa3.2.2,hxb3.2.2⟩,hg.1.later hbl,by simpa [upd] using hg.2.later hbl⟩
    case refine_9 =>
     have c0:=(HS9.out.below hg.1.keep.bel HS9.out.lt).cells.2
     with_reducible refine asked_pl ?_ ?_
     all_goals simp [Region.wanted,yielded,execOp,Act.eval,Act.put,go_sem,c0]
    case refine_11 =>
     have c0:=(HS9.out.below hg.1.keep.bel HS9.out.lt).cells.1
     with_reducible refine asked_pl ?_ ?_
     all_goals simp [Region.wanted,yielded,execOp,Act.eval,Act.put,go_sem,c0]
    case refine_12 =>
     (with_reducible refine asked_value (w1:=w'.alloc (.cells #[.slice y.1 y.2.1 y.2.2,.slice x.1 x.2.1 x.2.2] 36)) (v:=.slice (some ⟨w'.heap.size,0,none⟩) 2 2) ?_ ?_ ?_)
     ·simp only [Region.wanted]
     ·simp [execOp,Act.eval,Act.put,go_sem]
     ·have hbl:Below w'.heap.size w' (w'.alloc (.cells #[.slice y.1 y.2.1 y.2.2,.slice x.1 x.2.1 x.2.2] 36)):=bal
      exact ⟨KN.of hbl hg.1.base,⟨w'.heap.size,y,x,rfl,heap_alloc_new w' _,(HSN.out.below hg.1.keep.bel).below hbl,(HCN.out.below hg.1.keep.bel).below hbl,HSL.out,HCL.out⟩,hg.1.later hbl,by simpa [upd] using hg.2.later hbl⟩
    case refine_13 =>
     have hr:∃ (g:Nat) (x y:Option Addr × Nat × Nat),sp 6=.slice (some ⟨g,0,none⟩) 2 2 /\ w'.heap[g]? = some (.cells #[.slice x.1 x.2.1 x.2.2,.slice y.1 y.2.1 y.2.2] 36 (0,0)) /\ At3 w' x G /\ At3 w' y ZZ /\ G < B32 33 /\ ZZ < B32 33:=(hdp 6 (mq (by kernel_rfl))).2
     (with_reducible refine Exists.elim hr fun ga ha1=>Exists.elim ha1 fun ua ha2=>Exists.elim ha2 fun ta ha3=>?_)
     have hr:∃ (g:Nat) (x y:Option Addr × Nat × Nat),sp 11=.slice (some ⟨g,0,none⟩) 2 2 /\ w'.heap[g]? = some (.cells #[.slice x.1 x.2.1 x.2.2,.slice y.1 y.2.1 y.2.2] 36 (0,0)) /\ At3 w' x SS /\ At3 w' y CC /\ SS < B32 33 /\ CC < B32 33:=(hdp 11 (mq (by kernel_rfl))).2
     (with_reducible refine Exists.elim hr fun gb hb1=>Exists.elim hb1 fun ub hb2=>Exists.elim hb2 fun tb hb3=>?_)
     have ea:=ha3.1
     have eb:=hb3.1
     (with_reducible refine asked_call (w1:=w') (f := 100) (args:=#[.pointer (some ⟨b,0,none⟩),.slice (some ⟨ga,0,none⟩) 2 2,.slice (some ⟨gb,0,none⟩) 2 2]) ?_ ?_ ?_)
     ·simp only [Region.wanted]
     ·simp [Act.eval,Act.put,go_sem,ea,eb]
     ·refine (multi_fit (HG.out.below hg.1.keep.bel) (Row2.plist ha3.2.1 ha3.2.2.1 ha3.2.2.2.1 ha3.2.2.2.2.1 ha3.2.2.2.2.2) (Row2.plist hb3.2.1 hb3.2.2.1 hb3.2.2.2.1 hb3.2.2.2.2.1 hb3.2.2.2.2.2) (by decide) (by decide) (by decide) (by decide)).mono ?_
      rintro en w9 ⟨_,rfl,⟨p9,n9,c9,rfl,u1,u2⟩,hb⟩
      rw [if_pos rfl,HAA.out] at u1 u2
      exact ⟨_,rfl,KN.of hb hg.1.base,⟨p9,n9,c9,rfl,u1,u2⟩,hg.1.later hb,by simpa [upd] using hg.2.later hb⟩
    case refine_14 =>
     have k12:TupFit 33 AA (.int .i64 0) (sp 12) w':=(hdp 12 (mq (by kernel_rfl))).2
     (with_reducible refine asked_value (w1:=w') (v:=sp 12) ?_ ?_ ?_)
     ·simp [Region.wanted,yielded,Act.put,go_sem]
     ·simp [execOp,Act.eval,Act.put,go_sem]
     ·exact ⟨KN.same _ _,k12,hg.1,by simpa [upd] using hg.2⟩
    case refine_15 =>
     have hx:∃ p n c,sp 13=.tuple #[.agg #[.slice p n c],.int .i64 0] /\ NatAt w' p n c (AA) /\ AA < B32 (33):=(hdp 13 (mq (by kernel_rfl))).2
     (with_reducible refine Exists.elim hx fun p hx1=>Exists.elim hx1 fun n hx2=>Exists.elim hx2 fun c hx3=>?_)
     have h1:=hx3.1
     (with_reducible refine asked_value (w1:=w') (v:=.agg #[.slice p n c]) ?_ ?_ ?_)
     ·simp [Region.wanted,yielded,Act.put,go_sem]
     ·simp [execOp,Act.eval,Act.put,go_sem,h1]
     ·exact ⟨KN.same _ _,⟨p,n,c,rfl,hx3.2⟩,hg.1,by simpa [upd] using hg.2⟩
    case refine_16 =>
     have hx:∃ p n c,sp 13=.tuple #[.agg #[.slice p n c],.int .i64 0] /\ NatAt w' p n c (AA) /\ AA < B32 (33):=(hdp 13 (mq (by kernel_rfl))).2
     (with_reducible refine Exists.elim hx fun p hx1=>Exists.elim hx1 fun n hx2=>Exists.elim hx2 fun c hx3=>?_)
     have h1:=hx3.1
     with_reducible refine asked_pl ?_ ?_
     all_goals simp [Region.wanted,yielded,execOp,Act.eval,Act.put,go_sem,h1]
    case refine_17 =>
     have h9:D 17=false:=hW 17 (mq (by kernel_rfl))
     rw [hD,h9] at hg
     (with_reducible refine asked_value (w1:=w'.alloc (.cells #[.slice none 0 0] 36)) (v:=.pointer (some ⟨w'.heap.size,0,none⟩)) ?_ ?_ ?_)
     ·simp [Region.wanted,yielded,Act.put,go_sem]
     ·simp [execOp,go_sem]
     ·have hb:Below w'.heap.size w' (w'.alloc (.cells #[.slice none 0 0] 36)):=bal
      refine ⟨KN.of hb hg.1.base,trivial,hg.1.later hb,?_⟩
      have h8:=hg.2.made
      simpa [upd,h9] using h8
    case refine_18 =>
     have hx:∃ p n c,sp 14=.agg #[.slice p n c] /\ NatAt w' p n c (AA) /\ AA < B32 (33):=(hdp 14 (mq (by kernel_rfl))).2
     (with_reducible refine Exists.elim hx fun p hx1=>Exists.elim hx1 fun n hx2=>Exists.elim hx2 fun c hx3=>?_)
     have h1:=hx3.1
     have h9:D 16=true:=(hdp 16 (mq (by kernel_rfl))).1
     rw [h9] at hg
     have hp:=hg.2.put (hx3.2.1)
     (with_reducible refine Exists.elim hp fun b hy0=>Exists.elim hy0 fun q hy1=>Exists.elim hy1 fun m hy2=>Exists.elim hy2 fun k hy3=>?_)
     have h3:=hy3.1
     have h6:=hy3.2.2.1.cell
     have h7:=hy3.2.2.1.free
     (with_reducible refine asked_skip (w1:=w'.setCell ⟨b,0,none⟩ (.slice p n c)) ?_ ?_ ?_)
     ·simp [Region.wanted,yielded,Act.put,go_sem]
     ·simp [execOp,Act.eval,Act.put,go_sem,h1,h3,h6,h7]
     ·refine ⟨KN.store hy3.2.2.1 (Nat.le_trans (Nat.le_refl _) hy3.2.1) _,trivial,hg.1.store_over hy3.2.2.1 (Nat.le_refl _) hy3.2.1 (fun x hx=>by cases hx) _,?_⟩
      have h8:=hy3.2.2.2
      simpa [upd,h9] using h8
    all_goals ((with_reducible refine asked_pl ?_ ?_); all_goals first | (simp only [Region.wanted]; done) | simp [Region.wanted,yielded,execOp,Act.eval,Act.put,go_sem])
   ·intro sp w4 hsp hg
    obtain ⟨hg1,_,hmk⟩:=hg
    obtain ⟨b11,e11,hb11,pz,nz,cz,hxz,hnz⟩:=hmk rfl
    replace hnz:=hnz rfl
    have hbel:=hg1.keep.bel
    have HXA:=hol hxz
    have HA7:=hol (Fit.of hnz HAAb.out)
    have HB4:=hol (bstep HB3.out hbel)
    have HXY7:=hol (HXY.out.below hbel HXY.out.lt)
    have HY7:=hol (HY.out.below hbel)
    have HS97:=hol (HS9.out.below hbel HS9.out.lt)
    have HC7:=hol (Fit.of (HCN.out.below hbel) HCL.out)
    have HG7:=hol (HGA.out.below HB4.out)
    have HT7:=hol (HT.out.below HB4.out HT.out.size)
    have HM7:=hol (HM.out.below HB4.out)
    obtain ⟨CH,hCH⟩:∃ C,sigCh P Q AA Y msg=C:=⟨_,rfl⟩
    obtain ⟨KC,hKC⟩:∃ K,cmpI CH CC=K:=⟨_,rfl⟩
    obtain ⟨ANS,hANS⟩:∃ A,((KC:Int) == 0)=A:=⟨_,rfl⟩
    have hE:=hANS
    have HCH:=hol hCH
    have HKc:=hol hKC
    have HF:Hold (ANS=true ↔ sigOk P Q G Y msg sig):=⟨by
     rw [HOK.out,HAE.out,hCH,<- hANS,<- hKC,beq_iff_eq,cmpI_zero]
     exact ⟨fun h=>⟨HMM.out,h⟩,fun h=>h.2⟩⟩
    clear hsp hg1 hmk hxz hnz hb11 hbel hCH hKC hANS
    simp only [frameOf,Nat.reduceAdd]
    rw [e11]
    clear e11
    generalize sp 2=y2,sp 5=y5,sp 6=y6,sp 11=y11,sp 12=y12,sp 13=y13,sp 14=y14,sp 17=y17 at *
    go_simp
    go_wp2
    refine wp_region_duties (by kernel_rfl) (by kernel_rfl)
     [some (.pointer (some ⟨b,0,none⟩)),some (.agg #[.slice pz nz cz]),some (.agg #[.slice py ny cy]),some (.slice pm nm cm),none,some (.pointer (some ⟨b9,0,none⟩)),some (.agg #[.slice x.1 x.2.1 x.2.2]),none,some (.bool ANS),some (.bool ANS)]
     [false,false,false,false,true,false,false,true,false,false] rfl
     (fun w1 w2=>Below w1.heap.size w1 w2)
     (fun _ w'=>Below w4.heap.size w4 w')
     (fun i v w'=>match i with
      | 4=>Fit 33 (CH) v w'
      | 7=>v=.int .i64 KC
      | _=>True)
     ?_ (Below.refl _ _).drew ?_ ?_
    ·intro i v w1 w2 hf hb
     split at hf
     ·exact hf.below hb
     ·exact hf
     ·trivial
    ·simp only [Duties,Nat.reduceAdd]
     refine ⟨?_,?_,?_,?_,?_,?_,?_,?_,?_,?_,trivial⟩
     all_goals intro D sp w' hD hW hdp hbx'
     case refine_2 =>
      have c0:=(HXA.out.below hbx' HXA.out.lt).cell
      with_reducible refine asked_pl ?_ ?_
      all_goals simp [Region.wanted,yielded,execOp,Act.eval,Act.put,go_sem,c0]
     case refine_3 =>
      have c0:=(HXY7.out.below hbx' HXY7.out.lt).cell
      with_reducible refine asked_pl ?_ ?_
      all_goals simp [Region.wanted,yielded,execOp,Act.eval,Act.put,go_sem,c0]
     case refine_5 =>
      (with_reducible refine asked_call (w1:=w') (f := 94) (args:=#[.pointer (some ⟨b,0,none⟩),.agg #[.slice pz nz cz],.agg #[.slice py ny cy],.slice pm nm cm]) ?_ ?_ ?_)
      ·simp [Region.wanted,yielded,Act.put,go_sem]
      ·simp [Act.eval,Act.put,go_sem]
      ·refine (schal_fit (HG7.out.below hbx') (HT7.out.below hbx' HT7.out.size) (HA7.out.below hbx') (HY7.out.below hbx') (by decide) HAAl.out HYl.out HPs.out (HM7.out.below hbx')).mono ?_
       rintro en w9 ⟨u,rfl,hu,hb⟩
       rw [HCH.out] at hu
       exact ⟨u,rfl,hb,hu,bstep hbx' hb⟩
     case refine_7 =>
      have c0:=(HS97.out.below hbx' HS97.out.lt).cells.1
      with_reducible refine asked_pl ?_ ?_
      all_goals simp [Region.wanted,yielded,execOp,Act.eval,Act.put,go_sem,c0]
     case refine_8 =>
      have k4:Fit 33 (CH) (sp 4) w':=(hdp 4 (mq (by kernel_rfl))).2
      (with_reducible refine asked_call (w1:=w') (f := 35) (args:=#[sp 4,.agg #[.slice x.1 x.2.1 x.2.2]]) ?_ ?_ ?_)
      ·simp [Region.wanted,yielded,Act.put,go_sem]
      ·simp [Act.eval,Act.put,go_sem]
      ·refine (cmp_fitK k4 (HC7.out.below hbx') (by decide) (by decide) HKc.out).mono ?_
       rintro en w9 ⟨u,rfl,rfl,hb⟩
       exact ⟨_,rfl,hb,rfl,bstep hbx' hb⟩
     case refine_9 =>
      have k7:(sp 7)=.int .i64 KC:=(hdp 7 (mq (by kernel_rfl))).2
      with_reducible refine asked_pl ?_ ?_
      all_goals simp [Region.wanted,yielded,execOp,Act.eval,Act.put,go_sem,k7,hE]
     all_goals ((with_reducible refine asked_pl ?_ ?_); all_goals first | (simp only [Region.wanted]; done) | simp [Region.wanted,yielded,execOp,Act.eval,Act.put,go_sem])
    ·intro sp w8 hsp hb8
     have HBf:=hol (bstep HB4.out hb8)
     clear hsp hb8 hE
     simp only [frameOf,Nat.reduceAdd]
     generalize sp 4=y4,sp 7=y7 at *
     go_simp
     go_wp2
     go_ret
     exact ⟨ANS,rfl,HF.out,HBf.out⟩
  ·have HMT:Hold _:=⟨decide_eq_false hm⟩
   have HF:Hold (false=true ↔ sigOk P Q G Y msg sig):=⟨⟨(fun h=>by cases h),fun h=>absurd (HOK.out.1 h).1 hm⟩⟩
   clear hm
   go_wp2_with fail
   refine (gmember_fit (HGA.out.below HB2.out) HY2.out (by decide)).mono ?_
   rintro en w3 ⟨rfl,hb3⟩
   rw [HMT.out]
   have HB3:=hol (bstep HB2.out hb3)
   clear hb3 c0
   go_wp2
   go_ret
   exact ⟨false,rfl,HF.out,HB3.out⟩
end Go.Proofs.YtdebccghjbfgdaaGreatDoor
