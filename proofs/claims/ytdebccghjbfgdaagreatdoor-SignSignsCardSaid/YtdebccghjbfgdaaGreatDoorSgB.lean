/- A number's bytes as a value; a signature's challenge; its draw. -/
import Derived.Lib.SmallJoins
import Derived.Test.YtdebccghjbfgdaaGreatDoorSgA
set_option maxRecDepth 1000000
set_option maxHeartbeats 16000000
set_option linter.unusedSimpArgs false
set_option linter.unusedVariables false
namespace Go.Proofs.YtdebccghjbfgdaaGreatDoor
open Go Go.RowKit Go.Proofs.YtdebccghjbfgdaaGreatDoor.Flow
theorem marked_rowM {w:World} {g:Nat} {t:TypeId} {fr:Nat × Nat} {bs:List Nat} {n:Nat} (h:w.heap[g]? = some (.cells (bs.map fun (x:Nat)=>Value.int .u8 (x:Int)).toArray t fr)) (hn:n=bs.length) (hm:n <= 9223372036854775807):RowIn w .u8 (some ⟨g,0,none⟩) n n bs :=
 ⟨hn,Nat.le_refl _,hm,fun _=>⟨hn,Nat.le_refl _,hm,.inr ⟨g,0,rfl,(Array.getElem?_eq_some_iff.1 h).1,fun i x hx=>by
  rw [Nat.zero_add]
  unfold World.cell?
  dsimp only
  rw [h]
  simp [hx]⟩⟩⟩
def BytesT (n:Nat) (bs:List Nat) (v:Value) (w:World):Prop:=∃ g,v=.tuple #[.slice (some ⟨g,0,none⟩) n n,.int .i64 0] /\ Blk w g 5 .u8 bs
def BytesV (n:Nat) (bs:List Nat) (v:Value) (w:World):Prop:=∃ g,v=.slice (some ⟨g,0,none⟩) n n /\ Blk w g 5 .u8 bs
theorem BytesT.below {n:Nat} {bs:List Nat} {v:Value} {w w':World} (h:BytesT n bs v w) (hb:Below w.heap.size w w'):BytesT n bs v w' :=
 let ⟨g,h1,h2⟩:=h
 ⟨g,h1,h2.below hb h2.lt⟩
theorem BytesV.below {n:Nat} {bs:List Nat} {v:Value} {w w':World} (h:BytesV n bs v w) (hb:Below w.heap.size w w'):BytesV n bs v w' :=
 let ⟨g,h1,h2⟩:=h
 ⟨g,h1,h2.below hb h2.lt⟩
theorem bytes_fit {w:World} {e N s:Nat} {v:Value} (h:Fit e N v w) (he:e <= 30000) (hs:s <= 1000) (hl:N < B8 s) :
  Calls Tryz.prog 119 #[v,.int .i64 (s:Nat)] w fun en w'=>∃ x,en=.returned x /\ BytesT s (beOf N s) x w' /\ Below w.heap.size w w':=by
 obtain ⟨p,n,c,rfl,h1,h2⟩:=h
 have l1:=h1.len_le h2
 have l2:=lim_blen h2
 have l3:=bsize_le.2 hl
 refine (bytes_blk w p n c N s h1 (by omega) (by omega) (by omega) (by omega)).mono ?_
 rintro en w' ⟨g,rfl,hb,hbel,_⟩
 exact ⟨_,rfl,⟨g,rfl,hb⟩,hbel⟩
theorem blk_part {w:World} {g n N:Nat} (h:Blk w g 5 .u8 (beOf N n)) (hn:n <= 1000):PartOk w ⟨some ⟨g,0,none⟩,n,n,beOf N n⟩ :=
 ⟨⟨(beOf_length N n).symm,Nat.le_refl _,Nat.le_trans hn (by decide),fun _=>h.row (beOf_length N n).symm (Nat.le_refl _) (Nat.le_trans hn (by decide))⟩,(leOf_bytes N n).reverse⟩
theorem parts4 (w:World) (P Q R S:Part) (hP:PartOk w P) (hQ:PartOk w Q) (hR:PartOk w R) (hS:PartOk w S):PartsIn (w.alloc (.cells #[.slice P.p P.n P.c,.slice Q.p Q.n Q.c,.slice R.p R.n R.c,.slice S.p S.n S.c] 70)) (some ⟨w.heap.size,0,none⟩) 4 4 [P,Q,R,S]:=by
 have hb:Below w.heap.size w (w.alloc (.cells #[.slice P.p P.n P.c,.slice Q.p Q.n Q.c,.slice R.p R.n R.c,.slice S.p S.n S.c] 70)):=bal
 have hn:=heap_alloc_new w (.cells #[.slice P.p P.n P.c,.slice Q.p Q.n Q.c,.slice R.p R.n R.c,.slice S.p S.n S.c] 70)
 refine ⟨rfl,Nat.le_refl _,by omega,fun i X hX=>?_,fun _=>⟨w.heap.size,0,rfl,by simp,fun i X hX=>?_⟩⟩
 ·match i,hX with
  | 0,h=>cases h; exact hP.below hb
  | 1,h=>cases h; exact hQ.below hb
  | 2,h=>cases h; exact hR.below hb
  | 3,h=>cases h; exact hS.below hb
 ·match i,hX with
  | 0,h=>cases h; unfold World.cell?; dsimp only; rw [hn]; rfl
  | 1,h=>cases h; unfold World.cell?; dsimp only; rw [hn]; rfl
  | 2,h=>cases h; unfold World.cell?; dsimp only; rw [hn]; rfl
  | 3,h=>cases h; unfold World.cell?; dsimp only; rw [hn]; rfl
def litSign (w:World):World:=w.alloc (.cells #[.int .u8 115,.int .u8 105,.int .u8 103,.int .u8 110] 5 (4,5))
theorem litSign_below (w:World):Below w.heap.size w (litSign w):=bal
theorem litSign_size (w:World):(litSign w).heap.size=w.heap.size + 1:=by simp [litSign]
theorem litSign_part (w:World):PartOk (litSign w) ⟨some ⟨w.heap.size,0,none⟩,4,4,signW⟩:=by
 have h1:(litSign w).heap[w.heap.size]? = some (.cells #[.int .u8 115,.int .u8 105,.int .u8 103,.int .u8 110] 5 (4,5)):=by
  unfold litSign
  rw [heap_alloc_new]
 exact ⟨marked_rowM (bs:=signW) h1 rfl (by decide:4 <= 9223372036854775807),(by decide:∀ x ∈ signW,x < 256)⟩
theorem schal_fit {w:World} {b P Q G H e A Y:Nat} {v u:Value} {pm:Option Addr} {nm cm:Nat} {msg:List Nat} (hg:GroupAt w b P Q G H) (hT:Tabs w) (hv:Fit e A v w) (hu:Fit e Y u w) (he:e <= 30000) (hA:A < P) (hY:Y < P) (hs:bsize P <= 16) (hm:PartOk w ⟨pm,nm,cm,msg⟩) :
  Calls Tryz.prog 94 #[.pointer (some ⟨b,0,none⟩),v,u,.slice pm nm cm] w fun en w'=>∃ x,en=.returned x /\ Fit 33 (sigCh P Q A Y msg) x w' /\ Below w.heap.size w w':=by
 obtain ⟨pa,na,ca,rfl,h1,h2⟩:=fit_cases hv
 obtain ⟨py,ny,cy,rfl,k1,k2⟩:=fit_cases hu
 have hbx:=NB3.mk3 w (.slice pa na ca) (.slice py ny cy) (.slice none 0 0)
 obtain ⟨wa,hwa⟩:∃ wa,((w.alloc (.cells #[.slice pa na ca] 36)).alloc (.cells #[.slice py ny cy] 36)).alloc (.cells #[.slice none 0 0] 36)=wa:=⟨_,rfl⟩
 rw [hwa] at hbx
 have HBL:=hol hbx.bel
 have HX0:=hol hbx.b0
 have HY0:=hol hbx.b1
 have HZ0:=hol hbx.b2
 have HA:=hol ((Fit.of h1 h2).below hbx.bel)
 have HYF:=hol ((Fit.of k1 k2).below hbx.bel)
 have HG:=hol (hg.below hbx.bel)
 have HGA:=hol hg
 have HT:=hol hT
 have HM:=hol hm
 have hlm:=bsize_lt P
 have HCH:Hold (∀ sz,bsize P=sz -> be (sha (saidOf [signW,beOf A sz,beOf Y sz,msg])) % Q=sigCh P Q A Y msg):=⟨fun sz h=>by subst h; rfl⟩
 obtain ⟨CH,hCH⟩:∃ C,sigCh P Q A Y msg=C:=⟨_,rfl⟩
 rw [hCH] at HCH ⊢
 obtain ⟨sz,hsz⟩:∃ s,bsize P=s:=⟨_,rfl⟩
 rw [hsz] at hs hlm
 have HSZ:=hol hsz
 have HLM:Hold (A < B8 sz /\ Y < B8 sz):=⟨by omega,by omega⟩
 clear h1 h2 k1 k2 hbx hg hv hu hT hm hCH hsz hlm hA hY
 go_enter Tryz.func94,Tryz.ntmps94
 go_wp2
 refine wp_region_duties (by kernel_rfl) (by kernel_rfl)
  [some (.agg #[.slice pa na ca]),some (.pointer (some ⟨b,0,none⟩)),none,none,none,none,some (.int .i64 0),none,some (.int .i64 0)]
  [false,false,true,true,true,true,false,true,false] rfl
  (fun w1 w2=>Below w1.heap.size w1 w2)
  (fun _ w'=>Below wa.heap.size wa w')
  (fun i v w'=>match i with
   | 2=>v=.int .i64 (sz:Nat)
   | 3=>BytesT (sz) (beOf A sz) v w'
   | 4=>BytesT (sz) (beOf A sz) v w'
   | 5=>BytesV (sz) (beOf A sz) v w'
   | 7=>BytesV (sz) (beOf A sz) v w'
   | _=>True)
  ?_ (Below.refl _ _).drew ?_ ?_
 ·intro i v w1 w2 hf hb
  split at hf
  ·exact hf
  ·exact hf.below hb
  ·exact hf.below hb
  ·exact hf.below hb
  ·exact hf.below hb
  ·trivial
 ·simp only [Duties,Nat.reduceAdd]
  refine ⟨?_,?_,?_,?_,?_,?_,?_,?_,?_,trivial⟩
  all_goals intro D sp w' hD hW hdp hbx'
  case refine_1 =>
   have c0:=(HX0.out.below hbx' HX0.out.lt).cell
   with_reducible refine asked_pl ?_ ?_
   all_goals simp [Region.wanted,yielded,execOp,Act.eval,Act.put,go_sem,c0]
  case refine_3 =>
   (with_reducible refine asked_call (w1:=w') (f := 142) (args:=#[.pointer (some ⟨b,0,none⟩)]) ?_ ?_ ?_)
   ·simp [Region.wanted,yielded,Act.put,go_sem]
   ·simp [Act.eval,Act.put,go_sem]
   ·refine (gsize_fit (HG.out.below hbx')).mono ?_
    rintro en w9 ⟨rfl,hb⟩
    rw [HSZ.out]
    exact ⟨_,rfl,hb,rfl,bstep hbx' hb⟩
  case refine_4 =>
   have k2:(sp 2)=.int .i64 (sz:Nat):=(hdp 2 (mq (by kernel_rfl))).2
   (with_reducible refine asked_call (w1:=w') (f := 119) (args:=#[.agg #[.slice pa na ca],.int .i64 (sz:Nat)]) ?_ ?_ ?_)
   ·first | (simp only [Region.wanted]; done) | simp [Region.wanted,yielded,Act.put,go_sem,k2]
   ·simp [Act.eval,Act.put,go_sem,k2]
   ·refine (bytes_fit (HA.out.below hbx') he (by omega) HLM.out.1).mono ?_
    rintro en w9 ⟨u,rfl,hu,hb⟩
    exact ⟨u,rfl,hb,hu,bstep hbx' hb⟩
  case refine_5 =>
   have k3:BytesT (sz) (beOf A sz) (sp 3) w':=(hdp 3 (mq (by kernel_rfl))).2
   (with_reducible refine asked_value (w1:=w') (v:=sp 3) ?_ ?_ ?_)
   ·simp [Region.wanted,yielded,Act.put,go_sem]
   ·simp [execOp,Act.eval,Act.put,go_sem]
   ·exact ⟨Below.refl _ _,k3,hbx'⟩
  case refine_6 =>
   have hx:∃ g,sp 4=.tuple #[.slice (some ⟨g,0,none⟩) (sz) (sz),.int .i64 0] /\ Blk w' g 5 .u8 (beOf A sz):=(hdp 4 (mq (by kernel_rfl))).2
   (with_reducible refine Exists.elim hx fun g hx1=>?_)
   have h1:=hx1.1
   (with_reducible refine asked_value (w1:=w') (v:=.slice (some ⟨g,0,none⟩) (sz) (sz)) ?_ ?_ ?_)
   ·simp only [Region.wanted]
   ·simp [execOp,Act.eval,Act.put,go_sem,h1]
   ·exact ⟨Below.refl _ _,⟨g,rfl,hx1.2⟩,hbx'⟩
  case refine_7 =>
   have hx:∃ g,sp 4=.tuple #[.slice (some ⟨g,0,none⟩) (sz) (sz),.int .i64 0] /\ Blk w' g 5 .u8 (beOf A sz):=(hdp 4 (mq (by kernel_rfl))).2
   (with_reducible refine Exists.elim hx fun g hx1=>?_)
   have h1:=hx1.1
   with_reducible refine asked_pl ?_ ?_
   all_goals simp [Region.wanted,yielded,execOp,Act.eval,Act.put,go_sem,h1]
  case refine_8 =>
   have k5:BytesV (sz) (beOf A sz) (sp 5) w':=(hdp 5 (mq (by kernel_rfl))).2
   (with_reducible refine asked_value (w1:=w') (v:=sp 5) ?_ ?_ ?_)
   ·simp [Region.wanted,yielded,Act.put,go_sem]
   ·simp [execOp,Act.eval,Act.put,go_sem]
   ·exact ⟨Below.refl _ _,k5,hbx'⟩
  all_goals ((with_reducible refine asked_pl ?_ ?_); all_goals first | (simp only [Region.wanted]; done) | simp [Region.wanted,yielded,execOp,Act.eval,Act.put,go_sem])
 ·intro sp w1 hsp hb1
  obtain ⟨ga,e7,hk7⟩:BytesV sz (beOf A sz) (sp 7) w1:=hsp 7 rfl
  have HKA:=hol hk7
  have HX1:=hol (HY0.out.below hb1 HY0.out.lt)
  have HZ1:=hol (HZ0.out.below hb1 HZ0.out.lt)
  have HY:=hol (HYF.out.below hb1)
  have HG1:=hol (HG.out.below hb1)
  have HBL1:=hol (bstep HBL.out hb1)
  clear hsp hb1 hk7
  simp only [frameOf,Nat.reduceAdd]
  rw [e7]
  clear e7 hwa
  generalize sp 2=y2,sp 3=y3,sp 4=y4,sp 5=y5 at *
  go_simp
  go_wp2
  refine wp_region_duties (by kernel_rfl) (by kernel_rfl)
   [some (.agg #[.slice py ny cy]),some (.pointer (some ⟨b,0,none⟩)),none,none,none,none,some (.int .i64 0),none,some (.int .i64 0)]
   [false,false,true,true,true,true,false,true,false] rfl
   (fun w1 w2=>Below w1.heap.size w1 w2)
   (fun _ w'=>Below w1.heap.size w1 w')
   (fun i v w'=>match i with
    | 2=>v=.int .i64 (sz:Nat)
    | 3=>BytesT (sz) (beOf Y sz) v w'
    | 4=>BytesT (sz) (beOf Y sz) v w'
    | 5=>BytesV (sz) (beOf Y sz) v w'
    | 7=>BytesV (sz) (beOf Y sz) v w'
    | _=>True)
   ?_ (Below.refl _ _).drew ?_ ?_
  ·intro i v w1 w2 hf hb
   split at hf
   ·exact hf
   ·exact hf.below hb
   ·exact hf.below hb
   ·exact hf.below hb
   ·exact hf.below hb
   ·trivial
  ·simp only [Duties,Nat.reduceAdd]
   refine ⟨?_,?_,?_,?_,?_,?_,?_,?_,?_,trivial⟩
   all_goals intro D sp w' hD hW hdp hbx'
   case refine_1 =>
    have c0:=(HX1.out.below hbx' HX1.out.lt).cell
    with_reducible refine asked_pl ?_ ?_
    all_goals simp [Region.wanted,yielded,execOp,Act.eval,Act.put,go_sem,c0]
   case refine_3 =>
    (with_reducible refine asked_call (w1:=w') (f := 142) (args:=#[.pointer (some ⟨b,0,none⟩)]) ?_ ?_ ?_)
    ·simp [Region.wanted,yielded,Act.put,go_sem]
    ·simp [Act.eval,Act.put,go_sem]
    ·refine (gsize_fit (HG1.out.below hbx')).mono ?_
     rintro en w9 ⟨rfl,hb⟩
     rw [HSZ.out]
     exact ⟨_,rfl,hb,rfl,bstep hbx' hb⟩
   case refine_4 =>
    have k2:(sp 2)=.int .i64 (sz:Nat):=(hdp 2 (mq (by kernel_rfl))).2
    (with_reducible refine asked_call (w1:=w') (f := 119) (args:=#[.agg #[.slice py ny cy],.int .i64 (sz:Nat)]) ?_ ?_ ?_)
    ·first | (simp only [Region.wanted]; done) | simp [Region.wanted,yielded,Act.put,go_sem,k2]
    ·simp [Act.eval,Act.put,go_sem,k2]
    ·refine (bytes_fit (HY.out.below hbx') he (by omega) HLM.out.2).mono ?_
     rintro en w9 ⟨u,rfl,hu,hb⟩
     exact ⟨u,rfl,hb,hu,bstep hbx' hb⟩
   case refine_5 =>
    have k3:BytesT (sz) (beOf Y sz) (sp 3) w':=(hdp 3 (mq (by kernel_rfl))).2
    (with_reducible refine asked_value (w1:=w') (v:=sp 3) ?_ ?_ ?_)
    ·simp [Region.wanted,yielded,Act.put,go_sem]
    ·simp [execOp,Act.eval,Act.put,go_sem]
    ·exact ⟨Below.refl _ _,k3,hbx'⟩
   case refine_6 =>
    have hx:∃ g,sp 4=.tuple #[.slice (some ⟨g,0,none⟩) (sz) (sz),.int .i64 0] /\ Blk w' g 5 .u8 (beOf Y sz):=(hdp 4 (mq (by kernel_rfl))).2
    (with_reducible refine Exists.elim hx fun g hx1=>?_)
    have h1:=hx1.1
    (with_reducible refine asked_value (w1:=w') (v:=.slice (some ⟨g,0,none⟩) (sz) (sz)) ?_ ?_ ?_)
    ·simp only [Region.wanted]
    ·simp [execOp,Act.eval,Act.put,go_sem,h1]
    ·exact ⟨Below.refl _ _,⟨g,rfl,hx1.2⟩,hbx'⟩
   case refine_7 =>
    have hx:∃ g,sp 4=.tuple #[.slice (some ⟨g,0,none⟩) (sz) (sz),.int .i64 0] /\ Blk w' g 5 .u8 (beOf Y sz):=(hdp 4 (mq (by kernel_rfl))).2
    (with_reducible refine Exists.elim hx fun g hx1=>?_)
    have h1:=hx1.1
    with_reducible refine asked_pl ?_ ?_
    all_goals simp [Region.wanted,yielded,execOp,Act.eval,Act.put,go_sem,h1]
   case refine_8 =>
    have k5:BytesV (sz) (beOf Y sz) (sp 5) w':=(hdp 5 (mq (by kernel_rfl))).2
    (with_reducible refine asked_value (w1:=w') (v:=sp 5) ?_ ?_ ?_)
    ·simp [Region.wanted,yielded,Act.put,go_sem]
    ·simp [execOp,Act.eval,Act.put,go_sem]
    ·exact ⟨Below.refl _ _,k5,hbx'⟩
   all_goals ((with_reducible refine asked_pl ?_ ?_); all_goals first | (simp only [Region.wanted]; done) | simp [Region.wanted,yielded,execOp,Act.eval,Act.put,go_sem])
  ·intro sp w2 hsp hb2
   obtain ⟨gy,e7,hk7⟩:BytesV sz (beOf Y sz) (sp 7) w2:=hsp 7 rfl
   have HKA2:=hol (HKA.out.below hb2 HKA.out.lt)
   have HKY:=hol hk7
   have HZ2:=hol (HZ1.out.below hb2 HZ1.out.lt)
   have HBL2:=hol (bstep HBL1.out hb2)
   have hcv:=Joins.run_convert_bytes_const_at (P:=Tryz.prog) w2 70 5 #[.int .u8 115,.int .u8 105,.int .u8 103,.int .u8 110] 4 4 w2.heap.size rfl Tryz.underlying70 Tryz.underlying5
   have hbl:=litSign_below w2
   have hP4:=parts4 (litSign w2) ⟨some ⟨w2.heap.size,0,none⟩,4,4,signW⟩ ⟨some ⟨ga,0,none⟩,sz,sz,beOf A sz⟩ ⟨some ⟨gy,0,none⟩,sz,sz,beOf Y sz⟩ ⟨pm,nm,cm,msg⟩ (litSign_part w2) ((blk_part HKA2.out (by omega)).below hbl) ((blk_part HKY.out (by omega)).below hbl) ((HM.out.below HBL2.out).below hbl)
   rw [litSign_size] at hP4
   have hbp:Below (litSign w2).heap.size (litSign w2) ((litSign w2).alloc (.cells #[.slice (some ⟨w2.heap.size,0,none⟩) 4 4,.slice (some ⟨ga,0,none⟩) sz sz,.slice (some ⟨gy,0,none⟩) sz sz,.slice pm nm cm] 70)):=bal
   have HP:=hol hP4
   have HB3:=hol (bstep HBL2.out (bstep hbl hbp))
   have HZ3:=hol (HZ2.out.below (bstep hbl hbp) HZ2.out.lt)
   clear hsp hb2 hk7 hbl hbp hP4
   simp only [frameOf,Nat.reduceAdd]
   rw [e7]
   clear e7
   generalize sp 2=y2,sp 3=y3,sp 4=y4,sp 5=y5 at *
   go_simp
   go_wp2_with fail
   refine calls_at (w1:=(litSign w2).alloc (.cells #[.slice (some ⟨w2.heap.size,0,none⟩) 4 4,.slice (some ⟨ga,0,none⟩) sz sz,.slice (some ⟨gy,0,none⟩) sz sz,.slice pm nm cm] 70)) (by kernel_rfl) ?_
   refine (chal_fit (HGA.out.below HB3.out) (HT.out.below HB3.out HT.out.size) HP.out).mono ?_
   rintro en w4 ⟨_,rfl,⟨p5,n5,c5,rfl,h5,l5⟩,hb4⟩
   have hz:=HZ3.out.below hb4 HZ3.out.lt
   have fz:=hz.free
   have kz:=hz.cell
   have ks:=(hz.set (.slice p5 n5 c5)).cell
   have HN:Hold (Fit 33 CH (.agg #[.slice p5 n5 c5]) (w4.setCell ⟨w.heap.size + 1 + 1,0,none⟩ (.slice p5 n5 c5))):=⟨(Fit.of (h5.store hz _) l5).cast (HCH.out sz HSZ.out)⟩
   have HBf:Hold (Below w.heap.size w (w4.setCell ⟨w.heap.size + 1 + 1,0,none⟩ (.slice p5 n5 c5))):=⟨(bstep HB3.out hb4).setCell (show w.heap.size <= w.heap.size + 1 + 1 by omega) _⟩
   clear h5 l5 hb4 hz hcv
   go_wp2
   exact bodyPost_ret (v:=.agg #[.slice p5 n5 c5]) (by simp [results,Tryz.results94,go_sem,ks]) rfl ⟨_,rfl,HN.out,HBf.out⟩
end Go.Proofs.YtdebccghjbfgdaaGreatDoor
