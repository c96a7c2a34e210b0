/- Whether a step holds, of the program. -/
import Derived.Deep.Slices
import Derived.ChangeSame
import Derived.ChangeSlices
import Derived.ChangeArms
import Derived.Test.YtdebccghjbfgdaaGreatDoorCpG
import Derived.Test.YtdebccghjbfgdaaGreatDoorCpD
import Derived.Test.YtdebccghjbfgdaaGreatDoorCpE
set_option maxRecDepth 1000000
set_option maxHeartbeats 16000000
set_option linter.unusedSimpArgs false
set_option linter.unusedVariables false
namespace Go.Proofs.YtdebccghjbfgdaaGreatDoor
open Go Go.RowKit Go.Proofs.YtdebccghjbfgdaaGreatDoor.Flow
def U64 (n:Nat):Prop:=n < 18446744073709551616
structure Box3 (t:TypeId) (w:World) (b:Nat) (v0 v1 v2:Value):Prop where
 at_:w.heap[b]? = some (.cells #[v0,v1,v2] t (0,0))
theorem Box3.lt {t:TypeId} {w:World} {b:Nat} {v0 v1 v2:Value} (h:Box3 t w b v0 v1 v2):b < w.heap.size:=(Array.getElem?_eq_some_iff.1 h.at_).1
theorem Box3.below {t:TypeId} {w w':World} {B b:Nat} {v0 v1 v2:Value} (h:Box3 t w b v0 v1 v2) (hb:Below B w w') (hB:b < B):Box3 t w' b v0 v1 v2:=⟨by rw [hb.block b hB]; exact h.at_⟩
theorem Box3.cells {t:TypeId} {w:World} {b:Nat} {v0 v1 v2:Value} (h:Box3 t w b v0 v1 v2):w.cell? ⟨b,0,none⟩=some v0 /\ w.cell? ⟨b,1,none⟩=some v1 /\ w.cell? ⟨b,2,none⟩=some v2:=by
 have:=h.at_
 simp [World.cell?,this]
theorem Box3.made (t:TypeId) (w:World) (v0 v1 v2:Value):Box3 t (w.alloc (.cells #[v0,v1,v2] t)) w.heap.size v0 v1 v2:=⟨heap_alloc_new w _⟩
section
variable {At:World -> Option Addr -> Nat -> Nat -> Nat -> Prop} {mk:Option Addr -> Nat -> Nat -> Value} {t:TypeId} {w0:World} {N B:Nat} {d2 d5 d6 d7:Bool} {v2 v5 v6 v7:Value} {w:World}
end
open Go Go.RowKit Go.Deep Go.ChangeShapes Go.WideShapes
theorem rowIn_of64 {w:World} {a:Option Addr} {len cap:Nat} {zs:List Int}
  (h:(a=none /\ len=0 /\ cap=0 /\ zs=[]) ∨ ∃ x,a=some x /\ len <= cap /\ cap <= maxLen /\ zs.length=cap /\ (∀ i,i < zs.length -> w.cell? (x.add i)=some (.int .u64 (zs.getD i 0))) /\ ∀ n ∈ zs,(Lit.int .u64 n).wf=true) :
  RowIn w .u64 a len cap (bytesIn zs len) /\ ∀ x ∈ bytesIn zs len,U64 x:=by
 rcases h with ⟨rfl,rfl,rfl,rfl⟩ | ⟨x,rfl,hl,hm,hz,hc,hw⟩
 ·exact ⟨⟨by simp [bytesIn],Nat.le_refl _,by omega,fun h=>absurd h (by omega)⟩,by simp [bytesIn]⟩
 ·have hm':cap <= 9223372036854775807:=by simpa [maxLen] using hm
  have hlen:len=(bytesIn zs len).length:=by simp [bytesIn]; omega
  refine ⟨⟨hlen,hl,hm',fun h0=>?_⟩,?_⟩
  ·obtain ⟨b,off,spot⟩:=x
   have h1:=hc 0 (by omega)
   have hspot:spot=none:=by simpa [Addr.add] using World.cell?_spot h1
   subst hspot
   have hadd:∀ i,(⟨b,off,none⟩:Addr).add i=⟨b,off + i,none⟩:=add_plain b off
   refine ⟨hlen,hl,hm',.inr ⟨b,off,rfl,?_,fun i y hy=>?_⟩⟩
   ·rw [hadd] at h1
    unfold World.cell? at h1
    rcases Nat.lt_or_ge b w.heap.size with k | k
    ·exact k
    ·simp [Array.getElem?_eq_none k] at h1
   ·simp only [bytesIn,List.getElem?_map,List.getElem?_take] at hy
    split at hy
    ·rename_i hi
     have hi2:i < zs.length:=by omega
     rw [List.getElem?_eq_getElem hi2] at hy
     simp only [Option.map_some,Option.some.injEq] at hy
     have:=wf_u64 (hw zs[i] (List.getElem_mem _))
     rw [<- hadd,hc i hi2,<- hy,List.getD_eq_getElem?_getD,List.getElem?_eq_getElem hi2]
     simp only [Option.getD_some]
     congr 2
     omega
    ·simp at hy
  ·intro y hy
   simp only [bytesIn,List.mem_map] at hy
   obtain ⟨z,hz',rfl⟩:=hy
   have:=wf_u64 (hw z (List.mem_of_mem_take hz'))
   unfold U64
   omega
instance:Inhabited StepN:=⟨⟨0,0,[]⟩⟩
theorem holds_iff {N Bs:Nat} {ps bs:List Nat} (hN:2 <= N):HoldsP N Bs ps bs ↔ KnownAll bs ps /\ ((∀ p ∈ ps,(N - 1) % p=0) /\ N - 1 + 1 < pwl (N - 1) ps * pwl (N - 1) ps) /\ (Bs ^ (N - 1) % N=1 /\ ∀ p ∈ ps,Nat.gcd ((Bs ^ ((N - 1) / p) % N + N - 1) % N) N=1):=by
 rw [show N - 1 + 1=N by omega]
 constructor
 ·intro h
  have hm:∀ p ∈ ps,∃ i,OneOk N Bs bs ps i p:=fun p hp=>by
   obtain ⟨i,hi⟩:=List.getElem?_of_mem hp
   exact ⟨i,h.each i p hi⟩
  refine ⟨⟨h.some,h.few,fun i p hp=>?_⟩,⟨fun p hp=>?_,h.great⟩,h.one,fun p hp=>?_⟩
  ·have:=h.each i p hp
   refine ⟨?_,this.1⟩
   rcases this.2.1 with k | k
   ·exact .inl k
   ·exact .inr ⟨this.2.2.1,k⟩
  ·obtain ⟨i,hi⟩:=hm p hp; exact hi.2.2.2.1
  ·obtain ⟨i,hi⟩:=hm p hp; exact hi.2.2.2.2
 ·rintro ⟨h1,h2,h3⟩
  refine ⟨hN,h1.1,h1.2.1,fun i p hp=>?_,h3.1,h2.2⟩
  have hk:=h1.2.2 i p hp
  have hm:=List.mem_of_getElem? hp
  refine ⟨hk.2,?_,?_,h2.1 p hm,h3.2 p hm⟩
  ·rcases hk.1 with k | k
   ·exact .inl k
   ·exact .inr k.2
  ·rcases hk.1 with k | k
   ·exact k.1
   ·exact k.1
theorem known_two {bs ps:List Nat} (h:KnownAll bs ps):∀ p ∈ ps,2 <= p:=fun p hp=>by
 obtain ⟨i,hi⟩:=List.getElem?_of_mem hp
 rcases (h.2.2 i p hi).1 with k | k
 ·exact k.1
 ·exact k.1
open Classical in
theorem holds_e (e:Nat) (he:e <= 100):∀ (w:World) (N B:Nat) (p0:Option Addr) (n0 c0:Nat) (p1:Option Addr) (n1 c1:Nat) (pp:Option Addr) (np cp:Nat) (ps:List Nat) (pb:Option Addr) (nb cb:Nat) (bs:List Nat),
  NatAt w p0 n0 c0 N -> N < B32 e -> NatAt w p1 n1 c1 B -> B < B32 e -> PList w e pp np cp ps -> PList w e pb nb cb bs -> np <= 1000 -> nb <= 1000 ->
  Calls Tryz.prog 188 #[.agg #[.slice p0 n0 c0,.slice p1 n1 c1,.slice pp np cp],.slice pb nb cb] w fun en w'=>en=.returned (.bool (decide (HoldsP N B ps bs))) /\ Below w.heap.size w w':=by
 intro w N Bs p0 n0 c0 p1 n1 c1 pp np cp ps pb nb cb bs hN hNl hB hBl hp hb hnp hnb
 have hbx:Below w.heap.size w (w.alloc (.cells #[.slice p0 n0 c0,.slice p1 n1 c1,.slice pp np cp] 145)):=bal
 have HBX3:=hol (Box3.made 145 w (.slice p0 n0 c0) (.slice p1 n1 c1) (.slice pp np cp))
 obtain ⟨wa,hwa⟩:∃ wa,w.alloc (.cells #[.slice p0 n0 c0,.slice p1 n1 c1,.slice pp np cp] 145)=wa:=⟨_,rfl⟩
 rw [hwa] at hbx HBX3
 have HNF:=hol ((Fit.of hN hNl).below hbx)
 have HBF:=hol ((Fit.of hB hBl).below hbx)
 have HP:=hol (hp.below hbx)
 have HBe:=hol (hb.below hbx)
 have HLP:=hol hp.len
 have HX:=hol hbx
 obtain ⟨ANS,hANS⟩:∃ X,decide (HoldsP N Bs ps bs)=X:=⟨_,rfl⟩
 have HANS:=hol hANS
 rw [hANS]
 have hca:=HBX3.out.cells.1
 clear hANS hN hNl hB hBl hp hb hbx
 go_enter Tryz.func188,Tryz.ntmps188
 go_wp2_with fail
 refine (rngnew_fit HNF.out (by omega)).mono ?_
 rintro en w1 ⟨hb1,⟨hlow,rfl⟩ | ⟨hN2,r,rfl,hR,_⟩⟩
 ·have HF:Hold (ANS=false):=⟨by rw [<- HANS.out]; exact decide_eq_false fun h=>by have:=h.two; omega⟩
  have HBe1:=hol (bstep HX.out hb1)
  clear hb1 hca
  go_wp2
  go_ret
  exact ⟨by rw [HF.out]; rfl,HBe1.out⟩
 have HR:=hol hR
 have HB1:=hol hb1
 have HX1:=hol (HBX3.out.below hb1 HBX3.out.lt)
 clear hb1 hR hca
 go_wp2
 refine wp_region_dutiesS (by kernel_rfl) (by kernel_rfl)
  [some (.pointer (some ⟨w.heap.size,0,none⟩)),some (.agg #[.slice p0 n0 c0]),none,none,none,none,some (.bool true),none,none,some (.bool true)]
  [false,false,true,true,true,true,false,true,true,false] rfl
  (fun w2 w3=>Keep w1.heap.size w2 w3)
  (fun D sp w'=>Below w1.heap.size w1 w' /\ (D 7=true -> BoxOf (sp 7) w1.heap.size (N - 1) (D 8) w'))
  (fun i v w'=>match i with
   | 2=>Fit 1 1 v w'
   | 3=>SubVal (N - 1) v w'
   | 4=>SubVal (N - 1) v w'
   | 5=>AggVal (N - 1) v w'
   | _=>True)
  ?_ ⟨(Below.refl _ _).drew,(fun a=>by cases a)⟩ ?_ ?_
 ·intro i v w2 w3 hf hb
  split at hf
  ·exact Fit.keep hf hb
  ·exact SubVal.keep hf hb
  ·exact SubVal.keep hf hb
  ·exact AggVal.keep hf hb
  ·trivial
 ·simp only [DutiesS,Nat.reduceAdd]
  refine ⟨?_,?_,?_,?_,?_,?_,?_,?_,?_,?_,trivial⟩
  case refine_2 =>
   intro D sp w' hD hW hdp hg
   have c0:=(HX1.out.below hg.1 HX1.out.lt).cells.1
   simp [asked,Region.wanted,Oper.gives,execOp,Act.eval,Act.put,go_sem,c0]
  case refine_3 =>
   intro D sp w' hD hW hdp hg
   (with_reducible refine asked_call (w1:=w') (f := 20) (args:=#[.int .u64 1]) ?_ ?_ ?_)
   ·simp only [Region.wanted]
   ·simp [Act.eval,Act.put,go_sem]
   ·refine (one_fit w').mono ?_
    rintro en w5 ⟨u,rfl,hu,hb⟩
    exact ⟨u,rfl,Keep.of hb hg.1.size,hu,bstep hg.1 hb,by simpa [upd] using fun a=>(hg.2 a).later hb⟩
  case refine_4 =>
   intro D sp w' hD hW hdp hg
   have k2:Fit 1 1 (sp 2) w':=(hdp 2 (mq (by kernel_rfl))).2
   (with_reducible refine asked_call (w1:=w') (f := 116) (args:=#[.agg #[.slice p0 n0 c0],sp 2]) ?_ ?_ ?_)
   ·simp only [Region.wanted]
   ·simp [Act.eval,Act.put,go_sem]
   ·refine (sub_exact ((HNF.out.below HB1.out).below hg.1) k2 (by omega) (by omega) (by omega)).mono ?_
    rintro en w5 ⟨u,rfl,hu,hb⟩
    exact ⟨u,rfl,Keep.of hb hg.1.size,hu,bstep hg.1 hb,by simpa [upd] using fun a=>(hg.2 a).later hb⟩
  case refine_5 =>
   intro D sp w' hD hW hdp hg
   have k3:SubVal (N - 1) (sp 3) w':=(hdp 3 (mq (by kernel_rfl))).2
   (with_reducible refine asked_value (w1:=w') (v:=sp 3) ?_ ?_ ?_)
   ·simp only [Region.wanted]
   ·simp [execOp,Act.eval,Act.put,go_sem]
   ·exact ⟨Keep.same _ _,k3,hg.1,by simpa [upd] using hg.2⟩
  case refine_6 =>
   intro D sp w' hD hW hdp hg
   have hx:∃ p n c,sp 4=.tuple #[.agg #[.slice p n c],.bool true] /\ NatAt w' p n c (N - 1):=(hdp 4 (mq (by kernel_rfl))).2
   (with_reducible refine Exists.elim hx fun p hx1=>Exists.elim hx1 fun n hx2=>Exists.elim hx2 fun c hx3=>?_)
   have h1:=hx3.1
   (with_reducible refine asked_value (w1:=w') (v:=.agg #[.slice p n c]) ?_ ?_ ?_)
   ·simp only [Region.wanted]
   ·simp [execOp,Act.eval,Act.put,go_sem,h1]
   ·exact ⟨Keep.same _ _,⟨p,n,c,rfl,hx3.2⟩,hg.1,by simpa [upd] using hg.2⟩
  case refine_7 =>
   intro D sp w' hD hW hdp hg
   have hx:∃ p n c,sp 4=.tuple #[.agg #[.slice p n c],.bool true] /\ NatAt w' p n c (N - 1):=(hdp 4 (mq (by kernel_rfl))).2
   (with_reducible refine Exists.elim hx fun p hx1=>Exists.elim hx1 fun n hx2=>Exists.elim hx2 fun c hx3=>?_)
   have h1:=hx3.1
   simp [asked,Region.wanted,Oper.gives,execOp,Act.eval,Act.put,go_sem,h1]
  case refine_8 =>
   intro D sp w' hD hW hdp hg
   have h8:D 8=false:=hW 8 (mq (by kernel_rfl))
   (with_reducible refine asked_value (w1:=w'.alloc (.cells #[.slice none 0 0] 36)) (v:=.pointer (some ⟨w'.heap.size,0,none⟩)) ?_ ?_ ?_)
   ·simp only [Region.wanted]
   ·simp [execOp,go_sem]
   ·have hb:Below w'.heap.size w' (w'.alloc (.cells #[.slice none 0 0] 36)):=bal
    refine ⟨Keep.of hb hg.1.size,trivial,bstep hg.1 hb,fun _=>?_⟩
    have:=BoxOf.made w' hg.1.size (N - 1)
    simpa [upd,h8] using this
  case refine_9 =>
   intro D sp w' hD hW hdp hg
   have hx:∃ p n c,sp 5=.agg #[.slice p n c] /\ NatAt w' p n c (N - 1):=(hdp 5 (mq (by kernel_rfl))).2
   have hy:∃ b,sp 7=.pointer (some ⟨b,0,none⟩) /\ w1.heap.size <= b /\ ∃ p n c,NatBox w' b (.slice p n c) /\ (D 8=true -> NatAt w' p n c (N - 1)):=hg.2 (hdp 7 (mq (by kernel_rfl))).1
   (with_reducible refine Exists.elim hx fun p hx1=>Exists.elim hx1 fun n hx2=>Exists.elim hx2 fun c hx3=>Exists.elim hy fun bb hy1=>?_)
   have hlo:=hy1.2.1
   (with_reducible refine Exists.elim hy1.2.2 fun p2 hy2=>Exists.elim hy2 fun n2 hy3=>Exists.elim hy3 fun c2 hy4=>?_)
   have g1:=hx3.1
   have g2:=hy1.1
   have hbx0:=hy4.1
   have g3:=hbx0.cell
   have g4:=hbx0.free
   (with_reducible refine asked_skip (w1:=w'.setCell ⟨bb,0,none⟩ (.slice p n c)) ?_ ?_ ?_)
   ·simp only [Region.wanted]
   ·simp [execOp,Act.eval,Act.put,go_sem,g1,g2,g3,g4]
   ·exact ⟨Keep.store hbx0 hlo _,trivial,hg.1.setCell hlo _,fun _=>⟨bb,by simpa [upd] using g2,hlo,p,n,c,hbx0.set _,fun _=>hx3.2.store hbx0 _⟩⟩
  all_goals
   intro D sp w' hD hW hdp hg
   simp [asked,Region.wanted,Oper.gives,execOp,Act.eval,Act.put,go_sem]
 ·intro sp w2 hsp hg
  obtain ⟨b7,e7,lo7,p7,n7,c7,x7,v7⟩:=hg.2 rfl
  replace v7:=v7 rfl
  have HB2:=hol (bstep HB1.out hg.1)
  have HX2:=hol (HX1.out.below hg.1 HX1.out.lt)
  have HR2:=hol (HR.out.below hg.1)
  have HX7:=hol x7
  have HL7:=hol (Fit.of v7 (Nat.lt_of_le_of_lt (Nat.sub_le N 1) HNF.out.lim))
  clear hsp hg x7 v7
  simp only [frameOf,Nat.reduceAdd]
  rw [e7]
  clear e7
  generalize sp 2=y2,sp 3=y3,sp 4=y4,sp 5=y5,sp 8=y8 at *
  go_simp
  have d2:=HX2.out.cells.2.2
  obtain ⟨S1,hS1⟩:∃ X,decide (KnownAll bs ps)=X:=⟨_,rfl⟩
  have HS1:=hol hS1
  clear hS1
  go_wp2_with fail
  refine (areknown_calls (HP.out.below HB2.out) (HBe.out.below HB2.out) (by omega)).mono ?_
  rintro en w3 ⟨rfl,hb3⟩
  rw [HS1.out]
  have HX3:=hol (HX2.out.below hb3 HX2.out.lt)
  have HB3:=hol (bstep HB2.out hb3)
  have HR3:=hol (HR2.out.below hb3)
  have HX73:=hol (HX7.out.below hb3 HX7.out.lt)
  have HL73:=hol (HL7.out.below hb3)
  clear hb3 d2
  cases S1 with
  | false =>
   have HF:Hold (ANS=false):=⟨by rw [<- HANS.out]; exact decide_eq_false fun h=>(of_decide_eq_false HS1.out) ((holds_iff hN2).1 h).1⟩
   have HE:=hol (bstep HX.out HB3.out)
   go_wp2
   go_ret
   exact ⟨by rw [HF.out]; rfl,HE.out⟩
  | true =>
   have HK:Hold (KnownAll bs ps):=⟨of_decide_eq_true HS1.out⟩
   obtain ⟨S2,hS2⟩:∃ X,decide ((∀ p ∈ ps,(N - 1) % p=0) /\ N - 1 + 1 < pwl (N - 1) ps * pwl (N - 1) ps)=X:=⟨_,rfl⟩
   have HS2:=hol hS2
   clear hS2
   have d2:=HX3.out.cells.2.2
   have d7:=HX73.out.cell
   go_wp2_with fail
   refine (enough_calls HL73.out (HP.out.below HB3.out) he (by omega) (known_two HK.out) hnp).mono ?_
   rintro en w4 ⟨rfl,hb4⟩
   rw [HS2.out]
   have HX4:=hol (HX3.out.below hb4 HX3.out.lt)
   have HB4:=hol (bstep HB3.out hb4)
   have HR4:=hol (HR3.out.below hb4)
   have HX74:=hol (HX73.out.below hb4 HX73.out.lt)
   have HL74:=hol (HL73.out.below hb4)
   clear hb4 d2 d7
   cases S2 with
   | false =>
    have HF:Hold (ANS=false):=⟨by rw [<- HANS.out]; exact decide_eq_false fun h=>(of_decide_eq_false HS2.out) ((holds_iff hN2).1 h).2.1⟩
    have HE:=hol (bstep HX.out HB4.out)
    go_wp2
    go_ret
    exact ⟨by rw [HF.out]; rfl,HE.out⟩
   | true =>
    obtain ⟨S3,hS3⟩:∃ X,decide (Bs ^ (N - 1) % N=1 /\ ∀ p ∈ ps,Nat.gcd ((Bs ^ ((N - 1) / p) % N + N - 1) % N) N=1)=X:=⟨_,rfl⟩
    have HS3:=hol hS3
    have HF:Hold (ANS=S3):=⟨by
     rw [<- HANS.out,<- hS3]
     exact decide_eq_decide.2 ⟨fun h=>((holds_iff hN2).1 h).2.2,fun h=>(holds_iff hN2).2 ⟨HK.out,of_decide_eq_true HS2.out,h⟩⟩⟩
    clear hS3
    have d1:=HX4.out.cells.2.1
    have d2:=HX4.out.cells.2.2
    have d7:=HX74.out.cell
    go_wp2_with fail
    refine (prove_calls HR4.out (HBF.out.below HB4.out) HL74.out (HP.out.below HB4.out) he (known_two HK.out)).mono ?_
    rintro en w5 ⟨rfl,hb5⟩
    rw [HS3.out]
    have HE:=hol (bstep HX.out (bstep HB4.out hb5))
    clear hb5 d1 d2 d7
    go_wp2
    go_ret
    exact ⟨by rw [HF.out]; rfl,HE.out⟩
end Go.Proofs.YtdebccghjbfgdaaGreatDoor
