/- The document's inverse; its Verify. -/
import Derived.Test.YtdebccghjbfgdaaGreatDoorEuc
import Derived.Test.YtdebccghjbfgdaaGreatDoorCuA
import Derived.Deep.LoopGhost
import Derived.Lib.SmallJoins
import Derived.Lib.SlBytesConst
set_option maxRecDepth 1000000
set_option maxHeartbeats 16000000
set_option linter.unusedSimpArgs false
set_option linter.unusedVariables false
namespace Go.Proofs.YtdebccghjbfgdaaGreatDoor
open Go Go.RowKit Go.Proofs.YtdebccghjbfgdaaGreatDoor.Flow
theorem PList.tight {w:World} {e f:Nat} {p:Option Addr} {n c:Nat} {Ns:List Nat} (h:PList w e p n c Ns) (hl:∀ N ∈ Ns,N < B32 f):PList w f p n c Ns:=by
 refine ⟨h.len,h.cap,h.max,h.nil,fun h0=>?_⟩
 obtain ⟨b,off,h1,h2,h3⟩:=h.at_ h0
 exact ⟨b,off,h1,h2,fun i N hN=>let ⟨q,m,d,k1,k2,_⟩:=h3 i N hN; ⟨q,m,d,k1,k2,hl N (List.mem_of_getElem? hN)⟩⟩
theorem PList.wide {w:World} {e f:Nat} {p:Option Addr} {n c:Nat} {Ns:List Nat} (h:PList w e p n c Ns) (hf:e <= f):PList w f p n c Ns:=by
 refine ⟨h.len,h.cap,h.max,h.nil,fun h0=>?_⟩
 obtain ⟨b,off,h1,h2,h3⟩:=h.at_ h0
 exact ⟨b,off,h1,h2,fun i N hN=>let ⟨q,m,d,k1,k2,k3⟩:=h3 i N hN; ⟨q,m,d,k1,k2,Nat.lt_of_lt_of_le k3 (B32_mono hf)⟩⟩
theorem PSteps.wide {w:World} {e f:Nat} {p:Option Addr} {n c:Nat} {l:List StepN} (h:PSteps w e p n c l) (hf:e <= f):PSteps w f p n c l:=by
 refine ⟨h.len,h.cap,h.max,h.nil,fun h0=>?_⟩
 obtain ⟨b,off,h1,h2,h3⟩:=h.at_ h0
 refine ⟨b,off,h1,h2,fun i s hs=>?_⟩
 obtain ⟨q0,m0,d0,q1,m1,d1,q2,m2,d2,k0,k1,k2,k3,k4,k5,k6,k7⟩:=h3 i s hs
 exact ⟨q0,m0,d0,q1,m1,d1,q2,m2,d2,k0,k1,k2,k3,Nat.lt_of_lt_of_le k4 (B32_mono hf),k5,Nat.lt_of_lt_of_le k6 (B32_mono hf),k7.wide hf⟩
theorem long_asksS (w:World) (e:Nat) (l:List StepN) (he:e <= 900000):AsksS 187 #[] w e l (fun s=>@decide (TooLong s) (Classical.propDecidable _)):=by
 refine ⟨fun W M u _ _ hu=>?_⟩
 rw [Array.append_empty]
 exact long_calls hu he
theorem make_nats (n:Nat) (h:n <= 1000000) (w:World):(Instr.makeSlice 32 (.int .i64 0) (.int .i64 (n:Nat))).run Tryz.prog w =
  .ok (.slice (some ⟨w.heap.size,0,none⟩) 0 n) (w.alloc (.cells (madeCells #[.slice none 0 0] n) 36)):=by
 obtain ⟨i,hi,hz,hs,hb⟩:=info_parts Tryz.info_Nat
 have:=run_make (P:=Tryz.prog) w 32 36 i (.agg #[.slice none 0 0]) Tryz.underlying32 hi hz .i64 .i64 0 n (by omega) (by omega) (by rw [hb]; omega) (by omega)
 simp only [Int.toNat_natCast,hs,Nat.mul_one] at this
 rw [this]
 rfl
theorem OwnV.made (w:World) (B n:Nat) (hn:n <= 1000000) (hB:B <= w.heap.size) (bad:Nat -> Prop):OwnV NatAt 36 B bad (w.alloc (.cells (madeCells #[.slice Option.none 0 0] n) 36)) (.slice (some ⟨w.heap.size,0,Option.none⟩) 0 n) [] :=
 ⟨[],World.ownsRow_made w _ n hB (by simp only [maxLen]; omega) (by rw [size_madeCells,Nat.mul_one]),rfl,fun i N h=>by simp at h⟩
theorem chain_take {l:List StepN} {k:Nat} {s:StepN} (h:l[k]? = some s):ChainP [] (l.take (k + 1)) ↔ ChainP [] (l.take k) /\ HoldsP s.n s.base s.ps ((l.take k).map (·.n)):=by
 rw [snoc_take h,chain_snoc,List.nil_append]
theorem chain_pre {l:List StepN} (k:Nat) (h:ChainP [] l):ChainP [] (l.take k):=by
 rw [<- List.take_append_drop k l] at h
 exact ((chain_append _ _ _).1 h).1
open Classical in
theorem check_e (f:Nat) (hf:f <= 100):∀ (w:World) (p:Option Addr) (n c:Nat) (l:List StepN),PSteps w 200 p n c l -> n <= 60 -> (∀ s ∈ l,s.ps.length <= 1000) -> (∀ s ∈ l,¬ TooLong s -> s.n < B32 f /\ s.base < B32 f /\ ∀ q ∈ s.ps,q < B32 f) ->
  Calls Tryz.prog 159 #[.slice p n c] w fun en w'=>en=.returned (.int .i64 (if ∃ s ∈ l,TooLong s then 4 else if ChainP [] l then 0 else 8)) /\ Below w.heap.size w w':=by
 intro w p n c l h hn hps hlim
 have HH:=hol h
 have HLN:=hol h.len
 have HPS:=hol hps
 have HLIM:=hol hlim
 obtain ⟨ANS,hANS⟩:∃ X:Int,(if ∃ s ∈ l,TooLong s then 4 else if ChainP [] l then 0 else 8)=X:=⟨_,rfl⟩
 have HANS:=hol hANS
 rw [hANS]
 clear h hps hlim hANS
 have hn64:¬ (64:Int) < n:=by omega
 obtain ⟨S0,hS0⟩:∃ X,l.any (fun s=>decide (TooLong s))=X:=⟨_,rfl⟩
 have HS0:=hol hS0
 clear hS0
 go_enter Tryz.func159,Tryz.ntmps159
 go_wp2_with fail
 refine (sany_calls w 200 p n c l _ _ (enters_of Tryz.func187 (by kernel_rfl) rfl) (fun s=>decide (TooLong s)) HH.out (long_asksS _ 200 l (by decide))).mono ?_
 rintro en w1 ⟨rfl,hb1⟩
 rw [HS0.out]
 have HB1:=hol hb1
 clear hb1
 cases S0 with
 | true =>
  have HF:Hold (ANS=4):=⟨by
   rw [<- HANS.out]
   obtain ⟨s,hs,ht⟩:=List.any_eq_true.1 HS0.out
   exact if_pos ⟨s,hs,of_decide_eq_true ht⟩⟩
  go_wp2
  go_ret
  exact ⟨by rw [HF.out]; rfl,HB1.out⟩
 | false =>
  have hnl:∀ s ∈ l,¬ TooLong s:=fun s hs ht=>by
   have:=List.any_eq_false.1 HS0.out s hs
   exact this (decide_eq_true ht)
  have HNL:=hol hnl
  have HANS2:Hold ((if ChainP [] l then 0 else 8:Int)=ANS):=⟨by
   rw [<- HANS.out]
   exact (if_neg (fun h=>by obtain ⟨s,hs,ht⟩:=h; exact hnl s hs ht)).symm⟩
  have HLT:Hold (∀ s ∈ l,s.n < B32 f /\ s.base < B32 f /\ ∀ q ∈ s.ps,q < B32 f):=⟨fun s hs=>HLIM.out s hs (hnl s hs)⟩
  clear hnl
  have hmk:=fun wx=>make_nats n (by omega) wx
  have HOV:=hol (OwnV.made w1 w.heap.size n (by omega) HB1.out.size (fun g=>w.heap.size <= g))
  have hbm:Below w1.heap.size w1 (w1.alloc (.cells (madeCells #[.slice none 0 0] n) 36)):=bal
  have HBM:=hol (bstep HB1.out hbm)
  clear hbm
  go_wp2
  go_loopw [3,5,18] (fun vv _ iv wr=>∃ k:Nat,k <= n /\ iv=.int .i64 k /\ Hold (Below w.heap.size w wr) /\ Hold (OwnV NatAt 36 w.heap.size (fun g=>w.heap.size <= g) wr vv ((l.take k).map (·.n))) /\ Hold (ChainP [] (l.take k))) (fun _ _ iv _=>n - (intOf iv).toNat)
  case atStart=>exact ⟨0,by omega,rfl,HBM,HOV,⟨trivial⟩⟩
  case round =>
   obtain ⟨k,hk,rfl,HB,HO,HC⟩:=hrel
   by_cases hkn:k < n
   ·obtain ⟨S,hSk⟩:∃ s,l[k]? = some s:=⟨l[k]'(by rw [<- HLN.out]; exact hkn),List.getElem?_eq_getElem _⟩
    have HSk:=hol hSk
    have HM:=hol (List.mem_of_getElem? hSk)
    obtain ⟨b,off,rfl,hb,hc⟩:=HH.out.at_ (by omega)
    obtain ⟨q0,m0,d0,q1,m1,d1,q2,m2,d2,y0,y1,y2,y3,y4,y5,y6,y7⟩:=hc k S hSk
    have HNA:=hol y3
    have HNB:=hol y5
    have HNP:=hol (y7.tight (HLT.out S HM.out).2.2)
    have hcl:∀ o,wr.cell? ⟨b,o,none⟩=w.cell? ⟨b,o,none⟩:=fun o=>HB.out.cell (p:=⟨b,o,none⟩) hb
    have x0:wr.cell? ⟨b,off + k * 3,none⟩=some (.slice q0 m0 d0):=by rw [hcl]; exact y0
    have x1:wr.cell? ⟨b,off + k * 3 + 1,none⟩=some (.slice q1 m1 d1):=by rw [hcl]; exact y1
    have x2:wr.cell? ⟨b,off + k * 3 + 2,none⟩=some (.slice q2 m2 d2):=by rw [hcl]; exact y2
    have hkn':(k:Int) < n:=by omega
    have hbx:Below wr.heap.size wr (wr.alloc (.cells #[.slice q0 m0 d0,.slice q1 m1 d1,.slice q2 m2 d2] 145)):=bal
    have HBX3:=hol (Box3.made 145 wr (.slice q0 m0 d0) (.slice q1 m1 d1) (.slice q2 m2 d2))
    obtain ⟨wa,hwa⟩:∃ wa,wr.alloc (.cells #[.slice q0 m0 d0,.slice q1 m1 d1,.slice q2 m2 d2] 145)=wa:=⟨_,rfl⟩
    rw [hwa] at hbx HBX3
    have HBa:=hol (bstep HB.out hbx)
    have HOa:=hol (HO.out.below hbx)
    have hmem:∀ N ∈ (l.take k).map (·.n),N < B32 f:=fun N hN=>by
     obtain ⟨s,hs,rfl⟩:=List.mem_map.1 hN
     exact (HLT.out s (List.mem_of_mem_take hs)).1
    have HL60:Hold (((l.take k).map (·.n)).length <= 1000):=⟨by rw [List.length_map,List.length_take]; omega⟩
    obtain ⟨Ks,hKs⟩:∃ Ks,(l.take k).map (·.n)=Ks:=⟨_,rfl⟩
    have HKs:=hol hKs
    rw [hKs] at hmem HL60 HOa HO
    clear hKs
    obtain ⟨nk,hnk⟩:∃ nk,Ks.length=nk:=⟨_,rfl⟩
    obtain ⟨p1,c1,rfl,hp1⟩:=HOa.out.plist hmem
    have HNk:=hol hnk
    rw [hnk] at hp1 HL60 HOa HO
    rw [hnk]
    clear hnk
    have HP1:=hol hp1
    have z0:=HBX3.out.cells.1
    have z1:=HBX3.out.cells.2.1
    have z2:=HBX3.out.cells.2.2
    clear hc hcl y0 y1 y2 y3 y4 y5 y6 y7 hbx hmem hp1 hSk
    obtain ⟨D,hD⟩:∃ X,decide (HoldsP S.n S.base S.ps Ks)=X:=⟨_,rfl⟩
    have HD:=hol hD
    clear hD
    go_wp2_with fail
    refine (holds_e f hf wa S.n S.base q0 m0 d0 q1 m1 d1 q2 m2 d2 S.ps _ _ _ _ (HNA.out.below HBa.out) (HLT.out S HM.out).1 (HNB.out.below HBa.out) (HLT.out S HM.out).2.1 (HNP.out.below HBa.out) HP1.out (by rw [HNP.out.len]; exact HPS.out S HM.out) HL60.out).mono ?_
    rintro en w3 ⟨rfl,hb3⟩
    rw [HD.out]
    have HB3:=hol (bstep HBa.out hb3)
    have HO3:=hol (HOa.out.below hb3)
    have HX3:=hol (HBX3.out.below hb3 HBX3.out.lt)
    clear hb3 x0 x1 x2 z0 z1 z2
    cases D with
    | false =>
     have HF:Hold (ANS=8):=⟨by
      rw [<- HANS2.out,if_neg]
      intro hh
      exact of_decide_eq_false HD.out (by rw [<- HKs.out]; exact ((chain_take HSk.out).1 (chain_pre (k + 1) hh)).2)⟩
     go_wp2
     go_ret
     exact ⟨by rw [HF.out]; rfl,HB3.out⟩
    | true =>
     have HC':Hold (ChainP [] (l.take (k + 1))):=⟨(chain_take HSk.out).2 ⟨HC.out,by rw [HKs.out]; exact of_decide_eq_true HD.out⟩⟩
     have HTk:Hold ((l.take (k + 1)).map (·.n)=Ks ++ [S.n]):=⟨by rw [snoc_take HSk.out,List.map_append,HKs.out]; rfl⟩
     have hb4:Below w3.heap.size w3 (w3.alloc (.cells #[.slice q0 m0 d0] 36)):=bal
     have hx4:(w3.alloc (.cells #[.slice q0 m0 d0] 36)).cell? ⟨w3.heap.size,0,none⟩=some (.slice q0 m0 d0):=(NatBox.made w3 (.slice q0 m0 d0)).cell
     obtain ⟨w4,hw4⟩:∃ w4,w3.alloc (.cells #[.slice q0 m0 d0] 36)=w4:=⟨_,rfl⟩
     rw [hw4] at hb4 hx4
     have hB4:=bstep HB3.out hb4
     have hfirm:Firm (fun w=>NatAt w q0 m0 d0 S.n) (fun g=>w.heap.size <= g) w4:=natStands.firm (HNA.out.below hB4) fun q hq hle=>by
      have:=natStands.lt HNA.out q hq
      omega
     obtain ⟨i1,hi1,hz1,hs1,hbb1⟩:=info_parts Tryz.info_Nat
     obtain ⟨v9,w9,happ,ho9,hg9,_⟩:=(HO3.out.below hb4).app Tryz.underlying32 hi1 hz1 hs1 hbb1 rfl (by decide) hB4.size (a:=⟨w3.heap.size,0,none⟩) (c:=1) (x:=(q0,m0,d0)) hx4 hfirm (fun g hg=>(HO3.out.block g hg).1) (by rw [HNk.out]; exact Nat.le_trans HL60.out (by decide)) 32
     have HO9:=hol ho9
     have HB9:Hold (Below w.heap.size w w9):=⟨hB4.grown hg9 hB4.size fun g hg=>(HO3.out.block g hg).1⟩
     have z0:=HX3.out.cells.1
     clear hb4 hx4 hB4 hfirm hi1 hz1 hs1 hbb1 ho9 hg9
     go_wp2_with (at_builtin; refine Lib.wpList_append_run _ rfl _ _ _ _ rfl _ _ rfl rfl _ _ happ ?_; refine Paused.out ?_)
     refine ⟨?_⟩
     clear happ z0
     go_wp2
     go_roundw
     case rel=>exact ⟨k + 1,by omega,by go_num,HB9,⟨by rw [HTk.out]; exact HO9.out⟩,HC'⟩
     case measure=>simp [intOf]; omega
   ·obtain rfl:k=n:=by omega
    have hkn':¬ (k:Int) < k:=by omega
    have htk:l.take k=l:=List.take_of_length_le (by rw [<- HLN.out]; exact Nat.le_refl _)
    rw [htk] at HC
    have HF:Hold (ANS=0):=⟨by rw [<- HANS2.out,if_pos HC.out]⟩
    clear htk
    go_wp2
    go_ret
    exact ⟨by rw [HF.out]; rfl,HB.out⟩
theorem PList.lim {w:World} {e:Nat} {p:Option Addr} {n c:Nat} {Ns:List Nat} (h:PList w e p n c Ns):∀ N ∈ Ns,N < B32 e:=fun N hN=>by
 obtain ⟨i,hi⟩:=List.getElem?_of_mem hN
 obtain ⟨b,off,_,_,h3⟩:=h.at_ (by rw [h.len]; have:=(List.getElem?_eq_some_iff.1 hi).1; omega)
 obtain ⟨_,_,_,_,_,h4⟩:=h3 i N hi
 exact h4
theorem PSteps.lim {w:World} {e:Nat} {p:Option Addr} {n c:Nat} {l:List StepN} (h:PSteps w e p n c l):∀ s ∈ l,s.n < B32 e /\ s.base < B32 e /\ ∀ q ∈ s.ps,q < B32 e:=fun s hs=>by
 obtain ⟨i,hi⟩:=List.getElem?_of_mem hs
 obtain ⟨b,off,_,_,h3⟩:=h.at_ (by rw [h.len]; have:=(List.getElem?_eq_some_iff.1 hi).1; omega)
 obtain ⟨_,_,_,_,_,_,_,_,_,_,_,_,_,k4,_,k6,k7⟩:=h3 i s hi
 exact ⟨k4,k6,k7.lim⟩
theorem blen_B2 {e N:Nat} (he:e <= 32) (h:N < B32 e):¬ 1024 < blen N:=by
 have:blen N <= 32 * e:=(blen_le N _).2 (by
  have:B32 e=2 ^ (32 * e):=by unfold B32; rw [Nat.pow_mul]
  rw [<- this]; exact h)
 omega
theorem of1_asks (w:World) (e f:Nat) (l:List StepN) (b:Nat) (v:Value) (N:Nat) (hb:b < w.heap.size) (hc:w.cell? ⟨b,0,none⟩=some v) (hv:Fit f N (.agg #[v]) w) (he:e <= 900000) (hf:f <= 900000) :
  AsksS 157 #[.pointer (some ⟨b,0,none⟩)] w e l (fun s=>decide (s.n=N)):=by
 refine ⟨fun W s u hbw _ hu=>?_⟩
 have hc':W.cell? ⟨b,0,none⟩=some v:=(hbw.cell (p:=⟨b,0,none⟩) hb).trans hc
 have hv':=hv.below hbw
 obtain ⟨q0,m0,d0,q1,m1,d1,q2,m2,d2,rfl,h0,l0,h1,l1,h2⟩:=hu.ex
 have hbW:b < W.heap.size:=Nat.lt_of_lt_of_le hb hbw.size
 have hbx:Below W.heap.size W (W.alloc (.cells #[.slice q0 m0 d0,.slice q1 m1 d1,.slice q2 m2 d2] 145)):=bal
 have HBX3:=hol (Box3.made 145 W (.slice q0 m0 d0) (.slice q1 m1 d1) (.slice q2 m2 d2))
 obtain ⟨wa,hwa⟩:∃ wa,W.alloc (.cells #[.slice q0 m0 d0,.slice q1 m1 d1,.slice q2 m2 d2] 145)=wa:=⟨_,rfl⟩
 rw [hwa] at hbx HBX3
 have hc2:wa.cell? ⟨b,0,none⟩=some v:=(hbx.cell (p:=⟨b,0,none⟩) hbW).trans hc'
 have HA:=hol ((Fit.of h0 l0).below hbx)
 have HV:=hol (hv'.below hbx)
 have HX:=hol hbx
 have hca:=HBX3.out.cells.1
 obtain ⟨pv,nv,cv,hev,_,_⟩:=hv
 cases hev
 obtain ⟨SN,hSN⟩:∃ x,s.n=x:=⟨_,rfl⟩
 rw [hSN] at HA
 have HSN:=hol hSN
 clear hSN hu h0 l0 h1 l1 h2 hbx hv' hc' hc
 go_enter Tryz.func157,Tryz.ntmps157
 go_wp2_with fail
 refine (cmp_fit HA.out HV.out he hf).mono ?_
 rintro en w1 ⟨_,rfl,rfl,hb1⟩
 have HB1:=hol (bstep HX.out hb1)
 have e0:((cmpI SN N:Int) == 0)=decide (SN=N):=by
  by_cases hnm:SN=N
  ·simp [hnm,cmpI_zero.2]
  ·have:cmpI SN N ≠ 0:=fun h0=>hnm (cmpI_zero.1 h0)
   simp [hnm,this]
 have HE:=hol e0
 clear e0 hb1 hc2 hca
 generalize cmpI SN N=K at *
 go_wp2
 go_ret
 exact ⟨by rw [HSN.out,<- HE.out]; rfl,HB1.out⟩
open Classical in
theorem prime_e (e:Nat) (he:e <= 32):∀ (w:World) (N:Nat) (v:Value) (p:Option Addr) (n c:Nat) (l:List StepN),Fit e N v w -> PSteps w e p n c l -> n <= 60 -> (∀ s ∈ l,s.ps.length <= 1000) ->
  Calls Tryz.prog 109 #[v,.slice p n c] w fun en w'=>en=.returned (.bool (decide (SmallP N ∨ (ChainP [] l /\ ∃ s ∈ l,s.n=N)))) /\ Below w.heap.size w w':=by
 intro w N v p n c l hv h hn hps
 obtain ⟨pu,nu,cu,rfl,hu1,hu2⟩:=hv
 have hbx:=Box1.mk1 w (.slice pu nu cu) 36
 obtain ⟨wa,hwa⟩:∃ wa,w.alloc (.cells #[.slice pu nu cu] 36)=wa:=⟨_,rfl⟩
 have hbox:=NatBox.made w (.slice pu nu cu)
 rw [hwa] at hbx hbox
 have HBOX:=hol hbox
 have HX:=hol hbx.bel
 have HF:=hol ((Fit.of hu1 hu2).below hbx.bel)
 have HP:=hol (h.below hbx.bel)
 have HPS:=hol hps
 have HLIM:=hol h.lim
 obtain ⟨ANS,hANS⟩:∃ X,decide (SmallP N ∨ (ChainP [] l /\ ∃ s ∈ l,s.n=N))=X:=⟨_,rfl⟩
 have HANS:=hol hANS
 rw [hANS]
 have hca:=hbox.cell
 clear hANS hps h hu1 hu2 hbx hbox
 obtain ⟨S,hS⟩:∃ X,decide (SmallP N)=X:=⟨_,rfl⟩
 have HS:=hol hS
 clear hS
 go_enter Tryz.func109,Tryz.ntmps109
 go_wp2_with fail
 refine (small_does wa N e _ HF.out (by omega)).mono ?_
 rintro en w1 ⟨rfl,hb1⟩
 rw [HS.out]
 have HB1:=hol hb1
 have HBOX1:=hol (HBOX.out.below hb1 HBOX.out.lt)
 clear hb1 hca
 cases S with
 | true =>
  have HA:Hold (ANS=true):=⟨by rw [<- HANS.out]; exact decide_eq_true (.inl (of_decide_eq_true HS.out))⟩
  have HE:=hol (bstep HX.out HB1.out)
  go_wp2
  go_ret
  exact ⟨by rw [HA.out]; rfl,HE.out⟩
 | false =>
  obtain ⟨C,hC⟩:∃ X,l.any (fun s=>decide (s.n=N))=X:=⟨_,rfl⟩
  have HC:=hol hC
  clear hC
  have HAS:=hol (of1_asks w1 e e l w.heap.size (.slice pu nu cu) N HBOX1.out.lt HBOX1.out.cell (HF.out.below HB1.out) (by omega) (by omega))
  go_wp2_with fail
  refine (sany_calls w1 e p n c l _ _ (enters_of Tryz.func157 (by kernel_rfl) rfl) _ (HP.out.below HB1.out) HAS.out).mono ?_
  rintro en w2 ⟨rfl,hb2⟩
  rw [HC.out]
  have HB2:=hol (bstep HB1.out hb2)
  clear hb2
  cases C with
  | false =>
   have HA:Hold (ANS=false):=⟨by
    rw [<- HANS.out]
    refine decide_eq_false fun hh=>?_
    rcases hh with hh | ⟨_,s,hs,hsn⟩
    ·exact of_decide_eq_false HS.out hh
    ·exact List.any_eq_false.1 HC.out s hs (decide_eq_true hsn)⟩
   have HE:=hol (bstep HX.out HB2.out)
   go_wp2
   go_ret
   exact ⟨by rw [HA.out]; rfl,HE.out⟩
  | true =>
   have hnl:∀ s ∈ l,¬ TooLong s:=fun s hs ht=>by
    have:=HLIM.out s hs
    rcases ht with ht | ht | ⟨q,hq,ht⟩
    ·exact blen_B2 he this.1 ht
    ·exact blen_B2 he this.2.1 ht
    ·exact blen_B2 he (this.2.2 q hq) ht
   have hne:¬ ∃ s ∈ l,TooLong s:=fun hh=>by obtain ⟨s,hs,ht⟩:=hh; exact hnl s hs ht
   have hex:∃ s ∈ l,s.n=N:=by
    obtain ⟨s,hs,ht⟩:=List.any_eq_true.1 HC.out
    exact ⟨s,hs,of_decide_eq_true ht⟩
   have HNE:=hol hne
   have HEX:=hol hex
   clear hnl hne hex
   go_wp2_with fail
   refine (check_e e (by omega) w2 p n c l ((HP.out.below HB2.out).wide (by omega)) hn HPS.out (fun s hs _=>HLIM.out s hs)).mono ?_
   rintro en w3 ⟨rfl,hb3⟩
   rw [if_neg HNE.out]
   have HE:=hol (bstep HX.out (bstep HB2.out hb3))
   clear hb3
   by_cases hch:ChainP [] l
   ·rw [if_pos hch]
    have HA:Hold (ANS=true):=⟨by rw [<- HANS.out]; exact decide_eq_true (.inr ⟨hch,HEX.out⟩)⟩
    clear hch
    go_wp2
    go_ret
    exact ⟨by rw [HA.out]; rfl,HE.out⟩
   ·rw [if_neg hch]
    have HA:Hold (ANS=false):=⟨by
     rw [<- HANS.out]
     refine decide_eq_false fun hh=>?_
     rcases hh with hh | hh
     ·exact of_decide_eq_false HS.out hh
     ·exact hch hh.1⟩
    clear hch
    go_wp2
    go_ret
    exact ⟨by rw [HA.out]; rfl,HE.out⟩
theorem Prime.dvd_imul {q:Nat} (hq:Prime q) {a b:Int} (h:(q:Int) ∣ a * b):(q:Int) ∣ a ∨ (q:Int) ∣ b:=by
 rw [Int.ofNat_dvd_left,Int.natAbs_mul] at h
 rcases hq.dvd_mul h with h | h
 ·exact .inl (Int.ofNat_dvd_left.2 h)
 ·exact .inr (Int.ofNat_dvd_left.2 h)
def Unlike (q:Nat) (xs:List Int):Prop:=xs.Pairwise fun a b=>¬ (q:Int) ∣ a - b
def wval:List (Int × Int) -> Int -> Int
 | [],_=>1
 | (a,v) :: l,x=>(x - a) * v * wval l x
theorem Unlike.neg {q:Nat} {a b:Int} (h:¬ (q:Int) ∣ a - b):¬ (q:Int) ∣ b - a:=fun k=>h (by have:=Int.dvd_neg.2 k; rw [Int.neg_sub] at this; exact this)
def Invs (q:Nat) (iv:Int -> Int) (xs:List Int):Prop:=∀ a b,a ∈ xs -> b ∈ xs -> ¬ (q:Int) ∣ a - b -> (q:Int) ∣ (a - b) * iv (a - b) - 1
theorem idvd_l {q a:Int} (h:q ∣ a) (b:Int):q ∣ a * b:=let ⟨k,hk⟩:=h; ⟨k * b,by rw [hk,Int.mul_assoc]⟩
theorem idvd_r {q a:Int} (h:q ∣ a) (b:Int):q ∣ b * a:=by rw [Int.mul_comm]; exact idvd_l h b
structure Is (q N:Nat) (z:Int):Prop where
 lt:N < q
 dvd:(q:Int) ∣ (N:Int) - z
theorem Is.of {q:Nat} (hq:0 < q) (N:Nat):Is q (N % q) N:=⟨Nat.mod_lt _ hq,by
 have h:=Nat.div_add_mod N q
 refine ⟨-((N / q:Nat):Int),?_⟩
 have h2:(N:Int)=(q:Int) * (N / q:Nat) + (N % q:Nat):=by rw [<- Int.natCast_mul,<- Int.natCast_add,h]
 rw [Int.mul_neg]; omega⟩
theorem Is.alike {q N:Nat} {x y:Int} (h:Is q N x) (hxy:(q:Int) ∣ x - y):Is q N y:=⟨h.lt,by
 have:=Int.dvd_add h.dvd hxy
 rwa [show (N:Int) - x + (x - y)=N - y by omega] at this⟩
theorem Is.uniq {q a b:Nat} {x y:Int} (h:Is q a x) (k:Is q b y) (hxy:(q:Int) ∣ x - y):a=b:=by
 have h1:=Int.dvd_sub (h.alike hxy).dvd k.dvd
 rw [show (a:Int) - y - ((b:Int) - y)=(a:Int) - b by omega] at h1
 have h2:=mod_of_dvd h1
 rwa [Nat.mod_eq_of_lt h.lt,Nat.mod_eq_of_lt k.lt] at h2
theorem Is.rest {q N:Nat} {z:Int} (hq:0 < q) (h:(q:Int) ∣ (N:Int) - z):Is q (N % q) z:=(Is.of hq N).alike h
theorem Is.mul {q a b:Nat} {x y:Int} (h:Is q a x) (k:Is q b y):Is q (a * b % q) (x * y):=Is.rest (Nat.lt_of_le_of_lt (Nat.zero_le _) h.lt) (by
 have h1:=Int.dvd_add (idvd_l h.dvd (b:Int)) (idvd_r k.dvd x)
 rwa [show ((a:Int) - x) * b + x * ((b:Int) - y)=((a * b:Nat):Int) - x * y by rw [Int.sub_mul,Int.mul_sub,Int.natCast_mul]; omega] at h1)
theorem Is.sub {q a b:Nat} {x y:Int} (hq:2 <= q) (h:Is q a x) (k:Is q b y):Is q (subM a b q) (x - y):=⟨subM_lt hq,by
 have h1:=Int.dvd_sub h.dvd k.dvd
 unfold subM
 rw [Nat.mod_eq_of_lt h.lt,Nat.mod_eq_of_lt k.lt]
 split
 ·rwa [show (a:Int) - x - ((b:Int) - y)=((a - b:Nat):Int) - (x - y) by omega] at h1
 ·have h2:=Int.dvd_add h1 (Int.dvd_refl (q:Int))
  have:=k.lt
  rwa [show (a:Int) - x - ((b:Int) - y) + q=((q - b + a:Nat):Int) - (x - y) by omega] at h2⟩
theorem Is.one {q:Nat} (hq:2 <= q):Is q 1 1:=⟨by omega,by simp⟩
theorem Is.inv {q N X:Nat} {z:Int} (hq:Prime q) (h:Is q (N % q) z) (hX:IsInv q N X) (hz:¬ (q:Int) ∣ z):(q:Int) ∣ z * X - 1 /\ X < q:=by
 have hg:Nat.gcd q N=1:=hq.coprime fun hd=>hz (by
  have h1:N % q=0:=Nat.mod_eq_zero_of_dvd hd
  have h2:=h.dvd
  rw [h1] at h2
  have:=Int.dvd_neg.2 h2
  rwa [show -(((0:Nat):Int) - z)=z by omega] at this)
 obtain ⟨h1,h2⟩:=hX.1 hg
 refine ⟨?_,h1⟩
 have h3:(q:Int) ∣ ((X * N:Nat):Int) - (1:Nat):=dvd_of_mod h2
 have h4:(q:Int) ∣ (N:Int) - z:=by
  have h5:=Int.dvd_sub (Is.of (by have:=hq.two; omega) N).dvd h.dvd
  have h6:=Int.dvd_neg.2 h5
  rwa [show -(((N % q:Nat):Int) - N - (((N % q:Nat):Int) - z))=N - z by omega] at h6
 have h7:=Int.dvd_sub h3 (idvd_r h4 (X:Int))
 rwa [show ((X * N:Nat):Int) - (1:Nat) - X * ((N:Int) - z)=z * X - 1 by rw [Int.natCast_mul,Int.mul_sub,Int.mul_comm z X]; omega] at h7
def horQ (q x:Nat):List Nat -> Nat
 | []=>0
 | c :: l=>(c + horQ q x l * x % q) % q
theorem inv_from {M N:Nat} (hM:2 <= M):∀ (R D O X:Nat) (neg:Bool),EuSt M N D R O X neg -> ∃ Y,IsInv M N Y:=by
 intro R
 induction R using Nat.strongRecOn with
 | _ R ih =>
  intro D O X neg h
  rcases Nat.eq_zero_or_pos R with h0 | h0
  ·subst h0
   have h1:=h.done hM
   by_cases hD:D=1
   ·exact ⟨_,h1.2 hD⟩
   ·exact ⟨0,fun hg=>absurd (h1.1.trans hg) hD,fun _=>rfl⟩
  ·exact ih (D % R) (Nat.mod_lt _ h0) _ _ _ _ (h.step h0)
theorem inv_exists {M:Nat} (hM:2 <= M) (N:Nat):∃ Y,IsInv M N Y:=inv_from hM _ _ _ _ _ (EuSt.start (M:=M) (N:=N) (by omega))
noncomputable def invQ (M N:Nat):Nat:=Classical.epsilon fun Y=>IsInv M N Y
theorem invQ_is {M:Nat} (hM:2 <= M) (N:Nat):IsInv M N (invQ M N):=Classical.epsilon_spec (inv_exists hM N)
theorem invQ_eq {M N X:Nat} (hM:2 <= M) (h:IsInv M N X):X=invQ M N:=h.uniq (invQ_is hM N)
noncomputable def invZ (q:Nat) (z:Int):Int:=(invQ q (z % q).toNat:Nat)
theorem rest_is {q:Nat} (hq:0 < q) (z:Int):Is q (z % q).toNat z:=by
 have h1:=Int.emod_nonneg z (show (q:Int) ≠ 0 by omega)
 have h2:=Int.emod_lt_of_pos z (show (0:Int) < q by omega)
 refine ⟨by omega,?_⟩
 rw [Int.toNat_of_nonneg h1]
 refine ⟨-(z / q),?_⟩
 have:=Int.mul_ediv_add_emod z q
 rw [Int.mul_neg]; omega
theorem invs_all {q:Nat} (hq:Prime q) (xs:List Int):Invs q (invZ q) xs:=fun a b _ _ h=>by
 have h0:0 < q:=by have:=hq.two; omega
 have h1:=rest_is h0 (a - b)
 exact (Is.inv (N:=((a - b) % q).toNat) hq (by rw [Nat.mod_eq_of_lt h1.lt]; exact h1) (invQ_is hq.two _) h).1
theorem rest_eq {q N:Nat} {z:Int} (h:Is q N z):(z % q).toNat=N :=
 (rest_is (Nat.lt_of_le_of_lt (Nat.zero_le _) h.lt) z).uniq h (by simp)
noncomputable def docW (q x xi:Nat) (o:Nat):List Nat -> Nat
 | []=>o
 | a :: l=>docW q x xi (o * (subM x a q * invQ q (subM xi a q) % q) % q) l
theorem docW_is {q x xi:Nat} (hq:2 <= q):∀ (l:List Nat) (o:Nat) (z:Int),Is q o z ->
  Is q (docW q x xi o l) (z * wval (l.map fun a:Nat=>((a:Int),invZ q ((xi:Int) - a))) x)
 | [],o,z,h=>by
  show Is q o (z * 1)
  rw [Int.mul_one]; exact h
 | a :: l,o,z,h=>by
  have h0:0 < q:=by omega
  have d1:Is q (subM x a q) ((x:Int) - a):=by
   have:=(Is.of h0 x).sub hq (Is.of h0 a)
   have e:subM (x % q) (a % q) q=subM x a q:=by unfold subM; rw [Nat.mod_mod,Nat.mod_mod]
   rwa [e] at this
  have d2:Is q (subM xi a q) ((xi:Int) - a):=by
   have:=(Is.of h0 xi).sub hq (Is.of h0 a)
   have e:subM (xi % q) (a % q) q=subM xi a q:=by unfold subM; rw [Nat.mod_mod,Nat.mod_mod]
   rwa [e] at this
  have h2:Is q (subM x a q * invQ q (subM xi a q) % q) (((x:Int) - a) * invZ q ((xi:Int) - a)):=by
   refine Is.rest h0 ?_
   rw [invZ,rest_eq d2,Int.natCast_mul,<- Int.sub_mul]
   exact idvd_l d1.dvd _
  have h3:=docW_is (x:=x) (xi:=xi) hq l _ _ (h.mul h2)
  show Is q (docW q x xi (o * (subM x a q * invQ q (subM xi a q) % q) % q) l) (z * (((x:Int) - a) * invZ q ((xi:Int) - a) * wval (l.map fun a:Nat=>((a:Int),invZ q ((xi:Int) - a))) x))
  rw [<- Int.mul_assoc]; exact h3
def ints (l:List Nat):List Int:=l.map fun a:Nat=>(a:Int)
structure PLow (B:Nat) (w:World) (e:Nat) (p:Option Addr) (n c:Nat) (Ns:List Nat):Prop where
 pl:PList w e p n c Ns
 lo:0 < n -> ∀ q,p=some q -> q.block < B
theorem PLow.keep {B:Nat} {w w':World} {e:Nat} {p:Option Addr} {n c:Nat} {Ns:List Nat} (h:PLow B w e p n c Ns) (k:Keep B w w'):PLow B w' e p n c Ns:=by
 refine ⟨⟨h.pl.len,h.pl.cap,h.pl.max,h.pl.nil,fun h0=>?_⟩,h.lo⟩
 obtain ⟨b,off,h1,h2,h3⟩:=h.pl.at_ h0
 have hb:b < B:=h.lo h0 _ h1
 exact ⟨b,off,h1,Nat.lt_of_lt_of_le h2 k.bel.size,fun i N hN =>
  let ⟨q,m,d,k1,k2,k3⟩:=h3 i N hN
  ⟨q,m,d,(k.bel.cell (p:=⟨b,off + i,none⟩) hb).trans k1,k.nat _ _ _ _ k2,k3⟩⟩
theorem PLow.of {B:Nat} {w w':World} {e:Nat} {p:Option Addr} {n c:Nat} {Ns:List Nat} (h:PList w e p n c Ns) (hb:Below w.heap.size w w') (hB:w.heap.size <= B):PLow B w' e p n c Ns :=
 ⟨h.below hb,fun h0 q hq=>by
  obtain ⟨b,off,h1,h2,_⟩:=h.at_ h0
  rw [h1] at hq; cases hq
  exact Nat.lt_of_lt_of_le h2 hB⟩
structure StV (d:Bool) (b:Nat) (p0:Option Addr) (n0 c0 N:Nat) (w:World):Prop where
 z:d=false -> NatBox w b (.slice p0 n0 c0)
 o:d=true -> ∃ p n c,NatBox w b (.slice p n c) /\ NatAt w p n c N
theorem StV.later {d:Bool} {b n0 c0 N:Nat} {p0:Option Addr} {w w':World} (h:StV d b p0 n0 c0 N w) (hb:Below w.heap.size w w'):StV d b p0 n0 c0 N w' :=
 ⟨fun e=>(h.z e).below hb (h.z e).lt,fun e=>let ⟨p,n,c,h1,h2⟩:=h.o e; ⟨p,n,c,h1.below hb h1.lt,h2.below hb⟩⟩
theorem StV.put {b n0 c0 N:Nat} {p0:Option Addr} {w:World} (h:StV false b p0 n0 c0 N w) {p:Option Addr} {n c:Nat} (hx:NatAt w p n c N):∃ q m k,NatBox w b (.slice q m k) /\ StV true b p0 n0 c0 N (w.setCell ⟨b,0,none⟩ (.slice p n c)) :=
 ⟨p0,n0,c0,h.z rfl,(fun e=>by cases e),fun _=>⟨p,n,c,(h.z rfl).set _,hx.store (h.z rfl) _⟩⟩
def ProdBox (w:World) (b N:Nat):Prop:=∃ p n c,NatBox w b (.slice p n c) /\ NatAt w p n c N
theorem blen33 {N:Nat} (h:N < B32 33):blen N <= 1056:=by
 have:=lim_blen h; omega
open Go Go.RowKit
def four:List Nat:=[3,7,11,15]
def pp:Nat:=2 ^ 130 - 5
theorem sub_du {M X q Y:Nat} (hM:2 <= M):(M:Int) ∣ ((subM X (q * Y % M) M:Nat):Int) - ((X:Int) - (q:Nat) * (Y:Int)):=by
 rw [subM_eq hM,Nat.mod_mod]
 have hlt:=Nat.mod_lt (q * Y) (show 0 < M by omega)
 obtain ⟨A,hA⟩:∃ A,X % M + M - q * Y % M=A:=⟨_,rfl⟩
 rw [hA]
 have e1:=Nat.div_add_mod A M
 have e2:=Nat.div_add_mod X M
 have e3:=Nat.div_add_mod (q * Y) M
 refine ⟨1 - (A / M:Nat) - (X / M:Nat) + (q * Y / M:Nat),?_⟩
 rw [Int.mul_add,Int.mul_sub,Int.mul_sub,Int.mul_one,<- Int.natCast_mul q Y,<- Int.natCast_mul,<- Int.natCast_mul,<- Int.natCast_mul]
 generalize M * (A / M)=x at *
 generalize M * (X / M)=y at *
 generalize M * (q * Y / M)=z at *
 generalize q * Y % M=r at *
 generalize q * Y=s at *
 omega
theorem blen_one {U:Nat}:blen U=1 ↔ U=1:=by
 constructor
 ·intro h
  have h1:=(blen_le U 1).1 (by omega)
  rcases Nat.eq_zero_or_pos U with h0 | h0
  ·subst h0
   have:blen 0=0:=by decide
   omega
  ·omega
 ·intro h
  subst h
  decide
def GivesDInv (M N:Nat) (w:World) (en:Ending) (w':World):Prop :=
 ∃ (x:Value) (X:Nat) (B:Bool),en=.returned (.tuple #[x,.bool B]) /\ RBits X x w' /\ (B=true ↔ Nat.gcd M N=1) /\ (Nat.gcd M N=1 -> X < M /\ X * N % M=1 % M) /\ Below w.heap.size w w'
theorem dinv_calls {w:World} {v u:Value} {N M:Nat} (h:RBits N v w) (k:RBits M u w) (hM:2 <= M) (lN:blen N <= 100000) (lM:blen M <= 100000) :
  Calls Tryz.prog 81 #[v,u] w (GivesDInv M N w):=by
 obtain ⟨qn,mn,dn,rfl,hn⟩:=h
 obtain ⟨qm,mm,dm,rfl,hm⟩:=k
 have HN:=hol (RBits.of hn)
 have HM:=hol (RBits.of hm)
 have HM2:=hol hM
 have HLN:Hold (blen N <= 900000):=⟨by omega⟩
 have HLM:=hol lM
 have HLM9:Hold (blen M <= 900000):=⟨by omega⟩
 have HMM:=hol hm
 have HSM:Hold (∀ x,x < M -> blen x <= 100000):=⟨fun x hx=>Nat.le_trans (blen_mono (Nat.le_of_lt hx)) lM⟩
 clear hn hm hM lN lM
 go_enter Tryz.func81,Tryz.ntmps81
 go_wp2_with fail
 refine (dof_fit HN.out HM.out HLN.out HLM9.out (by have:=HM2.out; omega)).mono ?_
 rintro en w1 ⟨_,rfl,⟨qv,mv,dv,rfl,hv⟩,hb1⟩
 have hbe:Below w1.heap.size w1 (w1.alloc (.cells #[] 4)):=bal
 have hx0:BitsAt (w1.alloc (.cells #[] 4)) (some ⟨w1.heap.size,0,none⟩) 0 0 0:=bits_nil _ _ w1.heap.size 0 rfl (by simp)
 obtain ⟨w2,hw2⟩:∃ W,w1.alloc (.cells #[] 4)=W:=⟨_,rfl⟩
 rw [hw2] at hbe hx0
 obtain ⟨bx,hbx⟩:∃ b,w1.heap.size=b:=⟨_,rfl⟩
 rw [hbx] at hx0
 have HV:=hol (hv.below hbe)
 have HX0:=hol hx0
 have HB2:=hol (bstep hb1 hbe)
 clear hv hb1 hbe hx0
 go_wp2_with fail
 clear hw2 hbx
 refine (small_calls 1 w2 (by decide)).mono ?_
 rintro en w3 ⟨qy,my,dy,rfl,hy,hb3,_⟩
 have HU3:Hold (BitsAt w3 qm mm dm M):=⟨HMM.out.below (bstep HB2.out hb3)⟩
 have HV3:Hold (BitsAt w3 qv mv dv (N % M)):=⟨HV.out.below hb3⟩
 have HX3:Hold (BitsAt w3 (some ⟨bx,0,none⟩) 0 0 0):=⟨HX0.out.below hb3⟩
 have HY3:Hold (BitsAt w3 qy my dy 1):=⟨hy⟩
 have HB3:=hol (bstep HB2.out hb3)
 clear hy hb3 HV HX0 HB2
 go_wp2
 go_loopg [6,7,8,9] (N % M) (fun k uv vv xv yv wr=>∃ (U X Y:Nat) (pu:Option Addr) (nu cu:Nat) (pv:Option Addr) (nv cv:Nat) (px:Option Addr) (nx cx:Nat) (py:Option Addr) (ny cy:Nat),uv=.slice pu nu cu /\ vv=.slice pv nv cv /\ xv=.slice px nx cx /\ yv=.slice py ny cy /\ Hold (BitsAt wr pu nu cu U) /\ Hold (BitsAt wr pv nv cv k) /\ Hold (BitsAt wr px nx cx X) /\ Hold (BitsAt wr py ny cy Y) /\ Hold (DuSt M N U k X Y) /\ Hold (k < U /\ X < M /\ Y < M) /\ Hold (Below w.heap.size w wr))
 case atStart=>exact ⟨M,0,1,qm,mm,dm,qv,mv,dv,some ⟨bx,0,none⟩,0,0,qy,my,dy,rfl,rfl,rfl,rfl,HU3,HV3,HX3,HY3,⟨DuSt.start⟩,⟨Nat.mod_lt _ (by have:=HM2.out; omega),by have:=HM2.out; omega,by have:=HM2.out; omega⟩,HB3⟩
 case round =>
  obtain ⟨U,X,Y,pu,nu,cu,pv,nv,cv,px,nx,cx,py,ny,cy,rfl,rfl,rfl,rfl,HU,HV,HX,HY,HD,HL,HB⟩:=hrel
  clear HU3 HV3 HX3 HY3 HB3
  have hnv:=bits_len HV.out
  have hnu:=bits_len HU.out
  have HMr:Hold (RBits M (.slice qm mm dm) wr):=⟨HM.out.below HB.out⟩
  rcases Nat.eq_zero_or_pos gk with h0 | h0
  ·have hm0:nv=0:=by rw [hnv,h0]; rfl
   have hdn:=(show DuSt M N U 0 X Y from h0 ▸ HD.out).done
   have HXM:Hold (X % M=X):=⟨Nat.mod_eq_of_lt HL.out.2.1⟩
   have HOf:=hol (dof_fit (RBits.of HX.out) HMr.out (by have:=HSM.out X HL.out.2.1; omega) HLM9.out (by have:=HM2.out; omega))
   obtain ⟨B,hB⟩:∃ B,((nu:Int) == 1)=B:=⟨_,rfl⟩
   have HRES:Hold ((B=true ↔ Nat.gcd M N=1) /\ (Nat.gcd M N=1 -> X < M /\ X * N % M=1 % M)):=⟨by
    rw [<- hdn.1]
    refine ⟨?_,fun h1=>⟨HL.out.2.1,hdn.2 h1⟩⟩
    rw [<- hB,beq_iff_eq,<- blen_one,<- hnu]
    omega⟩
   clear hnv hnu h0 hdn HU HV HX HY HD HL
   subst hm0
   go_wp2_with fail
   refine HOf.out.mono ?_
   rintro en w9 ⟨x,rfl,hx,hb⟩
   rw [HXM.out] at hx
   have HXX:=hol hx
   have HBf:=hol (bstep HB.out hb)
   clear hx hb HOf HB
   go_wp2
   go_ret2
   exact ⟨x,X,B,rfl,HXX.out,HRES.out.1,HRES.out.2,HBf.out⟩
  ·have hm0:0 < nv:=by rw [hnv]; exact blen_pos h0
   have HLT:Hold (U % gk < gk):=⟨Nat.mod_lt _ h0⟩
   have H0:=hol h0
   have HBU:Hold (U <= M /\ U / gk <= M):=⟨HD.out.le,Nat.le_trans (Nat.div_le_self _ _) HD.out.le⟩
   have HlU:Hold (blen U <= 100000 /\ blen gk <= 100000 /\ blen (U / gk) <= 100000):=⟨Nat.le_trans (blen_mono HBU.out.1) HLM.out,Nat.le_trans (blen_mono (Nat.le_trans (Nat.le_of_lt HL.out.1) HBU.out.1)) HLM.out,Nat.le_trans (blen_mono HBU.out.2) HLM.out⟩
   clear hnv hnu h0
   go_wp2_with fail
   refine (rdiv_fit (RBits.of HU.out) (RBits.of HV.out) (by have:=HlU.out; omega) (by have:=HlU.out; omega) H0.out).mono ?_
   rintro en w4 ⟨pq,nq,cq,pr,nr,cr,rfl,hq,hr,hb4⟩
   have HQ4:=hol hq
   have HR4:=hol hr
   have HV4:=hol (HV.out.below hb4)
   have HX4:=hol (HX.out.below hb4)
   have HY4:=hol (HY.out.below hb4)
   have HM4:=hol (HMr.out.below hb4)
   have HB4:=hol (bstep HB.out hb4)
   clear hq hr hb4 HU HV HX HY HMr HB
   go_wp2_with fail
   refine (dmul_fit (RBits.of HQ4.out) (RBits.of HY4.out) HM4.out HlU.out.2.2 (HSM.out Y HL.out.2.2) HLM.out (by have:=HM2.out; omega)).mono ?_
   rintro en w5 ⟨_,rfl,ht,hb5⟩
   have HT5:=hol ht
   have HR5:=hol (HR4.out.below hb5)
   have HV5:=hol (HV4.out.below hb5)
   have HX5:=hol (HX4.out.below hb5)
   have HY5:=hol (HY4.out.below hb5)
   have HM5:=hol (HM4.out.below hb5)
   have HB5:=hol (bstep HB4.out hb5)
   clear ht hb5 HQ4 HR4 HV4 HX4 HY4 HM4 HB4
   go_wp2_with fail
   refine (dsub_fit (RBits.of HX5.out) HT5.out HM5.out (HSM.out X HL.out.2.1) (HSM.out _ (Nat.mod_lt _ (by have:=HM2.out; omega))) HLM.out HM2.out).mono ?_
   rintro en w6 ⟨_,rfl,⟨pz,nz,cz,rfl,hz⟩,hb6⟩
   have HZ6:=hol hz
   have HR6:=hol (HR5.out.below hb6)
   have HV6:=hol (HV5.out.below hb6)
   have HY6:=hol (HY5.out.below hb6)
   have HB6:=hol (bstep HB5.out hb6)
   have HD6:Hold (DuSt M N gk (U % gk) Y (subM X (U / gk * Y % M) M)):=⟨HD.out.step HL.out.1 (sub_du HM2.out)⟩
   have HL6:Hold (U % gk < gk /\ Y < M /\ subM X (U / gk * Y % M) M < M):=⟨HLT.out,HL.out.2.2,subM_lt HM2.out⟩
   clear hz hb6 HR5 HV5 HX5 HY5 HM5 HB5 HD HL HT5
   go_wp2
   go_roundg (U % gk)
   case measure=>exact HLT.out
   case rel=>exact ⟨gk,Y,_,pv,nv,cv,pr,nr,cr,py,ny,cy,pz,nz,cz,rfl,rfl,rfl,rfl,HV6,HR6,HY6,HZ6,HD6,HL6,HB6⟩
end Go.Proofs.YtdebccghjbfgdaaGreatDoor
