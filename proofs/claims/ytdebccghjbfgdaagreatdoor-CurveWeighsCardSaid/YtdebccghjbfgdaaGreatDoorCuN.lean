/- Small numbers in a row, the field, and the chapter's example lives (law10's Nums, field, lives). -/
import Derived.Test.YtdebccghjbfgdaaGreatDoorCuK
import Derived.Test.YtdebccghjbfgdaaGreatDoorGqG
set_option maxRecDepth 1000000
set_option maxHeartbeats 16000000
set_option linter.unusedSimpArgs false
set_option linter.unusedVariables false
namespace Go.Proofs.YtdebccghjbfgdaaGreatDoor
open Go Go.RowKit Go.Proofs.YtdebccghjbfgdaaGreatDoor.Flow
theorem eval_fit {w:World} {r q e ex n c X:Nat} {p:Option Addr} {As:List Nat} {v:Value} (hR:Ring w r q 33) (hA:PList w e p n c As) (hX:Fit ex X v w) (he:e <= 200) (hex:ex <= 200) (hn:n <= 1000000) :
  Calls Tryz.prog 37 #[.pointer (some ⟨r,0,none⟩),.slice p n c,v] w fun en w'=>∃ x,en=.returned x /\ Fit 33 (horQ q X As) x w' /\ Below w.heap.size w w':=by
 obtain ⟨px,nx,cx,rfl,x1,x2⟩:=fit_cases hX
 have hbx:=NB2.mk2 w (.slice px nx cx) (.slice none 0 0)
 have HR:=hol (hR.below hbx.bel)
 have HA:=hol (hA.below hbx.bel)
 have HX:=hol ((Fit.of x1 x2).below hbx.bel)
 have HBX:=hol hbx
 have c0:=hbx.b0.cell
 clear hR hA hX x1 hbx
 go_enter Tryz.func37,Tryz.ntmps37
 go_wp2_with fail
 refine (rof_fit HR.out HX.out (by omega)).mono ?_
 rintro en w1 ⟨_,rfl,⟨p1,n1,c1,rfl,h1,l1⟩,hb1⟩
 have HF1:=hol (Fit.of h1 l1)
 have HB1:=hol hb1
 clear h1 hb1 c0
 go_wp2_with fail
 refine (newnat_fit (n:=0) w1 (by omega)).mono ?_
 rintro en w2 ⟨_,rfl,⟨p2,n2,c2,rfl,h2,l2⟩,hb2⟩
 have hb12:=bstep HB1.out hb2
 have HV:=hol (callsIn_wide.1 (value_in w2 (enters_of Tryz.func43 (by kernel_rfl) rfl) (enters_of Tryz.func45 (by kernel_rfl) rfl) (op_add (HR.out.below hb12)) (op_mul (HR.out.below hb12)) (HA.out.below hb12) (HF1.out.below hb2) ((Fit.of h2 l2).wide (by decide:2 <= 33)) he (by decide) hn))
 have HX2:=hol (HBX.out.later hb12)
 clear h2 hb2 hb12 HB1 HBX HR HA HF1
 go_wp2_with fail
 refine HV.out.mono ?_
 rintro en w3 ⟨_,rfl,⟨p3,n3,c3,rfl,h3,l3⟩,hb3⟩
 rw [valN_hor,horQ_mod] at h3 l3
 have hx3:=HX2.out.later hb3
 have k1:=hx3.b1.cell
 have f1:=hx3.b1.free
 have HF:=hol (Fit.of (h3.store hx3.b1 (.slice p3 n3 c3)) l3)
 have HBF:Hold (Below w.heap.size w (w3.setCell ⟨w.heap.size + 1,0,none⟩ (.slice p3 n3 c3))):=⟨hx3.bel.setCell (by simp) _⟩
 clear h3 hx3 hb3 HV HX2
 go_wp2
 exact bodyPost_ret (v:=.agg #[.slice p3 n3 c3]) (by simp [results,Tryz.results37,go_sem,k1]) rfl ⟨_,rfl,HF.out,HBF.out⟩
def GivesWs (q n V X:Nat) (Bs:List Nat) (w:World) (en:Ending) (w':World):Prop :=
 (faultN q n V Bs ≠ 0 -> en=.returned (.tuple #[.slice none 0 0,.int .i64 (faultN q n V Bs:Nat)])) /\
 (faultN q n V Bs=0 -> ∃ g,en=.returned (.tuple #[.slice (some ⟨g,0,none⟩) n n,.int .i64 0]) /\ PList w' 33 (some ⟨g,0,none⟩) n n (weis q X [] Bs)) /\ Below w.heap.size w w'
theorem fault_same {q n V:Nat} {Bs:List Nat} (h:faultN q n V Bs=0):n=V:=by
 unfold faultN at h
 by_cases h0:n=0
 ·rw [if_pos h0] at h; omega
 ·rw [if_neg h0] at h
  by_cases h1:n=V
  ·exact h1
  ·rw [if_pos h1] at h; omega
theorem wb_fit {w:World} {r q e e2 n c V X:Nat} {p:Option Addr} {Bs:List Nat} {v:Value} (hq:Prime q) (hR:Ring w r q 33) (h:PList w e p n c Bs) (hX:Fit e2 X v w) (he:e <= 200) (he2:e2 <= 200) (hn:n <= 12) (hV:V <= 1000000) :
  Calls Tryz.prog 63 #[.pointer (some ⟨r,0,none⟩),.slice p n c,.int .i64 V,v] w (GivesWs q n V X Bs w):=by
 by_cases hf:faultN q n V Bs=0
 ·obtain rfl:=fault_same hf
  refine (wb_ok hq hR h hX he he2 hn hf).mono ?_
  rintro en w' ⟨g,h1,h2,h3⟩
  exact ⟨fun hne=>absurd hf hne,fun _=>⟨g,h1,h2⟩,h3⟩
 ·refine (wb_err hR h hX he hn hV hf).mono ?_
  rintro en w' ⟨h1,h2⟩
  exact ⟨fun _=>h1,fun h0=>absurd h0 hf,h2⟩
theorem weights_fit {w:World} {r q e e2 n c X:Nat} {p:Option Addr} {Bs:List Nat} {v:Value} (hq:Prime q) (hR:Ring w r q 33) (h:PList w e p n c Bs) (hX:Fit e2 X v w) (he:e <= 200) (he2:e2 <= 200) (hn:n <= 12) :
  Calls Tryz.prog 33 #[.pointer (some ⟨r,0,none⟩),.slice p n c,v] w (GivesWs q n n X Bs w):=by
 obtain ⟨px,nx,cx,rfl,x1,x2⟩:=fit_cases hX
 have hbw:Below w.heap.size w (w.alloc (.cells #[.slice px nx cx] 36)):=bal
 have c0:=(NatBox.made w (.slice px nx cx)).cell
 have HW:=hol (wb_fit (V:=n) hq (hR.below hbw) (h.below hbw) ((Fit.of x1 x2).below hbw) he he2 hn (by omega))
 have HB:=hol hbw
 clear hq hR h hX x1 hbw
 go_enter Tryz.func33,Tryz.ntmps33
 go_wp2_with fail
 refine HW.out.mono ?_
 rintro en w1 ⟨h1,h2,hb1⟩
 have HB1:=hol (bstep HB.out hb1)
 by_cases hf:faultN q n n Bs=0
 ·obtain ⟨g,rfl,hp⟩:=h2 hf
  have HP:=hol hp
  have HF:=hol hf
  clear h1 h2 hf hp hb1 c0 HW
  go_wp2
  go_ret2
  exact ⟨fun hne=>absurd HF.out hne,fun _=>⟨g,rfl,HP.out⟩,HB1.out⟩
 ·obtain rfl:=h1 hf
  have HF:=hol hf
  obtain ⟨E,hE⟩:∃ E,faultN q n n Bs=E:=⟨_,rfl⟩
  have HE:=hol hE
  simp only [hE]
  clear h1 h2 hf hb1 c0 HW hE
  go_wp2
  go_ret2
  exact ⟨fun _=>by rw [HE.out]; rfl,fun h0=>absurd h0 HF.out,HB1.out⟩
theorem g_lims (i:Nat) (hi:i < 3):gP i < B32 3 /\ gQ i < B32 3 /\ gG i < B32 3:=by
 have h:=g_bounds i hi
 have h1:gP i < B32 3:=Nat.lt_of_lt_of_le h.2.2.2.2.2 (by decide)
 have h2:=gTimes_eq i hi
 refine ⟨h1,?_,by omega⟩
 rcases Nat.eq_zero_or_pos (gTimes i) with h0 | h0
 ·rw [h0,Nat.mul_zero] at h2; omega
 ·have:=Nat.le_mul_of_pos_right (gQ i) h0
  omega
theorem gChain_len:∀ i,i < 3 -> (gChain i).length <= 60
 | 0,_=>by decide
 | 1,_=>by decide
 | 2,_=>by decide
 | _ + 3,h=>by omega
theorem u64_lt2 {x:Nat} (h:U64 x):x < B32 2:=by
 unfold U64 at h
 exact Nat.lt_of_lt_of_le h (by decide)
theorem nums_calls (w:World) (p:Option Addr) (n c:Nat) (xs:List Nat) (h:RowIn w .u64 p n c xs) (h64:∀ x ∈ xs,U64 x) (hn:n <= 1000) :
  Calls Tryz.prog 17 #[.slice p n c] w fun e w'=>∃ q d,e=.returned (.slice q n d) /\ PList w' 2 q n d xs /\ Below w.heap.size w w':=by
 have HX:=hol h
 have H6:=hol h64
 have HLn:=hol h.len
 clear h h64
 go_enter Tryz.func17,Tryz.ntmps17
 go_wp2
 go_loopw [3,5,8] (fun vv _ iv wr=>∃ (k:Nat) (bad:Nat -> Prop),k <= n /\ iv=.int .i64 k /\ Hold (Below w.heap.size w wr) /\ Hold (∀ g,bad g -> g < wr.heap.size) /\ Hold (OwnV NatAt 36 w.heap.size bad wr vv (xs.take k)) /\ Hold (∀ g,vv.ownBlock=some g -> bad g)) (fun _ _ iv _=>n - (intOf iv).toNat)
 case atStart=>exact ⟨0,fun _=>False,by omega,rfl,⟨Below.refl _ _⟩,⟨fun _ h=>h.elim⟩,⟨OwnV.nil⟩,⟨fun g h=>by cases h⟩⟩
 case round =>
  obtain ⟨k,bad,hk,rfl,HB,HLT,HO,HV⟩:=hrel
  by_cases hkn:k < n
  ·obtain ⟨S,hSk⟩:∃ s,xs[k]? = some s:=⟨xs[k]'(by rw [<- HLn.out]; exact hkn),List.getElem?_eq_getElem _⟩
   obtain ⟨bb,off,rfl,hb,hc⟩:=(HX.out.row (by omega)).pos (by omega)
   have hx:wr.cell? ⟨bb,off + k,none⟩=some (.int .u64 (S:Nat)):=(HB.out.cell (p:=⟨bb,off + k,none⟩) hb).trans (hc k S hSk)
   have HTk:Hold (xs.take (k + 1)=xs.take k ++ [S]):=⟨snoc_take hSk⟩
   have HTl:Hold ((xs.take k).length <= 1000000):=⟨by rw [List.length_take]; omega⟩
   have HSU:Hold (S < 18446744073709551616):=⟨H6.out S (List.mem_of_getElem? hSk)⟩
   have hkn':(k:Int) < n:=by omega
   clear hc hSk hb
   go_wp2_with fail
   refine (new_calls S wr HSU.out).mono ?_
   rintro en w3 ⟨q,m,d,rfl,hn3,b3,hnew⟩
   have hb4:Below w3.heap.size w3 (w3.alloc (.cells #[.slice q m d] 36)):=bal
   have hx4:(w3.alloc (.cells #[.slice q m d] 36)).cell? ⟨w3.heap.size,0,none⟩=some (.slice q m d):=(NatBox.made w3 (.slice q m d)).cell
   obtain ⟨w4,hw4⟩:∃ w4,w3.alloc (.cells #[.slice q m d] 36)=w4:=⟨_,rfl⟩
   rw [hw4] at hb4 hx4
   have hb34:=bstep b3 hb4
   have hB4:=bstep HB.out hb34
   have hfirm:Firm (fun w=>NatAt w q m d S) bad w4:=natStands.fresh (hn3.below hb4) hnew HLT.out
   obtain ⟨i1,hi1,hz1,hs1,hbb1⟩:=info_parts Tryz.info_Nat
   refine (HO.out.below hb34).app2 (x:=(q,m,d)) Tryz.underlying32 hi1 hz1 hs1 hbb1 rfl (by decide) hB4.size hx4 hfirm HV.out (fun g hg=>Nat.lt_of_lt_of_le (HLT.out g hg) hb34.size) HTl.out 32 (c:=1) ?_
   intro v9 w9 bad9 happ ho9 hg9 m1 m2 m3 m4
   have HO9:=hol ho9
   have HB9:Hold (Below w.heap.size w w9):=⟨hB4.grown hg9 hB4.size fun g hg=>(HO.out.block g hg).1⟩
   have HLT9:=hol m4
   have HV9:=hol m3
   clear hb4 hx4 hb34 hB4 hfirm hi1 hz1 hs1 hbb1 ho9 hg9 m1 m2 m3 m4 b3 hn3 hnew
   go_wp2_with (at_builtin; refine Lib.wpList_append_run _ rfl _ _ _ _ rfl _ _ rfl rfl _ _ happ ?_; refine Paused.out ?_)
   refine ⟨?_⟩
   clear happ
   go_wp2
   go_roundw
   case rel=>exact ⟨k + 1,bad9,by omega,by go_num,HB9,HLT9,⟨by rw [HTk.out]; exact HO9.out⟩,HV9⟩
   case measure=>simp [intOf]; omega
  ·obtain rfl:k=n:=by omega
   have hkn':¬ (k:Int) < k:=by omega
   have htk:xs.take k=xs:=List.take_of_length_le (by rw [<- HLn.out]; exact Nat.le_refl _)
   rw [htk] at HO
   obtain ⟨q,d,rfl,hp⟩:=HO.out.plist (e:=2) (fun N hN=>u64_lt2 (H6.out N hN))
   have HP:Hold (PList wr 2 q k d xs):=⟨by have e:=HLn.out; rw [<- e] at hp; exact hp⟩
   have e9:xs.length=k:=HLn.out.symm
   rw [e9]
   clear htk hp e9
   go_wp2
   go_ret
   exact ⟨q,d,rfl,HP.out,HB.out⟩
theorem gQ_prime (i:Nat) (hi:i < 3):Prime (gQ i):=by
 rcases gQ_told i hi with h | ⟨h1,s,hs,h2⟩
 ·exact h.prime
 ·rw [<- h2]
  exact chain_prime _ [] (fun x hx=>by cases hx) h1 s hs
theorem idx_lt (A:Int):((IntKind.u64.wrap A) % 3).toNat < 3:=by
 have h1:=Int.emod_nonneg (IntKind.u64.wrap A) (show (3:Int) ≠ 0 by decide)
 have h2:=Int.emod_lt_of_pos (IntKind.u64.wrap A) (show (0:Int) < 3 by decide)
 omega
theorem gnew_law {w:World} {i:Nat} {x y z:Option Addr × Nat × Nat} {pc:Option Addr} {nc cc:Nat} (hi:i < 3) (hr:Tabs w) (hx:At3 w x (gP i)) (hy:At3 w y (gQ i)) (hz:At3 w z (gG i)) (hc:PSteps w 3 pc nc cc (gChain i)) :
  Calls Tryz.prog 59 #[.agg #[.slice x.1 x.2.1 x.2.2,.slice y.1 y.2.1 y.2.2,.slice z.1 z.2.1 z.2.2,.slice none 0 0],.slice pc nc cc] w fun e w' =>
   ∃ b,e=.returned (.tuple #[.pointer (some ⟨b,0,none⟩),.int .i64 0]) /\ GroupAt w' b (gP i) (gQ i) (gG i) (gH i) /\ Below w.heap.size w w':=by
 obtain ⟨l1,l2,l3⟩:=g_lims i hi
 refine (gnew_fit (e:=3) (seed:=[]) hr hx l1 hy l2 hz l3 (part_nil w) hc (by rw [hc.len]; exact gChain_len i hi) (gChain_few i hi) (by decide)).mono ?_
 rintro en w' ⟨_,h0,_,hbl⟩
 rw [newSpec_g i hi] at h0
 obtain ⟨b,rfl,hg⟩:=h0 (by decide) rfl
 exact ⟨b,rfl,hg,hbl⟩
theorem group10_calls (w:World) (A:Int) (hr:Tabs w) :
  Calls Tryz.prog 15 #[.int .i64 A,.slice none 0 0] w fun e w'=>∃ b,e=.returned (.pointer (some ⟨b,0,none⟩)) /\ GroupAt w' b (gP ((IntKind.u64.wrap A) % 3).toNat) (gQ ((IntKind.u64.wrap A) % 3).toNat) (gG ((IntKind.u64.wrap A) % 3).toNat) (gH ((IntKind.u64.wrap A) % 3).toNat) /\ Below w.heap.size w w':=by
 have HR:=hol hr
 have hi:=idx_lt A
 obtain ⟨i,ei⟩:∃ i,((IntKind.u64.wrap A) % 3).toNat=i:=⟨_,rfl⟩
 have HN:=hol (numbers_calls w A none 0 0)
 rw [ei] at hi HN ⊢
 have HI:=hol hi
 clear hr hi ei
 go_enter Tryz.func15,Tryz.ntmps15
 go_wp2_with fail
 refine HN.out.mono ?_
 rintro en w1 ⟨x,y,z,pc,nc,cc,rfl,h1,h2,h3,h4,b1⟩
 have HH:=hol (gnew_law HI.out (HR.out.below b1 HR.out.size) h1 h2 h3 h4)
 have B1:=hol b1
 clear h1 h2 h3 h4 b1 HN
 go_wp2_with fail
 refine HH.out.mono ?_
 rintro en w2 ⟨b,rfl,hg,b2⟩
 have HG:=hol hg
 have B2:=hol (bstep B1.out b2)
 clear hg b2 HH B1
 go_wp2
 go_ret
 exact ⟨b,rfl,HG.out,B2.out⟩
theorem field_calls (w:World) (A:Int) (hr:Tabs w) :
  Calls Tryz.prog 30 #[.int .i64 A] w fun e w'=>∃ r,e=.returned (.pointer (some ⟨r,0,none⟩)) /\ Ring w' r (gQ ((IntKind.u64.wrap A) % 3).toNat) 33 /\ Below w.heap.size w w':=by
 have HG:=hol (group10_calls w A hr)
 clear hr
 go_enter Tryz.func30,Tryz.ntmps30
 go_wp2_with fail
 refine HG.out.mono ?_
 rintro en w1 ⟨b,rfl,hg,hb⟩
 have HGA:=hol hg
 have HB:=hol hb
 clear hg hb HG
 go_wp2_with fail
 refine (gfield_fit HGA.out).mono ?_
 rintro en w2 ⟨r,rfl,hr,hb2⟩
 have HR:=hol hr
 have HB2:=hol (bstep HB.out hb2)
 clear hr hb2
 go_wp2
 go_ret
 exact ⟨r,rfl,HR.out,HB2.out⟩
end Go.Proofs.YtdebccghjbfgdaaGreatDoor
