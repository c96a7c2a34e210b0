/- One place's weight (curve.weightOf): all differences multiplied, and divided at once. -/
import Derived.Test.YtdebccghjbfgdaaGreatDoorCuE
set_option maxRecDepth 1000000
set_option maxHeartbeats 16000000
set_option linter.unusedSimpArgs false
set_option linter.unusedVariables false
namespace Go.Proofs.YtdebccghjbfgdaaGreatDoor
open Go Go.RowKit Go.Proofs.YtdebccghjbfgdaaGreatDoor.Flow
theorem ceach_fit {w:World} {e r q n c:Nat} {p:Option Addr} {Bs:List Nat} (hR:Ring w r q 33) (h:PList w e p n c Bs) (he:e <= 200) (hn:n <= 1000) :
  Calls Tryz.prog 69 #[.slice p n c,.func (.func 36) #[.pointer (some ⟨r,0,none⟩)] #[]] w fun en w'=>en=.returned (.slice (some ⟨w.heap.size,0,none⟩) n n) /\ PList w' 33 (some ⟨w.heap.size,0,none⟩) n n (Bs.map fun x=>x % q) /\ Below w.heap.size w w':=by
 have HLN:=hol h.len
 have HP:=hol h
 have HR:=hol hR
 have hmk:=fun w=>make_row n (by omega) w
 obtain ⟨w0,hw0⟩:∃ w0,w.alloc (.cells (madeCells #[.slice none 0 0] n) 36)=w0:=⟨_,rfl⟩
 have hb0:Below w.heap.size w w0:=by rw [<- hw0]; exact (Below.refl _ _).alloc (Nat.le_refl _) _
 have HS0:Hold (SRow w0 w.heap.size (List.replicate n (none,0,0))):=⟨by rw [<- hw0]; exact SRow.made w n⟩
 have HB0:=hol hb0
 clear hR h hb0
 go_enter Tryz.func69,Tryz.ntmps69
 go_wp2
 go_loopw [6,7,13] (fun _ _ iv wr=>∃ (k:Nat) (us:List (Option Addr × Nat × Nat)),k <= n /\ iv=.int .i64 k /\ us.length=n /\ Hold (SRow wr w.heap.size us) /\ Hold (Vals wr 33 us (Bs.map fun x=>x % q) k) /\ Hold (Below w.heap.size w wr)) (fun _ _ iv _=>n - (intOf iv).toNat)
 case atStart=>exact ⟨0,List.replicate n (none,0,0),by omega,rfl,by simp,HS0,⟨fun j N hj=>by omega⟩,HB0⟩
 case round =>
  obtain ⟨k,us,hk,rfl,hus,HSr,HVr,HBr⟩:=hrel
  by_cases hkn:k < n
  ·obtain ⟨X,hXk⟩:∃ X,Bs[k]? = some X:=⟨Bs[k]'(by rw [<- HLN.out]; exact hkn),List.getElem?_eq_getElem _⟩
   obtain ⟨b2,off,rfl,hb,hc⟩:=(HP.out.below HBr.out).at_ (by omega)
   obtain ⟨q1,m,d,hx,hnx,hlim⟩:=hc k X hXk
   have hUK:us[k]? = some (us[k]'(by omega)):=List.getElem?_eq_getElem _
   have hbw:Below wr.heap.size wr (wr.alloc (.cells #[.slice q1 m d] 36)):=bal
   have hbx:=NatBox.made wr (.slice q1 m d)
   obtain ⟨wb,hwb⟩:∃ wb,wr.alloc (.cells #[.slice q1 m d] 36)=wb:=⟨_,rfl⟩
   rw [hwb] at hbw hbx
   have cb:=hbx.cell
   have HXb:=hol ((Fit.of hnx hlim).below hbw)
   have HBb:=hol (bstep HBr.out hbw)
   have HRb:=hol (HR.out.below HBb.out)
   have HSb:=hol (HSr.out.below hbw HSr.out.lt)
   have HVb:=hol (HVr.out.keep (B:=w.heap.size) (Keep.of hbw HBr.out.size))
   have HNk:Hold ((Bs.map fun x=>x % q)[k]? = some (X % q)):=⟨by rw [List.getElem?_map,hXk]; rfl⟩
   have HPl:Hold (X % q < B32 33):=⟨Nat.lt_trans (Nat.mod_lt _ (by have:=HR.out.two; omega)) HR.out.lim⟩
   have HUK:=hol hUK
   have hkn':(k:Int) < n:=by omega
   have hnk:¬ n <= k:=by omega
   clear hc hnx hlim hXk hbw hbx hb hmk hUK
   go_wp2_with fail
   refine (rof_fit HRb.out HXb.out (by omega)).mono ?_
   rintro en w1 ⟨_,rfl,⟨pz,nz,cz,rfl,hn1,_⟩,hb1⟩
   have hs1:=HSb.out.below hb1 HSb.out.lt
   have c1:=hs1.cell HUK.out
   have f1:=hs1.free k
   have HS8:=hol (hs1.set k pz nz cz)
   have HV8:=hol (((HVb.out.keep (Keep.of (B:=w.heap.size) hb1 HBb.out.size)).keep (Keep.store_row hs1 (Nat.le_refl _) k (.slice pz nz cz))).step (by omega) HNk.out (hs1.nat hn1 k _) HPl.out)
   have HB8:Hold (Below w.heap.size w (w1.setCell ⟨w.heap.size,k,none⟩ (.slice pz nz cz))):=⟨(bstep HBb.out hb1).setCell (Nat.le_refl _) _⟩
   have HLEN:Hold ((us.set k (pz,nz,cz)).length=n):=⟨by rw [List.length_set]; exact hus⟩
   clear hn1 hb1 hs1 cb
   go_wp2
   go_roundw
   case rel=>exact ⟨k + 1,us.set k (pz,nz,cz),by omega,by go_num,HLEN.out,HS8,HV8,HB8⟩
   case measure=>simp [intOf]; omega
  ·obtain rfl:k=n:=by omega
   have hkn':¬ (k:Int) < k:=by omega
   have HPL:=hol (HVr.out.plist HSr.out (by rw [List.length_map]; exact HLN.out.symm) (by omega))
   clear hmk
   go_wp2
   go_ret
   exact ⟨rfl,HPL.out,HBr.out⟩
def faultN (q n values:Nat) (Ns:List Nat):Nat:=if n=0 then 10 else if n ≠ values then 1 else if (Ns.map fun x=>x % q).Nodup then 0 else 11
theorem fault_fit {w:World} {e r q n c V:Nat} {p:Option Addr} {Ns:List Nat} (hR:Ring w r q 33) (h:PList w e p n c Ns) (he:e <= 200) (hn:n <= 12) (hV:V <= 1000000) :
  Calls Tryz.prog 68 #[.pointer (some ⟨r,0,none⟩),.slice p n c,.int .i64 V] w fun en w'=>en=.returned (.int .i64 (faultN q n V Ns:Nat)) /\ Below w.heap.size w w':=by
 have HR:=hol hR
 have HP:=hol h
 clear hR h
 unfold faultN
 by_cases h0:n=0
 ·subst h0
  rw [if_pos rfl]
  go_enter Tryz.func68,Tryz.ntmps68
  go_wp2
  go_ret
  exact ⟨rfl,Below.refl _ _⟩
 rw [if_neg h0]
 have h0':((n:Int) == 0)=false:=by rw [beq_eq_false_iff_ne]; omega
 by_cases h1:n=V
 ·subst h1
  have h1':((n:Int) != n)=false:=by simp
  have h2:¬ (n ≠ n):=fun h=>h rfl
  rw [if_neg h2]
  have HH:Hold (1 <= n):=⟨by omega⟩
  clear h0 h2 hV
  obtain ⟨D,hD⟩:∃ D,decide (Ns.map fun x=>x % q).Nodup=D:=⟨_,rfl⟩
  have HD:=hol hD
  have HE:Hold ((if (Ns.map fun x=>x % q).Nodup then 0 else 11)=if D then 0 else 11):=⟨by
   rw [<- hD]
   by_cases hd:(Ns.map fun x=>x % q).Nodup
   ·rw [if_pos hd,decide_eq_true hd]; rfl
   ·rw [if_neg hd,decide_eq_false hd]; rfl⟩
  rw [HE.out]
  clear hD HE
  go_enter Tryz.func68,Tryz.ntmps68
  go_wp2_with fail
  refine (ceach_fit HR.out HP.out he (by omega)).mono ?_
  rintro en w1 ⟨rfl,hp1,hb1⟩
  have HP1:=hol hp1
  have HB1:=hol hb1
  clear hp1 hb1
  go_wp2_with fail
  refine (twice_fit HP1.out HH.out hn (by omega)).mono ?_
  rintro en w2 ⟨rfl,hb2⟩
  have HB2:=hol (bstep HB1.out hb2)
  rw [HD.out]
  clear hb2 HD
  cases D with
  | true =>
   go_wp2
   go_ret
   exact ⟨rfl,HB2.out⟩
  | false =>
   go_wp2
   go_ret
   exact ⟨rfl,HB2.out⟩
 ·rw [if_pos h1]
  have h1':((n:Int) != V)=true:=by rw [bne_iff_ne]; omega
  clear h1
  go_enter Tryz.func68,Tryz.ntmps68
  go_wp2
  go_ret
  exact ⟨rfl,Below.refl _ _⟩
def GivesQuo (q A B:Nat) (w:World) (en:Ending) (w':World):Prop :=
 ∃ (x:Value) (I:Nat),en=.returned (.tuple #[x,.int .i64 (if Nat.gcd q B=1 then 0 else 6)]) /\ IsInv q B I /\ Fit 33 (A * I % q) x w' /\ Below w.heap.size w w'
theorem quo_fit {w:World} {r q e1 e2 A B:Nat} {u v:Value} (hR:Ring w r q 33) (hu:Fit e1 A u w) (hv:Fit e2 B v w) (h1:e1 <= 200) (h2:e2 <= 200) :
  Calls Tryz.prog 70 #[.pointer (some ⟨r,0,none⟩),u,v] w (GivesQuo q A B w):=by
 obtain ⟨pa,na,ca,rfl,a1,a2⟩:=fit_cases hu
 obtain ⟨pb,nb,cb,rfl,b1,b2⟩:=fit_cases hv
 have hbx:=NB3.mk3 w (.slice pa na ca) (.slice pb nb cb) (.slice none 0 0)
 have HR:=hol (hR.below hbx.bel)
 have HA:=hol ((Fit.of a1 a2).below hbx.bel)
 have HB:=hol ((Fit.of b1 b2).below hbx.bel)
 have HX:=hol hbx
 have c1:=hbx.b1.cell
 clear hR hu hv a1 b1 hbx
 go_enter Tryz.func70,Tryz.ntmps70
 go_wp2_with fail
 refine (inv_fit HR.out HB.out (by omega)).mono ?_
 rintro en w1 ⟨x,I,rfl,⟨pi,ni,ci,rfl,i1,i2⟩,hI,hb1⟩
 have hb2:Below w1.heap.size w1 (w1.alloc (.cells #[.slice pi ni ci] 36)):=bal
 have hbi:=NatBox.made w1 (.slice pi ni ci)
 obtain ⟨w2,hw2⟩:∃ w2,w1.alloc (.cells #[.slice pi ni ci] 36)=w2:=⟨_,rfl⟩
 rw [hw2] at hb2 hbi
 have hb12:=bstep hb1 hb2
 have HX2:=hol (HX.out.later hb12)
 have HI2:=hol (Fit.of (i1.below hb2) i2)
 have HA2:=hol (HA.out.below hb12)
 have HR2:=hol (HR.out.below hb12)
 have HIN:=hol hI
 have cc:=hbi.cell
 have ca':=HX2.out.b0.cell
 obtain ⟨E,hE⟩:∃ E:Int,(if Nat.gcd q B=1 then 0 else 6)=E:=⟨_,rfl⟩
 have HE:=hol hE
 simp only [hE]
 clear hb2 hbi hb12 i1 hI hb1 hE c1 HX HA HB HR
 go_wp2_with fail
 refine (rngmul_fit HR2.out HA2.out HI2.out (by omega) (by omega)).mono ?_
 rintro en w3 ⟨_,rfl,⟨pm,nm,cm,rfl,m1,m2⟩,hb3⟩
 have hx3:=HX2.out.later hb3
 have k2:=hx3.b2.cell
 have f2:=hx3.b2.free
 have z2:=hx3.b2.lt
 have HF:=hol (Fit.of (m1.store hx3.b2 (.slice pm nm cm)) m2)
 have HBF:Hold (Below w.heap.size w (w3.setCell ⟨w.heap.size + 1 + 1,0,none⟩ (.slice pm nm cm))):=⟨hx3.bel.setCell (by simp; omega) _⟩
 clear m1 hx3 hb3 cc ca'
 go_wp2
 exact bodyPost_ret (v:=.tuple #[.agg #[.slice pm nm cm],.int .i64 E]) (by simp [results,Tryz.results70,go_sem,k2]) rfl ⟨_,I,by rw [HE.out],HIN.out,HF.out,HBF.out⟩
theorem ProdBox.below {w w':World} {b N:Nat} (h:ProdBox w b N) (hb:Below w.heap.size w w'):ProdBox w' b N :=
 let ⟨p,n,c,h1,h2⟩:=h
 ⟨p,n,c,h1.below hb h1.lt,h2.below hb⟩
structure WtSt (w:World) (b10 b11:Nat) (u:Value) (A B:Nat) (wr:World):Prop where
 b7:NatBox wr w.heap.size u
 b8:NatBox wr (w.heap.size + 1) (.slice none 0 0)
 a:ProdBox wr b10 A
 b:ProdBox wr b11 B
 bel:Below w.heap.size w wr
theorem WtSt.later {w wr wz:World} {b10 b11 A B:Nat} {u:Value} (h:WtSt w b10 b11 u A B wr) (hb:Below wr.heap.size wr wz):WtSt w b10 b11 u A B wz :=
 ⟨h.b7.below hb h.b7.lt,h.b8.below hb h.b8.lt,h.a.below hb,h.b.below hb,bstep h.bel hb⟩
theorem weight_fit {w:World} {r q e n c i X XI:Nat} {p:Option Addr} {Bs:List Nat} {v:Value} (hq:Prime q) (hR:Ring w r q 33) (h:PList w e p n c Bs) (hX:Fit e X v w) (he:e <= 200) (hn:n <= 1000) (hi:Bs[i]? = some XI) :
  Calls Tryz.prog 113 #[.pointer (some ⟨r,0,none⟩),.slice p n c,.int .i64 i,v] w (GivesQuo q (diffs q X 1 (Bs.take i ++ Bs.drop (i + 1))) (diffs q XI 1 (Bs.take i ++ Bs.drop (i + 1))) w):=by
 have HLN:=hol h.len
 obtain ⟨px,nx,cx,rfl,x1,x2⟩:=fit_cases hX
 obtain ⟨x,hx⟩:∃ x:Option Addr × Nat × Nat,(px,nx,cx)=x:=⟨_,rfl⟩
 obtain rfl:px=x.1:=by rw [<- hx]
 obtain rfl:nx=x.2.1:=by rw [<- hx]
 obtain rfl:cx=x.2.2:=by rw [<- hx]
 clear hx
 have HF0:=hol (Fit.of x1 x2)
 have HP:=hol h
 have HR:=hol hR
 have hin:i < n:=by rw [HLN.out]; exact (List.getElem?_eq_some_iff.1 hi).1
 have HIN:=hol hin
 obtain ⟨bx,off,rfl,hbx,hcx⟩:=h.at_ (by omega)
 obtain ⟨qi,mi,di,hci,hni,hli⟩:=hcx i XI hi
 obtain ⟨xi,hxi⟩:∃ x:Option Addr × Nat × Nat,(qi,mi,di)=x:=⟨_,rfl⟩
 obtain rfl:qi=xi.1:=by rw [<- hxi]
 obtain rfl:mi=xi.2.1:=by rw [<- hxi]
 obtain rfl:di=xi.2.2:=by rw [<- hxi]
 clear hxi
 have HBX:=hol hbx
 have HCX:=hol hcx
 have HCI0:=hol hci
 have HFI0:=hol (Fit.of hni hli)
 have HRL:=hol hR.at_.lt
 have HQ2:=hol hq.two
 have hb2:=NB2.mk2 w (.slice x.1 x.2.1 x.2.2) (.slice none 0 0)
 obtain ⟨w1,hw1⟩:∃ w1,(w.alloc (.cells #[.slice x.1 x.2.1 x.2.2] 36)).alloc (.cells #[.slice none 0 0] 36)=w1:=⟨_,rfl⟩
 rw [hw1] at hb2
 have HB2:=hol hb2
 clear h hX hR x1 hni hci hcx hbx hb2 hi
 go_enter Tryz.func113,Tryz.ntmps113
 go_wp2_with fail
 refine (one_fit w1).mono ?_
 rintro en w2 ⟨_,rfl,⟨p1,n1,c1,rfl,hn1,_⟩,hw2⟩
 have HN1:=hol hn1
 have HW2:=hol hw2
 clear hn1 hw2
 go_wp2_with fail
 refine (one_fit w2).mono ?_
 rintro en w3 ⟨_,rfl,⟨p2,n2,c2,rfl,hn2,_⟩,hw3⟩
 obtain ⟨b10,hb10⟩:∃ b,w3.heap.size=b:=⟨_,rfl⟩
 obtain ⟨b11,hb11⟩:∃ b,b10 + 1=b:=⟨_,rfl⟩
 have hz4:(w3.alloc (.cells #[.slice p1 n1 c1] 36)).heap.size=b10 + 1:=by rw [<- hb10]; simp
 have hm:=NB2.mk2 w3 (.slice p1 n1 c1) (.slice p2 n2 c2)
 obtain ⟨w4,hw4⟩:∃ w4,(w3.alloc (.cells #[.slice p1 n1 c1] 36)).alloc (.cells #[.slice p2 n2 c2] 36)=w4:=⟨_,rfl⟩
 rw [hw4] at hm
 have hmb0:=hm.b0
 have hmb1:=hm.b1
 rw [hb10] at hmb0 hmb1
 have hb34:=hm.bel
 have hX4:=HB2.out.later (bstep (bstep HW2.out hw3) hb34)
 have HST:Hold (WtSt w b10 b11 (.slice x.1 x.2.1 x.2.2) (diffs q X 1 (others Bs i 0)) (diffs q XI 1 (others Bs i 0)) w4):=⟨⟨hX4.b0,hX4.b1,⟨p1,n1,c1,hmb0,by rw [others_zero]; exact (HN1.out.below (bstep hw3 hb34))⟩,⟨p2,n2,c2,by rw [<- hb11]; exact hmb1,by rw [others_zero]; exact hn2.below hb34⟩,hX4.bel⟩⟩
 have HLO:Hold (w.heap.size + 1 < b10 /\ b11=b10 + 1):=⟨by
  rw [<- hb10]
  exact Nat.lt_of_lt_of_le HB2.out.b1.lt (Nat.le_trans HW2.out.size hw3.size),hb11.symm⟩
 clear hm hmb0 hmb1 hb34 hX4 hn2 hw3 HN1 HW2 HB2 hw1
 have HB11:=hol hb11
 clear hb11
 go_wp2
 rw [HB11.out]
 clear hz4 hw4 hb10 HB11
 go_loopw [12,13,18] (fun _ _ iv wr=>∃ k:Nat,k <= n /\ iv=.int .i64 k /\ Hold (WtSt w b10 b11 (.slice x.1 x.2.1 x.2.2) (diffs q X 1 (others Bs i k)) (diffs q XI 1 (others Bs i k)) wr)) (fun _ _ iv _=>n - (intOf iv).toNat)
 case atStart=>exact ⟨0,by omega,rfl,HST⟩
 case round =>
  obtain ⟨k,hk,rfl,HS⟩:=hrel
  by_cases hkn:k < n
  ·obtain ⟨O,hOk⟩:∃ O,Bs[k]? = some O:=⟨Bs[k]'(by rw [<- HLN.out]; exact hkn),List.getElem?_eq_getElem _⟩
   obtain ⟨qo,mo,do9,ho1,ho2,ho3⟩:=HCX.out k O hOk
   obtain ⟨o,ho⟩:∃ x:Option Addr × Nat × Nat,(qo,mo,do9)=x:=⟨_,rfl⟩
   obtain rfl:qo=o.1:=by rw [<- ho]
   obtain rfl:mo=o.2.1:=by rw [<- ho]
   obtain rfl:do9=o.2.2:=by rw [<- ho]
   clear ho
   have hcell:wr.cell? ⟨bx,off + k,none⟩=some (.slice o.1 o.2.1 o.2.2):=(HS.out.bel.cell (p:=⟨bx,off + k,none⟩) HBX.out).trans ho1
   have hbw:Below wr.heap.size wr (wr.alloc (.cells #[.slice o.1 o.2.1 o.2.2] 36)):=bal
   have hbo:=NatBox.made wr (.slice o.1 o.2.1 o.2.2)
   obtain ⟨wb,hwb⟩:∃ wb,wr.alloc (.cells #[.slice o.1 o.2.1 o.2.2] 36)=wb:=⟨_,rfl⟩
   rw [hwb] at hbw hbo
   have HSb:=hol (HS.out.later hbw)
   have HBO:=hol hbo
   have hkn':(k:Int) < n:=by omega
   by_cases hki:k=i
   ·subst hki
    have hne:((k:Int) != k)=false:=by simp
    have HSN:Hold (WtSt w b10 b11 (.slice x.1 x.2.1 x.2.2) (diffs q X 1 (others Bs k (k + 1))) (diffs q XI 1 (others Bs k (k + 1))) wb):=⟨by rw [others_same]; exact HSb.out⟩
    clear ho1 ho2 hbw hbo
    go_wp2
    go_roundw
    case rel=>exact ⟨k + 1,by omega,by go_num,HSN⟩
    case measure=>simp [intOf]; omega
   ·have hne:((k:Int) != i)=true:=by rw [bne_iff_ne]; omega
    have HSNO:Hold (others Bs i (k + 1)=others Bs i k ++ [O]):=⟨others_snoc hOk hki⟩
    obtain ⟨pa,na,ca,hab,han⟩:=HSb.out.a
    obtain ⟨pb,nb,cb,hbb,hbn⟩:=HSb.out.b
    obtain ⟨AA,hAA⟩:∃ A,diffs q X 1 (others Bs i k)=A:=⟨_,rfl⟩
    obtain ⟨BB,hBB⟩:∃ A,diffs q XI 1 (others Bs i k)=A:=⟨_,rfl⟩
    rw [hAA] at han
    rw [hBB] at hbn
    obtain ⟨ZA,hZA⟩:∃ Z,AA * subM X O q % q=Z:=⟨_,rfl⟩
    obtain ⟨ZB,hZB⟩:∃ Z,BB * subM XI O q % q=Z:=⟨_,rfl⟩
    have HZA:=hol hZA
    have HZB:=hol hZB
    have hq2:=HQ2.out
    have HEA:Hold (diffs q X 1 (others Bs i (k + 1))=ZA):=⟨by rw [HSNO.out,diffs_snoc,hAA,hZA]⟩
    have HEB:Hold (diffs q XI 1 (others Bs i (k + 1))=ZB):=⟨by rw [HSNO.out,diffs_snoc,hBB,hZB]⟩
    have hlq:q < B32 33:=HR.out.lim
    have hlA:AA < B32 33:=by rw [<- hAA]; exact Nat.lt_trans (diffs_lt hq2 _ _ (by omega)) hlq
    have hlB:BB < B32 33:=by rw [<- hBB]; exact Nat.lt_trans (diffs_lt hq2 _ _ (by omega)) hlq
    have HFA:=hol (Fit.of han hlA)
    have HFB0:=hol (Fit.of hbn hlB)
    have HRo:=hol (HR.out.below HSb.out.bel)
    have HFX:=hol (HF0.out.below HSb.out.bel)
    have HFO:=hol ((Fit.of ho2 ho3).below HSb.out.bel)
    have HAB:=hol hab
    have HBBx:=hol hbb
    have HWB:Hold (b11 < wr.heap.size):=⟨by obtain ⟨_,_,_,h1,_⟩:=HS.out.b; exact h1.lt⟩
    have HNE6:Hold (∀ y ∈ ([(w.heap.size,.cells #[.slice x.1 x.2.1 x.2.2] 36 (0,0)),(wr.heap.size,.cells #[.slice o.1 o.2.1 o.2.2] 36 (0,0)),(b11,.cells #[.slice pb nb cb] 36 (0,0)),(w.heap.size + 1,.cells #[.slice none 0 0] 36 (0,0))]:List (Nat × Obj)),y.1 ≠ b10):=⟨by
     have h1:=HLO.out; have h2:=HWB.out
     intro y hy
     simp only [List.mem_cons,List.not_mem_nil,or_false] at hy
     rcases hy with rfl | rfl | rfl | rfl <;> simp only <;> omega⟩
    have HL6:Hold (∀ y ∈ ([(w.heap.size,.cells #[.slice x.1 x.2.1 x.2.2] 36 (0,0)),(wr.heap.size,.cells #[.slice o.1 o.2.1 o.2.2] 36 (0,0)),(b11,.cells #[.slice pb nb cb] 36 (0,0)),(w.heap.size + 1,.cells #[.slice none 0 0] 36 (0,0))]:List (Nat × Obj)),wb.heap[y.1]? = some y.2):=⟨by
     intro y hy
     simp only [List.mem_cons,List.not_mem_nil,or_false] at hy
     rcases hy with rfl | rfl | rfl | rfl
     ·exact HSb.out.b7
     ·exact HBO.out
     ·exact HBBx.out
     ·exact HSb.out.b8⟩
    have HLE:Hold (w.heap.size <= b10):=⟨by have:=HLO.out; omega⟩
    have HLEb:Hold (w.heap.size <= b11):=⟨by have:=HLO.out; omega⟩
    clear ho1 ho2 hbw hbo hab han hbb hbn hAA hBB hZA hZB hlA hlB hlq hq2 hOk hki
    go_wp2
    refine wp_region_dutiesS (by kernel_rfl) (by kernel_rfl)
     [some (.pointer (some ⟨r,0,none⟩)),some (.agg #[.slice pa na ca]),some (.pointer (some ⟨r,0,none⟩)),some (.agg #[.slice x.1 x.2.1 x.2.2]),some (.agg #[.slice o.1 o.2.1 o.2.2]),none,none,none]
     [false,false,false,false,false,true,true,true] rfl
     (fun wA wB=>Keep (w.heap.size) wA wB)
     (fun D sp w'=>RG (w.heap.size) wb [(w.heap.size,.cells #[.slice x.1 x.2.1 x.2.2] 36 (0,0)),(wr.heap.size,.cells #[.slice o.1 o.2.1 o.2.2] 36 (0,0)),(b11,.cells #[.slice pb nb cb] 36 (0,0)),(w.heap.size + 1,.cells #[.slice none 0 0] 36 (0,0))] w' /\ StV (D 7) (b10) pa na ca (ZA) w')
     (fun i v w'=>match i with
      | 5=>Fit 33 (subM X O q) v w'
      | 6=>Fit 33 ZA v w'
      | _=>True)
     ?_ ⟨RG.start HSb.out.bel.size HL6.out,⟨fun _=>HAB.out,fun e=>by cases e⟩⟩ ?_ ?_
    ·intro i v wA wB hf hb
     split at hf
     ·exact hf.keep hb
     ·exact hf.keep hb
     ·trivial
    ·simp only [DutiesS,Nat.reduceAdd]
     refine ⟨?_,?_,?_,?_,?_,?_,?_,?_,trivial⟩
     all_goals intro D sp w' hD hW hdp hg
     case refine_2 =>
      have c0:=(hg.2.z (hW 7 (mq (by kernel_rfl)))).cell
      with_reducible refine asked_pl ?_ ?_
      all_goals simp [Region.wanted,yielded,execOp,Act.eval,Act.put,go_sem,c0]
     case refine_4 =>
      have c0:w'.cell? ⟨w.heap.size,0,none⟩=some (.slice x.1 x.2.1 x.2.2):=NatBox.cell (hg.1.of List.mem_cons_self)
      with_reducible refine asked_pl ?_ ?_
      all_goals simp [Region.wanted,yielded,execOp,Act.eval,Act.put,go_sem,c0]
     case refine_5 =>
      have c0:w'.cell? ⟨wr.heap.size,0,none⟩=some (.slice o.1 o.2.1 o.2.2):=NatBox.cell (hg.1.of (List.mem_cons_of_mem _ List.mem_cons_self))
      with_reducible refine asked_pl ?_ ?_
      all_goals simp [Region.wanted,yielded,execOp,Act.eval,Act.put,go_sem,c0]
     case refine_6 =>
      (with_reducible refine asked_call (w1:=w') (f := 71) (args:=#[.pointer (some ⟨r,0,none⟩),.agg #[.slice x.1 x.2.1 x.2.2],.agg #[.slice o.1 o.2.1 o.2.2]]) ?_ ?_ ?_)
      ·simp [Region.wanted,yielded,Act.put,go_sem]
      ·simp [Act.eval,Act.put,go_sem]
      ·refine (rngsub_fit (HRo.out.keep HRL.out hg.1.keep) (HFX.out.keep hg.1.keep) (HFO.out.keep hg.1.keep) (by omega) (by omega)).mono ?_
       rintro en w9 ⟨u,rfl,hu,hb⟩
       exact ⟨u,rfl,Keep.of hb hg.1.base,hu,hg.1.later hb,by simpa [upd] using hg.2.later hb⟩
     case refine_7 =>
      have k5:Fit 33 (subM X O q) (sp 5) w':=(hdp 5 (mq (by kernel_rfl))).2
      (with_reducible refine asked_call (w1:=w') (f := 45) (args:=#[.pointer (some ⟨r,0,none⟩),.agg #[.slice pa na ca],sp 5]) ?_ ?_ ?_)
      ·simp [Region.wanted,yielded,Act.put,go_sem]
      ·simp [Act.eval,Act.put,go_sem]
      ·refine (rngmul_fit (HRo.out.keep HRL.out hg.1.keep) (HFA.out.keep hg.1.keep) k5 (by omega) (by omega)).mono ?_
       rintro en w9 ⟨u,rfl,hu,hb⟩
       rw [HZA.out] at hu
       exact ⟨u,rfl,Keep.of hb hg.1.base,hu,hg.1.later hb,by simpa [upd] using hg.2.later hb⟩
     case refine_8 =>
      have hx:∃ p n c,sp 6=.agg #[.slice p n c] /\ NatAt w' p n c (ZA) /\ ZA < B32 (33):=(hdp 6 (mq (by kernel_rfl))).2
      (with_reducible refine Exists.elim hx fun p hx1=>Exists.elim hx1 fun n hx2=>Exists.elim hx2 fun c hx3=>?_)
      have h1:=hx3.1
      rw [hD] at hg
      have hp:=hg.2.put (hx3.2.1)
      (with_reducible refine Exists.elim hp fun q hy1=>Exists.elim hy1 fun m hy2=>Exists.elim hy2 fun k hy3=>?_)
      have h6:=hy3.1.cell
      have h7:=hy3.1.free
      (with_reducible refine asked_skip (w1:=w'.setCell ⟨b10,0,none⟩ (.slice p n c)) ?_ ?_ ?_)
      ·simp [Region.wanted,yielded,Act.put,go_sem]
      ·simp [execOp,Act.eval,Act.put,go_sem,h1,h6,h7]
      ·refine ⟨Keep.store hy3.1 HLE.out _,trivial,hg.1.store hy3.1 HLE.out HNE6.out _,?_⟩
       have h8:=hy3.2
       simpa [upd] using h8
     all_goals ((with_reducible refine asked_pl ?_ ?_); all_goals first | (simp only [Region.wanted]; done) | simp [Region.wanted,yielded,execOp,Act.eval,Act.put,go_sem])
    ·intro sp w9 hsp hg
     obtain ⟨hg1,hg2⟩:=hg
     obtain ⟨pa2,na2,ca2,ha2,hna2⟩:=hg2.o rfl
     have HA2:=hol ha2
     have HNA2:=hol hna2
     have HK9:=hol hg1.keep
     have g7:=hg1.of List.mem_cons_self
     have gO:=hg1.of (List.mem_cons_of_mem _ List.mem_cons_self)
     have g11:=hg1.of (List.mem_cons_of_mem _ (List.mem_cons_of_mem _ List.mem_cons_self))
     have g8:=hg1.of (List.mem_cons_of_mem _ (List.mem_cons_of_mem _ (List.mem_cons_of_mem _ List.mem_cons_self)))
     have HG7:Hold (NatBox w9 w.heap.size (.slice x.1 x.2.1 x.2.2)):=⟨g7⟩
     have HGO:Hold (NatBox w9 wr.heap.size (.slice o.1 o.2.1 o.2.2)):=⟨gO⟩
     have HG11:Hold (NatBox w9 b11 (.slice pb nb cb)):=⟨g11⟩
     have HG8:Hold (NatBox w9 (w.heap.size + 1) (.slice none 0 0)):=⟨g8⟩
     have HB9:Hold (Below w.heap.size w w9):=⟨HSb.out.bel.trans hg1.keep.bel⟩
     have HFI:=hol (HFI0.out.below HB9.out)
     have HCI:Hold (w9.cell? ⟨bx,off + i,none⟩=some (.slice xi.1 xi.2.1 xi.2.2)):=⟨(HB9.out.cell (p:=⟨bx,off + i,none⟩) HBX.out).trans HCI0.out⟩
     have HFO7:=hol (HFO.out.keep hg1.keep)
     have HFB:=hol (HFB0.out.keep hg1.keep)
     have HR7:=hol (HR.out.below HB9.out)
     have HNE7:Hold (∀ y ∈ ([(wr.heap.size,.cells #[.slice o.1 o.2.1 o.2.2] 36 (0,0)),(w.heap.size,.cells #[.slice x.1 x.2.1 x.2.2] 36 (0,0)),(b10,.cells #[.slice pa2 na2 ca2] 36 (0,0)),(w.heap.size + 1,.cells #[.slice none 0 0] 36 (0,0))]:List (Nat × Obj)),y.1 ≠ b11):=⟨by
      have h1:=HLO.out; have h2:=HWB.out
      intro y hy
      simp only [List.mem_cons,List.not_mem_nil,or_false] at hy
      rcases hy with rfl | rfl | rfl | rfl <;> simp only <;> omega⟩
     have HL7:Hold (∀ y ∈ ([(wr.heap.size,.cells #[.slice o.1 o.2.1 o.2.2] 36 (0,0)),(w.heap.size,.cells #[.slice x.1 x.2.1 x.2.2] 36 (0,0)),(b10,.cells #[.slice pa2 na2 ca2] 36 (0,0)),(w.heap.size + 1,.cells #[.slice none 0 0] 36 (0,0))]:List (Nat × Obj)),w9.heap[y.1]? = some y.2):=⟨by
      intro y hy
      simp only [List.mem_cons,List.not_mem_nil,or_false] at hy
      rcases hy with rfl | rfl | rfl | rfl
      ·exact HGO.out
      ·exact HG7.out
      ·exact HA2.out
      ·exact HG8.out⟩
     clear hsp hg1 hg2 ha2 hna2 g7 gO g11 g8
     simp only [frameOf,Nat.reduceAdd]
     generalize sp 5=y5,sp 6=y6,sp 7=y7 at *
     go_simp
     go_wp2
     refine wp_region_dutiesS (by kernel_rfl) (by kernel_rfl)
      [some (.pointer (some ⟨r,0,none⟩)),some (.agg #[.slice pb nb cb]),some (.pointer (some ⟨r,0,none⟩)),some (.slice (some ⟨bx,off,none⟩) n c),some (.int .i64 (i:Nat)),some (.pointer (some ⟨bx,off + i,none⟩)),some (.agg #[.slice xi.1 xi.2.1 xi.2.2]),some (.agg #[.slice o.1 o.2.1 o.2.2]),none,none,none]
      [false,false,false,false,false,false,false,false,true,true,true] rfl
      (fun wA wB=>Keep (w.heap.size) wA wB)
      (fun D sp w'=>RG (w.heap.size) w9 [(wr.heap.size,.cells #[.slice o.1 o.2.1 o.2.2] 36 (0,0)),(w.heap.size,.cells #[.slice x.1 x.2.1 x.2.2] 36 (0,0)),(b10,.cells #[.slice pa2 na2 ca2] 36 (0,0)),(w.heap.size + 1,.cells #[.slice none 0 0] 36 (0,0))] w' /\ StV (D 10) (b11) pb nb cb (ZB) w')
      (fun i v w'=>match i with
       | 8=>Fit 33 (subM XI O q) v w'
       | 9=>Fit 33 ZB v w'
       | _=>True)
      ?_ ⟨RG.start HB9.out.size HL7.out,⟨fun _=>HG11.out,fun e=>by cases e⟩⟩ ?_ ?_
     ·intro i v wA wB hf hb
      split at hf
      ·exact hf.keep hb
      ·exact hf.keep hb
      ·trivial
     ·simp only [DutiesS,Nat.reduceAdd]
      refine ⟨?_,?_,?_,?_,?_,?_,?_,?_,?_,?_,?_,trivial⟩
      all_goals intro D sp w' hD hW hdp hg
      case refine_2 =>
       have c0:=(hg.2.z (hW 10 (mq (by kernel_rfl)))).cell
       with_reducible refine asked_pl ?_ ?_
       all_goals simp [Region.wanted,yielded,execOp,Act.eval,Act.put,go_sem,c0]
      case refine_6 =>
       have hni:¬ n <= i:=Nat.not_le.2 HIN.out
       with_reducible refine asked_pl ?_ ?_
       all_goals simp [Region.wanted,yielded,execOp,Act.eval,Act.put,go_sem,hni]
      case refine_7 =>
       have c0:w'.cell? ⟨bx,off + i,none⟩=some (.slice xi.1 xi.2.1 xi.2.2):=(hg.1.keep.bel.cell (p:=⟨bx,off + i,none⟩) HBX.out).trans HCI.out
       with_reducible refine asked_pl ?_ ?_
       all_goals simp [Region.wanted,yielded,execOp,Act.eval,Act.put,go_sem,c0]
      case refine_8 =>
       have c0:w'.cell? ⟨wr.heap.size,0,none⟩=some (.slice o.1 o.2.1 o.2.2):=NatBox.cell (hg.1.of List.mem_cons_self)
       with_reducible refine asked_pl ?_ ?_
       all_goals simp [Region.wanted,yielded,execOp,Act.eval,Act.put,go_sem,c0]
      case refine_9 =>
       (with_reducible refine asked_call (w1:=w') (f := 71) (args:=#[.pointer (some ⟨r,0,none⟩),.agg #[.slice xi.1 xi.2.1 xi.2.2],.agg #[.slice o.1 o.2.1 o.2.2]]) ?_ ?_ ?_)
       ·simp [Region.wanted,yielded,Act.put,go_sem]
       ·simp [Act.eval,Act.put,go_sem]
       ·refine (rngsub_fit (HR7.out.keep HRL.out hg.1.keep) (HFI.out.keep hg.1.keep) (HFO7.out.keep hg.1.keep) (by omega) (by omega)).mono ?_
        rintro en w9 ⟨u,rfl,hu,hb⟩
        exact ⟨u,rfl,Keep.of hb hg.1.base,hu,hg.1.later hb,by simpa [upd] using hg.2.later hb⟩
      case refine_10 =>
       have k8:Fit 33 (subM XI O q) (sp 8) w':=(hdp 8 (mq (by kernel_rfl))).2
       (with_reducible refine asked_call (w1:=w') (f := 45) (args:=#[.pointer (some ⟨r,0,none⟩),.agg #[.slice pb nb cb],sp 8]) ?_ ?_ ?_)
       ·simp [Region.wanted,yielded,Act.put,go_sem]
       ·simp [Act.eval,Act.put,go_sem]
       ·refine (rngmul_fit (HR7.out.keep HRL.out hg.1.keep) (HFB.out.keep hg.1.keep) k8 (by omega) (by omega)).mono ?_
        rintro en w9 ⟨u,rfl,hu,hb⟩
        rw [HZB.out] at hu
        exact ⟨u,rfl,Keep.of hb hg.1.base,hu,hg.1.later hb,by simpa [upd] using hg.2.later hb⟩
      case refine_11 =>
       have hx:∃ p n c,sp 9=.agg #[.slice p n c] /\ NatAt w' p n c (ZB) /\ ZB < B32 (33):=(hdp 9 (mq (by kernel_rfl))).2
       (with_reducible refine Exists.elim hx fun p hx1=>Exists.elim hx1 fun n hx2=>Exists.elim hx2 fun c hx3=>?_)
       have h1:=hx3.1
       rw [hD] at hg
       have hp:=hg.2.put (hx3.2.1)
       (with_reducible refine Exists.elim hp fun q hy1=>Exists.elim hy1 fun m hy2=>Exists.elim hy2 fun k hy3=>?_)
       have h6:=hy3.1.cell
       have h7:=hy3.1.free
       (with_reducible refine asked_skip (w1:=w'.setCell ⟨b11,0,none⟩ (.slice p n c)) ?_ ?_ ?_)
       ·simp [Region.wanted,yielded,Act.put,go_sem]
       ·simp [execOp,Act.eval,Act.put,go_sem,h1,h6,h7]
       ·refine ⟨Keep.store hy3.1 HLEb.out _,trivial,hg.1.store hy3.1 HLEb.out HNE7.out _,?_⟩
        have h8:=hy3.2
        simpa [upd] using h8
      all_goals ((with_reducible refine asked_pl ?_ ?_); all_goals first | (simp only [Region.wanted]; done) | simp [Region.wanted,yielded,execOp,Act.eval,Act.put,go_sem])
     ·intro sp wz hsp hg
      obtain ⟨hg1,hg2⟩:=hg
      obtain ⟨pb2,nb2,cb2,hb2,hnb2⟩:=hg2.o rfl
      have g7:=hg1.of (List.mem_cons_of_mem _ List.mem_cons_self)
      have g10:=hg1.of (List.mem_cons_of_mem _ (List.mem_cons_of_mem _ List.mem_cons_self))
      have g8:=hg1.of (List.mem_cons_of_mem _ (List.mem_cons_of_mem _ (List.mem_cons_of_mem _ List.mem_cons_self)))
      have HSN:Hold (WtSt w b10 b11 (.slice x.1 x.2.1 x.2.2) (diffs q X 1 (others Bs i (k + 1))) (diffs q XI 1 (others Bs i (k + 1))) wz):=⟨⟨g7,g8,⟨pa2,na2,ca2,g10,by rw [HEA.out]; exact hg1.keep.nat _ _ _ _ HNA2.out⟩,⟨pb2,nb2,cb2,hb2,by rw [HEB.out]; exact hnb2⟩,HB9.out.trans hg1.keep.bel⟩⟩
      clear hsp hg1 hg2 hb2 hnb2 g7 g10 g8
      simp only [frameOf,Nat.reduceAdd]
      generalize sp 8=y8,sp 9=y9,sp 10=y10 at *
      go_simp
      go_wp2
      go_roundw
      case rel=>exact ⟨k + 1,by omega,by go_num,HSN⟩
      case measure=>simp [intOf]; omega
  ·obtain rfl:k=n:=by omega
   have hkn':¬ (k:Int) < k:=by omega
   have HALL:Hold (others Bs i k=Bs.take i ++ Bs.drop (i + 1)):=⟨by rw [HLN.out]; exact others_all Bs i⟩
   have hs:=HS.out
   rw [HALL.out] at hs
   obtain ⟨pa,na,ca,hab,han⟩:=hs.a
   obtain ⟨pb,nb,cb,hbb,hbn⟩:=hs.b
   have hq2:=HQ2.out
   have hlq:q < B32 33:=HR.out.lim
   have HFA:=hol (Fit.of han (Nat.lt_trans (diffs_lt hq2 _ _ (by omega)) hlq))
   have HFB:=hol (Fit.of hbn (Nat.lt_trans (diffs_lt hq2 _ _ (by omega)) hlq))
   have HB8:=hol hs.b8
   have HBL:=hol hs.bel
   have HRw:=hol (HR.out.below hs.bel)
   have c10:=hab.cell
   have c11:=hbb.cell
   clear hs hab han hbb hbn hq2 hlq
   go_wp2_with fail
   refine (quo_fit HRw.out HFA.out HFB.out (by decide) (by decide)).mono ?_
   rintro en w5 ⟨_,I,rfl,hI,⟨pm,nm,cm,rfl,m1,m2⟩,hb5⟩
   have hx5:=HB8.out.below hb5 HB8.out.lt
   have k8:=hx5.cell
   have f8:=hx5.free
   have HIN2:=hol hI
   have HF:=hol (Fit.of (m1.store hx5 (.slice pm nm cm)) m2)
   have HBF:Hold (Below w.heap.size w (w5.setCell ⟨w.heap.size + 1,0,none⟩ (.slice pm nm cm))):=⟨(bstep HBL.out hb5).setCell (by simp) _⟩
   obtain ⟨E,hE⟩:∃ E:Int,(if Nat.gcd q (diffs q XI 1 (Bs.take i ++ Bs.drop (i + 1)))=1 then 0 else 6)=E:=⟨_,rfl⟩
   have HE:=hol hE
   simp only [hE]
   clear m1 hx5 hb5 hI hE c10 c11
   go_wp2
   exact bodyPost_ret (v:=.tuple #[.agg #[.slice pm nm cm],.int .i64 E]) (by simp [results,Tryz.results113,go_sem,k8]) rfl ⟨_,I,by rw [HE.out],HIN2.out,HF.out,HBF.out⟩
end Go.Proofs.YtdebccghjbfgdaaGreatDoor
