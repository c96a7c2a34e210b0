/- All places' weights (curve.weightsBeside). -/
import Derived.Test.YtdebccghjbfgdaaGreatDoorCuG
set_option maxRecDepth 1000000
set_option maxHeartbeats 16000000
set_option linter.unusedSimpArgs false
set_option linter.unusedVariables false
namespace Go.Proofs.YtdebccghjbfgdaaGreatDoor
theorem weight_val {q X XI I:Nat} {L:List Nat} (hq:Prime q) (hu:∀ a ∈ L,¬ (q:Int) ∣ (XI:Int) - a) (hI:IsInv q (diffs q XI 1 L) I):Nat.gcd q (diffs q XI 1 L)=1 /\ diffs q X 1 L * I % q=docW q X XI 1 L:=by
 have h2:=hq.two
 refine ⟨hq.coprime fun hd=>?_,?_⟩
 ·have hB:=diffs_is (x:=XI) h2 L 1 1 (Is.one h2)
  rw [Int.one_mul] at hB
  refine prod_unlike hq (XI:Int) L hu ?_
  have h3:(q:Int) ∣ ((diffs q XI 1 L:Nat):Int):=Int.natCast_dvd_natCast.2 hd
  have h4:=Int.dvd_sub h3 hB.dvd
  rwa [show ((diffs q XI 1 L:Nat):Int) - (((diffs q XI 1 L:Nat):Int) - prodI (L.map fun a:Nat=>(XI:Int) - a))=prodI (L.map fun a:Nat=>(XI:Int) - a) by omega] at h4
 ·rw [invQ_eq h2 hI]
  exact wprog_eq hq hu
theorem subM_mods (a b q:Nat):subM (a % q) (b % q) q=subM a b q:=by unfold subM; rw [Nat.mod_mod,Nat.mod_mod]
theorem docW_mod (q x z:Nat):∀ (l:List Nat) (o:Nat),docW q (x % q) (z % q) o (l.map fun a=>a % q)=docW q x z o l
 | [],_=>rfl
 | a :: l,o=>by
  show docW q (x % q) (z % q) (o * (subM (x % q) (a % q) q * invQ q (subM (z % q) (a % q) q) % q) % q) (l.map fun a=>a % q)=docW q x z (o * (subM x a q * invQ q (subM z a q) % q) % q) l
  rw [subM_mods,subM_mods]
  exact docW_mod q x z l _
theorem docW_lt {q x z:Nat} (hq:2 <= q):∀ (l:List Nat) (o:Nat),o < q -> docW q x z o l < q
 | [],_,h=>h
 | _ :: l,_,_=>docW_lt hq l _ (Nat.mod_lt _ (by omega))
noncomputable def weis (q x:Nat):List Nat -> List Nat -> List Nat
 | _,[]=>[]
 | pre,z :: post=>docW q x z 1 (pre ++ post) :: weis q x (pre ++ [z]) post
theorem weis_length (q x:Nat):∀ post pre,(weis q x pre post).length=post.length
 | [],_=>rfl
 | z :: post,pre=>by simp only [weis,List.length_cons,weis_length q x post]
theorem weis_get (q x:Nat):∀ (post pre:List Nat) (i z:Nat),post[i]? = some z -> (weis q x pre post)[i]? = some (docW q x z 1 (pre ++ (post.take i ++ post.drop (i + 1))))
 | [],_,i,z,h=>by simp at h
 | y :: post,pre,0,z,h=>by
  simp at h
  subst h
  simp [weis]
 | y :: post,pre,i + 1,z,h=>by
  have h1:=weis_get q x post (pre ++ [y]) i z (by simpa using h)
  show (weis q x (pre ++ [y]) post)[i]? = _
  rw [h1]
  simp
def valN (hp ht:Nat -> Nat -> Nat) (x nothing:Nat):List Nat -> Nat
 | []=>nothing
 | c :: l=>hp (ht (valN hp ht x nothing l) x) c
theorem valN_hor (q x:Nat):∀ l,valN (fun a b=>(a + b) % q) (fun a b=>a * b % q) x 0 l=horQ q x l
 | []=>rfl
 | c :: l=>by
  show (valN (fun a b=>(a + b) % q) (fun a b=>a * b % q) x 0 l * x % q + c) % q=(c + horQ q x l * x % q) % q
  rw [valN_hor q x l,Nat.add_comm]
theorem horQ_mod (q x:Nat):∀ l,horQ q (x % q) l=horQ q x l
 | []=>rfl
 | c :: l=>by
  show (c + horQ q (x % q) l * (x % q) % q) % q=(c + horQ q x l * x % q) % q
  rw [horQ_mod q x l,Nat.mul_mod_mod]
open Go Go.RowKit Go.Proofs.YtdebccghjbfgdaaGreatDoor.Flow
structure KB (B b:Nat) (w w':World):Prop where
 k:Keep B w w'
 b:But b w w'
theorem KB.of {B b:Nat} {w w':World} (h:Below w.heap.size w w') (hB:B <= w.heap.size):KB B b w w':=⟨Keep.of h hB,But.of h⟩
theorem KB.same (B b:Nat) (w:World):KB B b w w:=⟨Keep.same _ _,But.refl _ _⟩
theorem KB.store {B b m d:Nat} {q:Option Addr} {w:World} (hb:NatBox w b (.slice q m d)) (hB:B <= b) (v:Value):KB B b w (w.setCell ⟨b,0,none⟩ v):=⟨Keep.store hb hB v,But.setCell _ _ _⟩
theorem Fit.kb {e N B b:Nat} {v:Value} {w w':World} (h:Fit e N v w) (k:KB B b w w'):Fit e N v w':=h.keep k.k
def RowF (b n:Nat) (Ns:List Nat) (v:Value) (w:World):Prop:=∃ g,v=.slice (some ⟨g,0,none⟩) n n /\ PList w 33 (some ⟨g,0,none⟩) n n Ns /\ g ≠ b
theorem plist_kb {w w':World} {e B b n c:Nat} {g off:Nat} {Ns:List Nat} (h:PList w e (some ⟨g,off,none⟩) n c Ns) (k:KB B b w w') (hne:g ≠ b):PList w' e (some ⟨g,off,none⟩) n c Ns:=by
 refine ⟨h.len,h.cap,h.max,h.nil,fun h0=>?_⟩
 obtain ⟨b',off',h1,h2,h3⟩:=h.at_ h0
 simp only [Option.some.injEq,Addr.mk.injEq,and_true] at h1
 obtain ⟨rfl,rfl⟩:=h1
 refine ⟨g,off,rfl,Nat.lt_of_lt_of_le h2 k.b.size,fun i N hN=>?_⟩
 obtain ⟨q,m,d,k1,k2,k3⟩:=h3 i N hN
 exact ⟨q,m,d,by rw [k.b.cell (p:=⟨g,off + i,none⟩) h2 hne]; exact k1,k.k.nat _ _ _ _ k2,k3⟩
theorem RowF.kb {b n B:Nat} {Ns:List Nat} {v:Value} {w w':World} (h:RowF b n Ns v w) (k:KB B b w w'):RowF b n Ns v w' :=
 let ⟨g,h1,h2,h3⟩:=h
 ⟨g,h1,plist_kb h2 k h3,h3⟩
theorem wb_err {w:World} {r q e e2 n c Vn X:Nat} {p:Option Addr} {Bs:List Nat} {v:Value} (hR:Ring w r q 33) (h:PList w e p n c Bs) (hX:Fit e2 X v w) (he:e <= 200) (hn:n <= 12) (hV:Vn <= 1000000) (hf:faultN q n Vn Bs ≠ 0) :
  Calls Tryz.prog 63 #[.pointer (some ⟨r,0,none⟩),.slice p n c,.int .i64 Vn,v] w fun en w'=>en=.returned (.tuple #[.slice none 0 0,.int .i64 (faultN q n Vn Bs:Nat)]) /\ Below w.heap.size w w':=by
 obtain ⟨px,nx,cx,rfl,x1,x2⟩:=fit_cases hX
 have hbw:Below w.heap.size w (w.alloc (.cells #[.slice px nx cx] 36)):=bal
 have HF:=hol (fault_fit (V:=Vn) (hR.below hbw) (h.below hbw) he hn hV)
 have HB:=hol hbw
 obtain ⟨E,hE⟩:∃ E,faultN q n Vn Bs=E:=⟨_,rfl⟩
 rw [hE] at HF hf ⊢
 have hne:((E:Int) != 0)=true:=by rw [bne_iff_ne]; omega
 clear hR h hX x1 hbw hE hf
 go_enter Tryz.func63,Tryz.ntmps63
 go_wp2_with fail
 refine HF.out.mono ?_
 rintro en w1 ⟨rfl,hb1⟩
 have HB1:=hol (bstep HB.out hb1)
 clear hb1 HF
 go_wp2
 go_ret2
 exact ⟨rfl,HB1.out⟩
theorem wb_ok {w:World} {r q e e2 n c X:Nat} {p:Option Addr} {Bs:List Nat} {v:Value} (hq:Prime q) (hR:Ring w r q 33) (h:PList w e p n c Bs) (hX:Fit e2 X v w) (he:e <= 200) (he2:e2 <= 200) (hn:n <= 12) (hf:faultN q n n Bs=0) :
  Calls Tryz.prog 63 #[.pointer (some ⟨r,0,none⟩),.slice p n c,.int .i64 n,v] w fun en w'=>∃ g,en=.returned (.tuple #[.slice (some ⟨g,0,none⟩) n n,.int .i64 0]) /\ PList w' 33 (some ⟨g,0,none⟩) n n (weis q X [] Bs) /\ Below w.heap.size w w':=by
 obtain ⟨px,nx,cx,rfl,x1,x2⟩:=fit_cases hX
 have hbw:Below w.heap.size w (w.alloc (.cells #[.slice px nx cx] 36)):=bal
 have hbx:=NatBox.made w (.slice px nx cx)
 obtain ⟨w0,hw0⟩:∃ w0,w.alloc (.cells #[.slice px nx cx] 36)=w0:=⟨_,rfl⟩
 rw [hw0] at hbw hbx
 have HF:=hol (fault_fit (V:=n) (hR.below hbw) (h.below hbw) he hn (by omega))
 have hn0:n ≠ 0:=fun e=>by rw [faultN,if_pos e] at hf; omega
 have HU:Hold (Unlike q (ints Bs)):=⟨by
  rw [unlike_iff]
  unfold faultN at hf
  rw [if_neg hn0,if_neg (fun h=>h rfl)] at hf
  by_cases hd:(Bs.map fun x=>x % q).Nodup
  ·exact hd
  ·rw [if_neg hd] at hf; omega⟩
 rw [hf] at HF
 have HQ:=hol hq
 have HLN:=hol h.len
 have HR:=hol hR
 have HP:=hol h
 have HX0:=hol (Fit.of x1 x2)
 have HB0:=hol hbw
 have HX00:=hol hbx
 have HRL:=hol hR.at_.lt
 clear hq hR h hX x1 hbw hbx hf
 go_enter Tryz.func63,Tryz.ntmps63
 go_wp2_with fail
 refine HF.out.mono ?_
 rintro en w1 ⟨rfl,hb1⟩
 have HB1:=hol (bstep HB0.out hb1)
 have HXB:=hol (HX00.out.below hb1 HX00.out.lt)
 have HR1:=hol (HR.out.below HB1.out)
 have HP1:Hold (PLow w.heap.size w1 e p n c Bs):=⟨PLow.of HP.out HB1.out (Nat.le_refl _)⟩
 have HFX:=hol (HX0.out.below HB1.out)
 have hc0:((0:Nat):Int)=0:=rfl
 clear hb1 HF HB0 HX00 HX0
 go_wp2
 refine wp_region_dutiesS (by kernel_rfl) (by kernel_rfl)
  [some (.slice p n c),some (.pointer (some ⟨r,0,none⟩)),some (.func (.func 36) #[.pointer (some ⟨r,0,none⟩)] #[]),none,some (.pointer (some ⟨r,0,none⟩)),some (.agg #[.slice px nx cx]),none,none,none]
  [false,false,false,true,false,false,true,true,true] rfl
  (fun wA wB=>KB (w.heap.size) (w.heap.size) wA wB)
  (fun D sp w'=>RG (w.heap.size) w1 [] w' /\ StV (D 8) (w.heap.size) px nx cx (X % q) w')
  (fun i v w'=>match i with
   | 3=>RowF w.heap.size n (Bs.map fun x=>x % q) v w'
   | 6=>Fit 33 (X % q) v w'
   | 7=>RowF w.heap.size n (Bs.map fun x=>x % q) v w'
   | _=>True)
  ?_ ⟨RG.start HB1.out.size (fun x hx=>by cases hx),⟨fun _=>HXB.out,fun e=>by cases e⟩⟩ ?_ ?_
 ·intro i v wA wB hf hb
  split at hf
  ·exact hf.kb hb
  ·exact hf.kb hb
  ·exact hf.kb hb
  ·trivial
 ·simp only [DutiesS,Nat.reduceAdd]
  refine ⟨?_,?_,?_,?_,?_,?_,?_,?_,?_,trivial⟩
  all_goals intro D sp w' hD hW hdp hg
  case refine_4 =>
   (with_reducible refine asked_call (w1:=w') (f := 69) (args:=#[.slice p n c,.func (.func 36) #[.pointer (some ⟨r,0,none⟩)] #[]]) ?_ ?_ ?_)
   ·simp [Region.wanted,yielded,Act.put,go_sem]
   ·simp [Act.eval,Act.put,go_sem]
   ·refine (ceach_fit (HR1.out.keep HRL.out hg.1.keep) (HP1.out.keep hg.1.keep).pl he (by omega)).mono ?_
    rintro en w9 ⟨rfl,hu,hb⟩
    exact ⟨_,rfl,KB.of hb hg.1.base,⟨_,rfl,hu,Nat.ne_of_gt (Nat.lt_of_lt_of_le HXB.out.lt hg.1.keep.bel.size)⟩,hg.1.later hb,by simpa [upd] using hg.2.later hb⟩
  case refine_6 =>
   have c0:=(hg.2.z (hW 8 (mq (by kernel_rfl)))).cell
   with_reducible refine asked_pl ?_ ?_
   all_goals simp [Region.wanted,yielded,execOp,Act.eval,Act.put,go_sem,c0]
  case refine_7 =>
   (with_reducible refine asked_call (w1:=w') (f := 36) (args:=#[.pointer (some ⟨r,0,none⟩),.agg #[.slice px nx cx]]) ?_ ?_ ?_)
   ·simp [Region.wanted,yielded,Act.put,go_sem]
   ·simp [Act.eval,Act.put,go_sem]
   ·refine (rof_fit (HR1.out.keep HRL.out hg.1.keep) (HFX.out.keep hg.1.keep) (by omega)).mono ?_
    rintro en w9 ⟨u,rfl,hu,hb⟩
    exact ⟨u,rfl,KB.of hb hg.1.base,hu,hg.1.later hb,by simpa [upd] using hg.2.later hb⟩
  case refine_8 =>
   have k3:RowF w.heap.size n (Bs.map fun x=>x % q) (sp 3) w':=(hdp 3 (mq (by kernel_rfl))).2
   (with_reducible refine asked_value (w1:=w') (v:=sp 3) ?_ ?_ ?_)
   ·simp [Region.wanted,yielded,Act.put,go_sem]
   ·simp [execOp,Act.eval,Act.put,go_sem]
   ·exact ⟨KB.same _ _ _,k3,hg.1,by simpa [upd] using hg.2⟩
  case refine_9 =>
   have hx:∃ p n c,sp 6=.agg #[.slice p n c] /\ NatAt w' p n c (X % q) /\ X % q < B32 (33):=(hdp 6 (mq (by kernel_rfl))).2
   (with_reducible refine Exists.elim hx fun p hx1=>Exists.elim hx1 fun n hx2=>Exists.elim hx2 fun c hx3=>?_)
   have h1:=hx3.1
   rw [hD] at hg
   have hp:=hg.2.put (hx3.2.1)
   (with_reducible refine Exists.elim hp fun q hy1=>Exists.elim hy1 fun m hy2=>Exists.elim hy2 fun k hy3=>?_)
   have h6:=hy3.1.cell
   have h7:=hy3.1.free
   (with_reducible refine asked_skip (w1:=w'.setCell ⟨w.heap.size,0,none⟩ (.slice p n c)) ?_ ?_ ?_)
   ·simp [Region.wanted,yielded,Act.put,go_sem]
   ·simp [execOp,Act.eval,Act.put,go_sem,h1,h6,h7]
   ·refine ⟨KB.store hy3.1 (Nat.le_refl _) _,trivial,hg.1.store hy3.1 (Nat.le_refl _) (fun x hx=>by cases hx) _,?_⟩
    have h8:=hy3.2
    simpa [upd] using h8
  all_goals ((with_reducible refine asked_pl ?_ ?_); all_goals first | (simp only [Region.wanted]; done) | simp [Region.wanted,yielded,execOp,Act.eval,Act.put,go_sem])
 ·intro sp w2 hsp hg
  obtain ⟨hg1,hg2⟩:=hg
  obtain ⟨g1,e7,hp7,hne7⟩:RowF w.heap.size n (Bs.map fun x=>x % q) (sp 7) w2:=hsp 7 rfl
  obtain ⟨pz,nz,cz,hzb,hzn⟩:=hg2.o rfl
  have hB2:Below w.heap.size w w2:=HB1.out.trans hg1.keep.bel
  have HB2:=hol hB2
  have HP7:=hol hp7
  have HZB:=hol hzb
  have HZN:Hold (Fit 33 (X % q) (.agg #[.slice pz nz cz]) w2):=⟨Fit.of hzn (Nat.lt_trans (Nat.mod_lt _ (by have:=HQ.out.two; omega)) HR.out.lim)⟩
  have HR2:=hol (HR.out.below hB2)
  clear hsp hg1 hg2 hzb hzn hp7 hne7 HP1 HR1 HFX HXB hB2
  simp only [frameOf,Nat.reduceAdd]
  generalize sp 3=y3,sp 6=y6,sp 7=y7,sp 8=y8 at *
  subst e7
  have hmk:=fun w=>make_row n (by omega) w
  obtain ⟨w3,hw3⟩:∃ w3,w2.alloc (.cells (madeCells #[.slice none 0 0] n) 36)=w3:=⟨_,rfl⟩
  have hb3:Below w2.heap.size w2 w3:=by rw [<- hw3]; exact (Below.refl _ _).alloc (Nat.le_refl _) _
  have HS3:Hold (SRow w3 w2.heap.size (List.replicate n (none,0,0))):=⟨by rw [<- hw3]; exact SRow.made w2 n⟩
  have HB3:=hol hb3
  clear hb3
  go_simp
  go_wp2
  go_loopw [12,13,14,34] (fun _ _ _ iv wr=>∃ (k:Nat) (us:List (Option Addr × Nat × Nat)),k <= n /\ iv=.int .i64 k /\ us.length=n /\ Hold (SRow wr w2.heap.size us) /\ Hold (Vals wr 33 us (weis q X [] Bs) k) /\ Hold (Below w2.heap.size w2 wr)) (fun _ _ _ iv _=>n - (intOf iv).toNat)
  case atStart=>exact ⟨0,List.replicate n (none,0,0),by omega,rfl,by simp,HS3,⟨fun j N hj=>by omega⟩,HB3⟩
  case round =>
   obtain ⟨k,us,hk,rfl,hus,HSr,HVr,HBr⟩:=hrel
   by_cases hkn:k < n
   ·obtain ⟨Z,hZk⟩:∃ Z,Bs[k]? = some Z:=⟨Bs[k]'(by rw [<- HLN.out]; exact hkn),List.getElem?_eq_getElem _⟩
    have hzk:(Bs.map fun x=>x % q)[k]? = some (Z % q):=by rw [List.getElem?_map,hZk]; rfl
    have c7:=(HZB.out.below HBr.out HZB.out.lt).cell
    have HUK:Hold (us[k]? = some (us[k]'(by omega))):=⟨List.getElem?_eq_getElem _⟩
    have HUZ:Hold (∀ a ∈ (Bs.map fun x=>x % q).take k ++ (Bs.map fun x=>x % q).drop (k + 1),¬ (q:Int) ∣ ((Z % q:Nat):Int) - a):=⟨by
     have h1:Unlike q (ints (Bs.map fun x=>x % q)):=by
      rw [unlike_iff,List.map_map]
      have h2:=(unlike_iff Bs).1 HU.out
      rwa [show (Bs.map ((fun x=>x % q) ∘ fun x=>x % q))=Bs.map fun x=>x % q from List.map_congr_left fun a _=>Nat.mod_mod a q]
     exact unlike_others h1 hzk⟩
    have HDW:Hold (docW q (X % q) (Z % q) 1 ((Bs.map fun x=>x % q).take k ++ (Bs.map fun x=>x % q).drop (k + 1))=docW q X Z 1 (Bs.take k ++ Bs.drop (k + 1))):=⟨by
     rw [<- List.map_take,<- List.map_drop,<- List.map_append]
     exact docW_mod q X Z _ 1⟩
    have HWK:Hold ((weis q X [] Bs)[k]? = some (docW q X Z 1 (Bs.take k ++ Bs.drop (k + 1)))):=⟨by
     have:=weis_get q X Bs [] k Z hZk
     rwa [List.nil_append] at this⟩
    have HWT:=hol (weight_fit (i:=k) HQ.out (HR2.out.below HBr.out) (HP7.out.below HBr.out) (HZN.out.below HBr.out) (by decide) (by omega) hzk)
    have hkn':(k:Int) < n:=by omega
    have hnk:¬ n <= k:=by omega
    clear hzk hZk hmk
    go_wp2_with fail
    refine HWT.out.mono ?_
    rintro en w4 ⟨_,I,rfl,hI,⟨pm,nm,cm,rfl,m1,m2⟩,hb4⟩
    obtain ⟨hgcd,hval⟩:=weight_val (X:=X % q) HQ.out HUZ.out hI
    rw [hval,HDW.out] at m1 m2
    rw [if_pos hgcd]
    have hb5:Below w4.heap.size w4 (w4.alloc (.cells #[.slice pm nm cm] 36)):=bal
    have hb13:=NatBox.made w4 (.slice pm nm cm)
    obtain ⟨w5,hw5⟩:∃ w5,w4.alloc (.cells #[.slice pm nm cm] 36)=w5:=⟨_,rfl⟩
    rw [hw5] at hb5 hb13
    have c13:=hb13.cell
    have hb45:=bstep hb4 hb5
    have hs5:=HSr.out.below hb45 HSr.out.lt
    have c1:=hs5.cell HUK.out
    have f1:=hs5.free k
    have hsz:w2.heap.size <= wr.heap.size:=HBr.out.size
    have HS8:=hol (hs5.set k pm nm cm)
    have HV8:=hol (((HVr.out.keep (Keep.of (B:=w2.heap.size) hb45 hsz)).keep (Keep.store_row hs5 (Nat.le_refl _) k (.slice pm nm cm))).step (by omega) HWK.out (hs5.nat (m1.below hb5) k _) m2)
    have HB8:Hold (Below w2.heap.size w2 (w5.setCell ⟨w2.heap.size,k,none⟩ (.slice pm nm cm))):=⟨(bstep HBr.out hb45).setCell (Nat.le_refl _) _⟩
    have HLEN:Hold ((us.set k (pm,nm,cm)).length=n):=⟨by rw [List.length_set]; exact hus⟩
    clear m1 hb4 hb5 hb13 hb45 hs5 hI hgcd hval HWT HUZ HDW c7 hsz
    go_wp2
    go_roundw
    case rel=>exact ⟨k + 1,us.set k (pm,nm,cm),by omega,by go_num,HLEN.out,HS8,HV8,HB8⟩
    case measure=>simp [intOf]; omega
   ·obtain rfl:k=n:=by omega
    have hkn':¬ (k:Int) < k:=by omega
    have HPL:=hol (HVr.out.plist HSr.out (by rw [weis_length]; exact HLN.out.symm) (by omega))
    have HBF:=hol (HB2.out.trans (HBr.out.mono HB2.out.size))
    clear hmk
    go_wp2
    go_ret2
    exact ⟨w2.heap.size,rfl,HPL.out,HBF.out⟩
end Go.Proofs.YtdebccghjbfgdaaGreatDoor
