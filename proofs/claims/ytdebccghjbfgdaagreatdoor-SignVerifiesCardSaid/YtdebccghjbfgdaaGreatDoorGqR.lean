/- How a region stands that stores numbers into boxes of its own; a group in memory. -/
import Derived.Test.YtdebccghjbfgdaaGreatDoorMacE
import Derived.Test.YtdebccghjbfgdaaGreatDoorGrpN
import Derived.Laws.OwnMore
import Derived.Lib.AppendZeros
import Derived.ArgAppend
import Derived.Test.YtdebccghjbfgdaaGreatDoorExp
import Derived.Test.YtdebccghjbfgdaaGreatDoorCpD
set_option maxRecDepth 1000000
set_option maxHeartbeats 16000000
set_option linter.unusedSimpArgs false
set_option linter.unusedVariables false
namespace Go.Proofs.YtdebccghjbfgdaaGreatDoor
def le8 (n:Nat):List Nat:=(List.range 8).map fun i=>n / 256 ^ i % 256
theorem le8_length (n:Nat):(le8 n).length=8:=by simp [le8]
theorem le8_bytes (n:Nat):Bytes8 (le8 n):=fun x hx=>by
 simp only [le8,List.mem_map] at hx
 obtain ⟨i,_,rfl⟩:=hx
 exact Nat.mod_lt _ (by decide)
def saidOf:List (List Nat) -> List Nat
 | []=>[]
 | p :: L=>le8 p.length ++ p ++ saidOf L
theorem saidOf_snoc:∀ (L:List (List Nat)) (p:List Nat),saidOf (L ++ [p])=saidOf L ++ (le8 p.length ++ p)
 | [],p=>by simp [saidOf]
 | a :: L,p=>by simp [saidOf,saidOf_snoc L p]
def mprod (P:Nat):Nat -> List (Nat × Nat) -> Nat
 | x,[]=>x
 | x,(b,e) :: l=>mprod P (x * (b ^ e % P) % P) l
theorem mprod_lt {P:Nat} (hP:2 <= P):∀ (l:List (Nat × Nat)) (x:Nat),x < P -> mprod P x l < P
 | [],_,h=>h
 | (_,_) :: l,_,_=>mprod_lt hP l _ (Nat.mod_lt _ (by omega))
open Go Go.RowKit Go.Proofs.YtdebccghjbfgdaaGreatDoor.Flow
theorem be_blen {bs:List Nat} (h:Bytes8 bs):blen (be bs) <= 8 * bs.length:=by
 refine (blen_le _ _).2 ?_
 have:=h.reverse.lt
 rw [B8_pow] at this
 simpa [be] using this
theorem bits_nil (w:World) (p:Option Addr) (b off:Nat) (hp:p=some ⟨b,off,none⟩) (hb:b < w.heap.size):BitsAt w p 0 0 0:=by
 show BRow w p 0 0 []
 exact ⟨rfl,Nat.le_refl _,by omega,.inr ⟨b,off,hp,hb,fun i x hx=>by cases hx⟩⟩
theorem NatAt.grown {w w':World} {p:Option Addr} {n c N g:Nat} (h:NatAt w p n c N) (hg:w.grownBy w' (some g)) (hp:∀ q,p=some q -> q.block ≠ g):NatAt w' p n c N :=
 let ⟨ws,h1,h2,h3,h4⟩:=h.ex
 ⟨ws,h1.grown hg hp,h2,h3,h4⟩
theorem le8_take (n:Nat) {i:Nat} (hi:i < 8):(le8 n).take (i + 1)=(le8 n).take i ++ [n / 256 ^ i % 256]:=by
 refine snoc_take ?_
 unfold le8
 rw [List.getElem?_map,List.getElem?_range hi]
 rfl
theorem saidOf_take {L:List Part} {k:Nat} {P:Part} (h:L[k]? = some P):saidOf ((L.take (k + 1)).map (·.bs))=saidOf ((L.take k).map (·.bs)) ++ (le8 P.bs.length ++ P.bs):=by
 rw [snoc_take h,List.map_append]
 exact saidOf_snoc _ _
theorem saidOf_le (L:List Part) (k:Nat):(saidOf ((L.take k).map (·.bs))).length <= (saidOf (L.map (·.bs))).length:=by
 conv=>rhs; rw [<- List.take_append_drop k L,List.map_append]
 have:∀ (a b:List (List Nat)),(saidOf a).length <= (saidOf (a ++ b)).length:=by
  intro a b
  induction a with
  | nil=>exact Nat.zero_le _
  | cons x a ih=>simp only [List.cons_append,saidOf,List.length_append]; omega
 exact this _ _
theorem saidOf_bytes {L:List Part} (h:∀ P ∈ L,Bytes8 P.bs):Bytes8 (saidOf (L.map (·.bs))):=by
 induction L with
 | nil=>intro x hx; simp [saidOf] at hx
 | cons P L ih =>
  intro x hx
  simp only [List.map_cons,saidOf,List.mem_append] at hx
  rcases hx with (hx | hx) | hx
  ·exact le8_bytes _ x hx
  ·exact h P (by simp) x hx
  ·exact ih (fun P hP=>h P (by simp [hP])) x hx
theorem dchal_calls (w:World) (pP:Option Addr) (nP cP:Nat) (pQ:Option Addr) (nQ cQ Q:Nat) (pG:Option Addr) (nG cG:Nat) (pH:Option Addr) (nH cH:Nat) (hQ:BitsAt w pQ nQ cQ Q) (hQ0:0 < Q) (lQ:blen Q <= 900000)
  (p:Option Addr) (n c:Nat) (L:List Part) (hL:PartsIn w p n c L) (hz:Whole0 L) (hmax:(saidOf (L.map (·.bs))).length <= 1000000) :
  Calls Tryz.prog 105 #[.agg #[.slice pP nP cP,.slice pQ nQ cQ,.slice pG nG cG,.slice pH nH cH],.slice p n c] w fun e w'=>∃ x,e=.returned x /\ RBits (be (sha (saidOf (L.map (·.bs)))) % Q) x w' /\ Below w.heap.size w w':=by
 obtain ⟨XX,hXX⟩:∃ XS,saidOf (L.map (·.bs))=XS:=⟨_,rfl⟩
 have HXX:=hol hXX
 rw [hXX] at hmax
 rw [hXX]
 clear hXX
 have hbx:Below w.heap.size w (w.alloc (.cells #[.slice pP nP cP,.slice pQ nQ cQ,.slice pG nG cG,.slice pH nH cH] 30)):=bal
 have HBX0:=hol (Box4.made 30 w (.slice pP nP cP) (.slice pQ nQ cQ) (.slice pG nG cG) (.slice pH nH cH))
 obtain ⟨wa,hwa⟩:∃ wa,w.alloc (.cells #[.slice pP nP cP,.slice pQ nQ cQ,.slice pG nG cG,.slice pH nH cH] 30)=wa:=⟨_,rfl⟩
 rw [hwa] at hbx HBX0
 have HWA:=hol hbx
 have HQ0:=hol (hQ.below hbx)
 have HP:Hold (PartsIn wa p n c L):=⟨hL.below hbx⟩
 have HZ:Hold (Whole0 L):=⟨hz⟩
 have hpl:Hold (n=L.length):=⟨hL.len⟩
 have HMx:=hol hmax
 have mp:=hL.max
 have mcp:=hL.cap
 clear hL hz hmax hQ hbx
 have HO0:Hold (Own (wa.alloc (.cells #[] 5)) wa.heap.size (.slice (some ⟨wa.heap.size,0,none⟩) 0 0) []):=⟨Own.lit wa [] (by decide)⟩
 have HB0:Hold (Below wa.heap.size wa (wa.alloc (.cells #[] 5))):=⟨(Below.refl _ _).alloc (Nat.le_refl _) _⟩
 go_enter Tryz.func105,Tryz.ntmps105
 go_wp2
 go_loopw [5,7,8,9,13] (fun x _ _ _ i wr=>∃ (k:Nat) (v:Value),k <= n /\ i=.int .i64 k /\ v=x /\ Hold (Below wa.heap.size wa wr) /\ Hold (Own wr wa.heap.size v (saidOf ((L.take k).map (·.bs))))) (fun _ _ _ _ i _=>n - (intOf i).toNat)
 case atStart=>exact ⟨0,_,by omega,rfl,rfl,HB0,HO0⟩
 case round =>
  obtain ⟨k,v,hk,rfl,rfl,HB,HO⟩:=hrel
  have hzr:=HB.out.size
  by_cases hkn:k < n
  ·obtain ⟨b,off,rfl,hb,hc⟩:=HP.out.cells (by omega)
   obtain ⟨P,hP⟩:∃ P,L[k]? = some P:=⟨_,List.getElem?_eq_getElem (by have:=hpl.out; omega)⟩
   have HOK:Hold (PartOk wr P):=⟨(HP.out.ok k P hP).below HB.out⟩
   have HZP:Hold (P.p=none -> P.c=0):=⟨HZ.out P (List.mem_of_getElem? hP)⟩
   have hck:wr.cell? ⟨b,off + k,none⟩=some (.slice P.p P.n P.c):=by
    rw [(bcell HB.out).1 _ _ hb]; exact hc k P hP
   have HPk:=hol hP
   have HTk:=hol (saidOf_take hP)
   have HLe:=hol (saidOf_le L (k + 1))
   have HPn:Hold (P.n=P.bs.length):=⟨HOK.out.row.len⟩
   clear hc hP
   obtain ⟨XS,hXS⟩:∃ XS,saidOf ((L.take k).map (·.bs))=XS:=⟨_,rfl⟩
   rw [hXS] at HO HTk
   have HXl:Hold (XS.length + 8 + P.n <= 1000000):=⟨by
    have h1:=HLe.out
    rw [HTk.out,List.length_append,List.length_append,le8_length,HXX.out] at h1
    have:=HMx.out
    have:=HPn.out
    omega⟩
   clear hXS
   obtain ⟨wc,hwc⟩:∃ x,x=wr:=⟨_,rfl⟩
   subst hwc
   have hkn':(k:Int) < n:=by omega
   go_wp2
   go_loopw [5,8,9] (fun x nv i wr=>∃ (j:Nat) (v:Value),j <= 8 /\ i=.int .i64 j /\ nv=.int .i64 ((P.n / 256 ^ j:Nat):Int) /\ v=x /\ Hold (Below wa.heap.size wa wr) /\ Hold (PartOk wr P) /\ Hold (Own wr wa.heap.size v (XS ++ (le8 P.n).take j))) (fun _ _ i _=>8 - (intOf i).toNat)
   case atStart=>exact ⟨0,v,by omega,rfl,by rw [Nat.pow_zero,Nat.div_one],rfl,HB,HOK,⟨by rw [List.take_zero,List.append_nil]; exact HO.out⟩⟩
   case round =>
    obtain ⟨j,v,hj,rfl,rfl,rfl,HBj,HKj,HOj⟩:=hrel
    by_cases hj8:j < 8
    ·obtain ⟨M,hM⟩:∃ M,P.n / 256 ^ j=M:=⟨_,rfl⟩
     have HM:Hold (P.n / 256 ^ (j + 1)=M / 256):=⟨by rw [Nat.pow_succ,<- Nat.div_div_eq_div_mul,hM]⟩
     have HT8:Hold ((le8 P.n).take (j + 1)=(le8 P.n).take j ++ [M % 256]):=⟨by rw [le8_take P.n hj8,hM]⟩
     have HMl:Hold (M <= P.n):=⟨by rw [<- hM]; exact Nat.div_le_self _ _⟩
     rw [hM]
     obtain ⟨R,hR⟩:∃ R,M % 256=R:=⟨_,rfl⟩
     have hmod:(M:Int).tmod 256=((R:Nat):Int):=by rw [Int.tmod_eq_emod_of_nonneg (by omega),<- hR]; simp
     have hdiv:(M:Int).tdiv 256=((M / 256:Nat):Int):=by rw [Int.tdiv_eq_ediv_of_nonneg (by omega)]; simp
     have hR2:R < 256:=by rw [<- hR]; exact Nat.mod_lt _ (by decide)
     have hcv:IntKind.u8.wrap ((R:Nat):Int)=R:=IntWalk.u8_in _ (by omega)
     rw [hR] at HT8
     have hj8':(j:Int) < 8:=by omega
     have HWr:Hold (wrap64 ((M:Int) / 256)=((M / 256:Nat):Int)):=⟨by
      have e:((M:Int) / 256)=((M / 256:Nat):Int):=by simp
      have h1:=HMl.out
      have h2:=HXl.out
      rw [e]
      exact IntWalk.wrap64_in ((M / 256:Nat):Int) (by omega)⟩
     have hrow:=lit_row wr [R] (by simp)
     have hb1:Below wr.heap.size wr (wr.alloc (.cells #[.int .u8 (R:Nat)] 5)):=bal
     have hrow':RowIn (wr.alloc (.cells #[.int .u8 (R:Nat)] 5)) .u8 (some ⟨wr.heap.size,0,none⟩) 1 1 [R]:=hrow
     obtain ⟨wd,hwd⟩:∃ wd,wr.alloc (.cells #[.int .u8 (R:Nat)] 5)=wd:=⟨_,rfl⟩
     rw [hwd] at hb1 hrow'
     have HOd:=hol (HOj.out.belowS hb1)
     have HKd:=hol (HKj.out.below hb1)
     have HRd:=hol hrow'
     have HBd:=hol (bstep HBj.out hb1)
     have HSz:=hol HBd.out.size
     have HLn:Hold ((XS ++ (le8 P.n).take j).length + 1 <= 140737488355328):=⟨by
      rw [List.length_append,List.length_take,le8_length]
      have:=HXl.out
      omega⟩
     clear hM hR hrow hrow' hb1
     go_wp2_with (at_builtin; refine wpList_app rfl _ _ rfl rfl HOd.out rfl HRd.out (fun h=>by cases h) HLn.out HSz.out ?_; intro v1 w3 ho1 hg1; refine Paused.out ?_)
     refine ⟨?_⟩
     rw [List.append_assoc,<- HT8.out] at ho1
     have HO1:=hol ho1
     have HB3:=hol (HBd.out.trans (grown_below hg1 HSz.out HOd.out.ge))
     have HK3:Hold (PartOk w3 P):=⟨(HP.out.ok k P HPk.out).below HB3.out⟩
     clear ho1 hg1
     go_wp2
     go_roundw
     case rel=>exact ⟨j + 1,_,by omega,by go_num,by rw [HM.out,HWr.out],rfl,HB3,HK3,HO1⟩
     case measure=>simp [intOf]; omega
    ·obtain rfl:j=8:=by omega
     have htk:(le8 P.n).take 8=le8 P.n:=List.take_of_length_le (by rw [le8_length]; exact Nat.le_refl _)
     rw [htk] at HOj
     have hj8':¬ (8:Int) < 8:=by omega
     have HSz:=hol HBj.out.size
     have HLn:Hold ((XS ++ le8 P.n).length + P.n <= 140737488355328):=⟨by
      rw [List.length_append,le8_length]
      have:=HXl.out
      omega⟩
     clear htk
     go_wp2_with (at_builtin; refine wpList_app rfl _ _ rfl rfl HOj.out rfl HKj.out.row HZP.out HLn.out HSz.out ?_; intro v1 w3 ho1 hg1; refine Paused.out ?_)
     refine ⟨?_⟩
     rw [List.append_assoc,HPn.out,<- HTk.out] at ho1
     have HO1:=hol ho1
     have HB3:=hol (HBj.out.trans (grown_below hg1 HSz.out HOj.out.ge))
     clear ho1 hg1
     go_wp2
     go_roundw
     case rel=>exact ⟨k + 1,_,by omega,by go_num,rfl,HB3,HO1⟩
     case measure=>simp [intOf]; omega
  ·obtain rfl:k=n:=by omega
   have hkn':¬ (k:Int) < k:=by omega
   obtain ⟨XS,hXS⟩:∃ XS,XX=XS:=⟨_,rfl⟩
   have HOf:Hold (Own wr wa.heap.size v XS):=⟨by
    have h:=HO.out
    rw [List.take_of_length_le (by have:=hpl.out; omega),HXX.out,hXS] at h
    exact h⟩
   have HXn0:Hold (XS.length <= 1000000):=⟨by rw [<- hXS]; exact HMx.out⟩
   have H8:Hold (Bytes8 XS):=⟨by
    rw [<- hXS,<- HXX.out]
    exact saidOf_bytes fun P hP=>by
     obtain ⟨i,hi⟩:=List.getElem?_of_mem hP
     exact (HP.out.ok i P hi).bytes⟩
   subst hXS
   obtain ⟨nx,hnx⟩:∃ nx,XX.length=nx:=⟨_,rfl⟩
   obtain ⟨p5,c5,rfl,hr5,_,hz5,_⟩:=HOf.out.elim
   rw [hnx] at hr5 HXn0
   rw [hnx]
   have HX:=hol hr5
   have HZ5:=hol hz5
   have HXn:Hold (nx <= 1000000):=HXn0
   have HBX:=hol (HBX0.out.below HB.out HBX0.out.lt)
   have HQ:=hol (HQ0.out.below HB.out)
   have HBT:=hol (bstep HWA.out HB.out)
   have HS256:Hold (blen (be (sha XX)) <= 800000):=⟨by have:=be_blen (sha_bytes XX); rw [sha_length] at this; omega⟩
   clear hr5 hz5 hnx
   go_wp2
   refine wp_region_duties (by kernel_rfl) (by kernel_rfl)
    [some (.slice p5 nx c5),none,none,some (.pointer (some ⟨w.heap.size,1,none⟩)),some (.slice pQ nQ cQ),none,none]
    [false,true,true,false,false,true,true] rfl
    (fun w1 w2=>Below w1.heap.size w1 w2)
    (fun _ w'=>Below wr.heap.size wr w')
    (fun i v w'=>match i with
     | 1=>OwnIs 0 (sha XX) v w'
     | 2=>RBits (be (sha XX)) v w'
     | 5=>RBits (be (sha XX) % Q) v w'
     | 6=>RBits (be (sha XX) % Q) v w'
     | _=>True)
    ?_ (Below.refl _ _).drew ?_ ?_
   ·intro i v w1 w2 hf hb
    split at hf
    ·exact hf.below hb
    ·exact hf.below hb
    ·exact hf.below hb
    ·exact hf.below hb
    ·trivial
   ·simp only [Duties,Nat.reduceAdd]
    refine ⟨?_,?_,?_,?_,?_,?_,?_,trivial⟩
    all_goals intro D sp w' hD hW hdp hbx'
    case refine_2 =>
     (with_reducible refine asked_call (w1:=w') (f := 151) (args:=#[.slice p5 nx c5]) ?_ ?_ ?_)
     ·simp [Region.wanted,yielded,Act.put,go_sem]
     ·simp [Act.eval,Act.put,go_sem]
     ·refine (refsum_calls w' p5 nx c5 XX (HX.out.below hbx') H8.out HZ5.out HXn.out).mono ?_
      rintro en w9 ⟨u,rfl,hu,hb⟩
      have hu:=hu.zero
      exact ⟨u,rfl,hb,hu,bstep hbx' hb⟩
    case refine_3 =>
     have k1:OwnIs 0 (sha XX) (sp 1) w':=(hdp 1 (mq (by kernel_rfl))).2
     (with_reducible refine k1.elim (fun p1 c1 hv1 hr1 _ _=>?_))
     rw [sha_length] at hr1 hv1
     (with_reducible refine asked_call (w1:=w') (f := 79) (args:=#[.slice p1 32 c1]) ?_ ?_ ?_)
     ·simp only [Region.wanted]
     ·simp [Act.eval,Act.put,go_sem,hv1]
     ·refine (of_calls w' p1 32 c1 (sha XX) hr1 (sha_bytes _) (by omega)).mono ?_
      rintro en w9 ⟨q,m,d,rfl,hu,hb,_⟩
      exact ⟨_,rfl,hb,RBits.of hu,bstep hbx' hb⟩
    case refine_5 =>
     have c0:=(HBX.out.below hbx' HBX.out.lt).cells.2.1
     with_reducible refine asked_pl ?_ ?_
     all_goals simp [Region.wanted,yielded,execOp,Act.eval,Act.put,go_sem,c0]
    case refine_6 =>
     have k2:RBits (be (sha XX)) (sp 2) w':=(hdp 2 (mq (by kernel_rfl))).2
     (with_reducible refine asked_call (w1:=w') (f := 72) (args:=#[sp 2,.slice pQ nQ cQ]) ?_ ?_ ?_)
     ·simp [Region.wanted,yielded,Act.put,go_sem]
     ·simp [Act.eval,Act.put,go_sem]
     ·refine (dof_fit k2 (RBits.of (HQ.out.below hbx')) (by have:=HS256.out; omega) lQ hQ0).mono ?_
      rintro en w9 ⟨u,rfl,hu,hb⟩
      exact ⟨u,rfl,hb,hu,bstep hbx' hb⟩
    case refine_7 =>
     have k5:RBits (be (sha XX) % Q) (sp 5) w':=(hdp 5 (mq (by kernel_rfl))).2
     (with_reducible refine asked_value (w1:=w') (v:=sp 5) ?_ ?_ ?_)
     ·simp [Region.wanted,yielded,Act.put,go_sem]
     ·simp [execOp,Act.eval,Act.put,go_sem]
     ·exact ⟨Below.refl _ _,k5,hbx'⟩
    all_goals ((with_reducible refine asked_pl ?_ ?_); all_goals first | (simp only [Region.wanted]; done) | simp [Region.wanted,yielded,execOp,Act.eval,Act.put,go_sem])
   ·intro sp w7 hsp hbx'
    have k6:RBits (be (sha XX) % Q) (sp 6) w7:=hsp 6 rfl
    have HK:=hol k6
    have HBe:=hol (bstep HBT.out hbx')
    clear hsp hbx' k6
    simp only [frameOf,Nat.reduceAdd]
    generalize sp 1=y1,sp 2=y2,sp 5=y5,sp 6=y6 at *
    go_simp
    go_wp2
    go_ret
    exact ⟨_,rfl,HK.out,HBe.out⟩
theorem be_least (N:Nat):be (beOf N (bsize N))=N:=by
 unfold be beOf
 rw [List.reverse_reverse,le_leOf,Nat.mod_eq_of_lt (bsize_lt N)]
theorem num9_calls {w:World} {v:Value} {e N:Nat} (h:Fit e N v w) (he:e <= 200) :
  Calls Tryz.prog 31 #[v] w fun en w'=>∃ x,en=.returned x /\ RBits N x w' /\ Below w.heap.size w w':=by
 obtain ⟨p,n,c,rfl,h1,h2⟩:=h
 have hbx:=Box1.mk1 w (.slice p n c) 36
 have HF:=hol ((Fit.of h1 h2).below hbx.bel)
 have HB:=hol hbx.bel
 have hl:Hold (bsize N <= 1000):=⟨by
  have:blen N <= 32 * e:=(blen_le N _).2 (by
   have:B32 e=2 ^ (32 * e):=by unfold B32; rw [Nat.pow_mul]
   rw [<- this]; exact h2)
  unfold bsize
  omega⟩
 clear h1 h2 hbx
 go_enter Tryz.func31,Tryz.ntmps31
 go_wp2_with fail
 refine (least_fit HF.out (by omega)).mono ?_
 rintro en w1 ⟨_,rfl,⟨q,m,d,rfl,hr⟩,b1⟩
 have HR:Hold (RowIn w1 .u8 q m d (beOf N (bsize N))):=⟨⟨hr.len,hr.cap,hr.max,fun _=>hr⟩⟩
 have HM:Hold (m <= 1000):=⟨by rw [hr.len,beOf_length]; exact hl.out⟩
 have HB1:=hol (bstep HB.out b1)
 clear hr b1
 go_wp2_with fail
 refine (of_calls w1 q m d _ HR.out (leOf_bytes N _).reverse HM.out).mono ?_
 rintro en w2 ⟨x,y,z,rfl,hb,b2,_⟩
 rw [be_least] at hb
 have HN:=hol hb
 have HB2:=hol (bstep HB1.out b2)
 clear hb b2
 go_wp2
 go_ret
 exact ⟨_,rfl,RBits.of HN.out,HB2.out⟩
theorem kept_four {t:TypeId} {w:World} {b:Nat} {x0 x1 x2 x3:Option Addr × Nat × Nat} (h:Box4 t w b (.slice x0.1 x0.2.1 x0.2.2) (.slice x1.1 x1.2.1 x1.2.2) (.slice x2.1 x2.2.1 x2.2.2) (.slice x3.1 x3.2.1 x3.2.2)) (u0 u1 u2 u3:Value) :
  KeptS w ((((w.setCell ⟨b,0,none⟩ u0).setCell ⟨b,1,none⟩ u1).setCell ⟨b,2,none⟩ u2).setCell ⟨b,3,none⟩ u3):=by
 have h0:=h.at_
 have k0:=KeptS.set h.cells.1 u0
 have k1:KeptS (w.setCell ⟨b,0,none⟩ u0) ((w.setCell ⟨b,0,none⟩ u0).setCell ⟨b,1,none⟩ u1):=KeptS.set (p:=x1.1) (n:=x1.2.1) (c:=x1.2.2) (by simp [World.cell?,World.setCell,Array.getElem?_modify,h0]) u1
 have k2:KeptS ((w.setCell ⟨b,0,none⟩ u0).setCell ⟨b,1,none⟩ u1) (((w.setCell ⟨b,0,none⟩ u0).setCell ⟨b,1,none⟩ u1).setCell ⟨b,2,none⟩ u2):=KeptS.set (p:=x2.1) (n:=x2.2.1) (c:=x2.2.2) (by simp [World.cell?,World.setCell,Array.getElem?_modify,h0]) u2
 have k3:KeptS (((w.setCell ⟨b,0,none⟩ u0).setCell ⟨b,1,none⟩ u1).setCell ⟨b,2,none⟩ u2) ((((w.setCell ⟨b,0,none⟩ u0).setCell ⟨b,1,none⟩ u1).setCell ⟨b,2,none⟩ u2).setCell ⟨b,3,none⟩ u3):=KeptS.set (p:=x3.1) (n:=x3.2.1) (c:=x3.2.2) (by simp [World.cell?,World.setCell,Array.getElem?_modify,h0]) u3
 exact ((k0.trans k1).trans k2).trans k3
structure RefVal (P Q G H:Nat) (v:Value) (w:World):Prop where
 ex:∃ p0 n0 c0 p1 n1 c1 p2 n2 c2 p3 n3 c3,v=.agg #[.slice p0 n0 c0,.slice p1 n1 c1,.slice p2 n2 c2,.slice p3 n3 c3] /\ BitsAt w p0 n0 c0 P /\ BitsAt w p1 n1 c1 Q /\ BitsAt w p2 n2 c2 G /\ BitsAt w p3 n3 c3 H
theorem RefVal.below {P Q G H:Nat} {v:Value} {w w':World} (h:RefVal P Q G H v w) (hb:Below w.heap.size w w'):RefVal P Q G H v w':=by
 obtain ⟨p0,n0,c0,p1,n1,c1,p2,n2,c2,p3,n3,c3,h0,h1,h2,h3,h4⟩:=h.ex
 exact ⟨p0,n0,c0,p1,n1,c1,p2,n2,c2,p3,n3,c3,h0,h1.below hb,h2.below hb,h3.below hb,h4.below hb⟩
structure FieldVal (Q:Nat) (v:Value) (w:World):Prop where
 ex:∃ r,v=.pointer (some ⟨r,0,none⟩) /\ Ring w r Q 33
section
variable {At:World -> Nat -> Nat -> Nat -> Nat -> Nat -> Prop} {ready:World -> Prop}
end
theorem extract_calls (w:World) (pk:Option Addr) (nk ck:Nat) (salt:List Nat) (ps:Option Addr) (ns cs:Nat) (secret:List Nat) (hT:Tabs w) (hK:PartOk w ⟨pk,nk,ck,salt⟩) (hS:PartOk w ⟨ps,ns,cs,secret⟩) :
  Calls Tryz.prog 207 #[.slice pk nk ck,.slice ps ns cs] w (GivesSum (tagged salt secret) w):=by
 have hb:Below w.heap.size w (w.alloc (.cells #[.slice ps ns cs] 70)):=bal
 have hz:=hb.size
 have HC:=hol (macTag_calls (w.alloc (.cells #[.slice ps ns cs] 70)) pk nk ck salt _ _ _ [⟨ps,ns,cs,secret⟩] (hT.below hb hT.size) (hK.below hb).row hK.bytes (parts1 w ⟨ps,ns,cs,secret⟩ hS))
 have HB:=hol hb
 clear hT hK hS hb
 go_enter Tryz.func207,Tryz.ntmps207
 go_wp2_with fail
 refine HC.out.mono ?_
 rintro e w1 ⟨q,rfl,hq,hb1,hk⟩
 rw [whole_one] at hk
 go_wp2
 go_ret
 exact ⟨q,rfl,by omega,bstepS HB.out hb1,hk⟩
theorem derive_calls (w:World) (pk:Option Addr) (nk ck:Nat) (salt:List Nat) (ps:Option Addr) (ns cs:Nat) (secret:List Nat) (pi:Option Addr) (ni ci:Nat) (info:List Nat) (n:Nat) (hT:Tabs w) (hK:PartOk w ⟨pk,nk,ck,salt⟩) (hS:PartOk w ⟨ps,ns,cs,secret⟩) (hI:PartOk w ⟨pi,ni,ci,info⟩) (hn:n <= 8160) :
  Calls Tryz.prog 189 #[.slice pk nk ck,.slice ps ns cs,.slice pi ni ci,.int .i64 n] w (GivesExp n ((exps (hmac salt secret) info ((n + 31) / 32)).take n) w):=by
 have HC:=hol (extract_calls w pk nk ck salt ps ns cs secret hT hK hS)
 have HI:Hold (PartOk w ⟨pi,ni,ci,info⟩):=⟨hI⟩
 have HT:Hold (Tabs w):=⟨hT⟩
 clear hT hK hS hI
 go_enter Tryz.func189,Tryz.ntmps189
 go_wp2_with fail
 refine HC.out.mono ?_
 rintro e w1 ⟨q,rfl,hq,hb1,hk⟩
 have hr:RowIn w1 .u8 (some ⟨q,0,none⟩) 32 32 (hmac salt secret):=⟨(hmac_length _ _).symm,Nat.le_refl _,by omega,fun _=>hk.row (hmac_length _ _).symm (Nat.le_refl _) (by omega)⟩
 go_wp2_with fail
 refine (expand_calls w1 _ _ _ (hmac salt secret) pi ni ci info n (HT.out.below hb1 HT.out.size) hr (hmac_bytes _ _) (HI.out.below hb1) hn).mono ?_
 rintro e w2 ⟨p,rfl,hr2,hn2,hb2,hz2⟩
 have hz:=hb1.size
 have HE:=hol hr2
 have HN:Hold (New w.heap.size p /\ (p=none -> n=0)):=⟨hn2.mono hz,hz2⟩
 clear hr2 hn2 hz2 hr hk
 go_wp2
 exact bodyPost_ret (v:=.tuple #[.slice p n n,.int .i64 0]) (by simp [results,Tryz.results189,go_sem]) rfl ⟨p,rfl,HE.out,HN.out.1,bstepS hb1 hb2,HN.out.2⟩
theorem told_prime {N:Nat} {l:List StepN} (h:Told N l):Prime N:=by
 rcases h with h | ⟨h,s,hs,rfl⟩
 ·exact h.prime
 ·exact chain_prime l [] (fun x hx=>by cases hx) h s hs
def hNum (seed:List Nat) (P c:Nat):Nat:=be ((exps (hmac [] seed) [104,c] ((bsize P + 8 + 31) / 32)).take (bsize P + 8))
def firstH (f:Nat -> Nat):Nat -> Nat -> Option Nat
 | 0,_=>none
 | k + 1,c=>if 1 < f c then some (f c) else firstH f k (c + 1)
def RightG (P Q G:Nat):Prop:=(P - 1) % Q=0 /\ 64 < Q /\ 1 < G /\ G < P /\ G ^ Q % P=1
open Classical in
noncomputable def newSpec (P Q G:Nat) (seed:List Nat) (l:List StepN):Nat × Nat :=
 if Told P l /\ Told Q l then
  if RightG P Q G then
   match firstH (fun c=>hNum seed P c ^ ((P - 1) / Q) % P) 256 0 with
   | some h=>(0,h)
   | none=>(6,0)
  else (1,0)
 else (8,0)
theorem dsize_calls {w:World} {v:Value} {P Q G H:Nat} (h:RefVal P Q G H v w) (hl:blen P <= 100000) :
  Calls Tryz.prog 152 #[v] w fun e w'=>e=.returned (.int .i64 (bsize P:Nat)) /\ Below w.heap.size w w':=by
 obtain ⟨p0,n0,c0,p1,n1,c1,p2,n2,c2,p3,n3,c3,rfl,h0,_⟩:=h.ex
 have hn:=bits_len h0
 have hbx:Below w.heap.size w (w.alloc (.cells #[.slice p0 n0 c0,.slice p1 n1 c1,.slice p2 n2 c2,.slice p3 n3 c3] 30)):=bal
 have HBX:=hol (Box4.made 30 w (.slice p0 n0 c0) (.slice p1 n1 c1) (.slice p2 n2 c2) (.slice p3 n3 c3))
 obtain ⟨wa,hwa⟩:∃ wa,w.alloc (.cells #[.slice p0 n0 c0,.slice p1 n1 c1,.slice p2 n2 c2,.slice p3 n3 c3] 30)=wa:=⟨_,rfl⟩
 rw [hwa] at hbx HBX
 have HB:=hol hbx
 have HS:Hold (bsize P=(n0 + 7) / 8):=⟨by unfold bsize; rw [hn]⟩
 have hn0:n0 <= 100000:=by omega
 have hdiv:((n0:Int) + 7).tdiv 8=(((n0 + 7) / 8:Nat):Int):=by rw [Int.tdiv_eq_ediv_of_nonneg (by omega)]; omega
 have c0':=HBX.out.cells.1
 clear h h0 hn hbx hl
 go_enter Tryz.func152,Tryz.ntmps152
 go_wp2
 go_ret
 exact ⟨by rw [HS.out]; simp,HB.out⟩
open Classical in
theorem dmember_calls {w:World} {v:Value} {P Q G H A:Nat} {p:Option Addr} {n c:Nat} (h:RefVal P Q G H v w) (hA:BitsAt w p n c A) (lP:blen P <= 100000) (lQ:blen Q <= 100000) (lA:blen A <= 100000) (hP:0 < P) :
  Calls Tryz.prog 103 #[v,.slice p n c] w fun e w'=>e=.returned (.bool (decide (0 < A /\ A < P /\ A ^ Q % P=1))) /\ Below w.heap.size w w':=by
 obtain ⟨p0,n0,c0,p1,n1,c1,p2,n2,c2,p3,n3,c3,rfl,h0,h1,_,_⟩:=h.ex
 have hn:=bits_len hA
 have hbx:Below w.heap.size w (w.alloc (.cells #[.slice p0 n0 c0,.slice p1 n1 c1,.slice p2 n2 c2,.slice p3 n3 c3] 30)):=bal
 have HBX:=hol (Box4.made 30 w (.slice p0 n0 c0) (.slice p1 n1 c1) (.slice p2 n2 c2) (.slice p3 n3 c3))
 obtain ⟨wa,hwa⟩:∃ wa,w.alloc (.cells #[.slice p0 n0 c0,.slice p1 n1 c1,.slice p2 n2 c2,.slice p3 n3 c3] 30)=wa:=⟨_,rfl⟩
 rw [hwa] at hbx HBX
 have HB:=hol hbx
 have HA:=hol (hA.below hbx)
 have HP:=hol (h0.below hbx)
 have HQ:=hol (h1.below hbx)
 have hcap:=hA.cap
 have hcm:=hA.max
 obtain ⟨ANS,hANS⟩:∃ X,decide (0 < A /\ A < P /\ A ^ Q % P=1)=X:=⟨_,rfl⟩
 have HANS:=hol hANS
 rw [hANS]
 have c0':=HBX.out.cells.1
 have HNA:=hol hn
 clear h h0 h1 hA hn hbx hANS
 by_cases hA0:A=0
 ·have hn0:n=0:=by rw [HNA.out,hA0]; rfl
  have HF:Hold (ANS=false):=⟨by rw [<- HANS.out]; exact decide_eq_false fun h=>by omega⟩
  subst hn0
  clear hA0
  go_enter Tryz.func103,Tryz.ntmps103
  go_wp2
  go_ret
  exact ⟨by rw [HF.out]; rfl,HB.out⟩
 have hn0:(0:Int) < n:=by
  have:=blen_pos (show 0 < A by omega)
  have:=HNA.out
  omega
 obtain ⟨K,hK⟩:∃ K,cmpI A P=K:=⟨_,rfl⟩
 have HK:=hol hK
 have HA0:Hold (0 < A):=⟨by omega⟩
 clear hK hA0
 go_enter Tryz.func103,Tryz.ntmps103
 go_wp2_with fail
 refine (rcmp_fit (RBits.of HA.out) (RBits.of HP.out) (by omega) (by omega)).mono ?_
 rintro en w1 ⟨_,rfl,rfl,hb1⟩
 rw [HK.out]
 have HB1:=hol hb1
 have HX1:=hol (HBX.out.below hb1 HBX.out.lt)
 clear hb1 c0'
 by_cases hlt:A < P
 ·have hK0:K < 0:=by rw [<- HK.out,cmpI_lt hlt]; decide
  have HLt:=hol hlt
  have c1':=HX1.out.cells.2.1
  have c0':=HX1.out.cells.1
  clear hlt
  go_wp2_with fail
  refine (dexp_fit (RBits.of (HA.out.below HB1.out)) (RBits.of (HQ.out.below HB1.out)) (RBits.of (HP.out.below HB1.out)) lA lQ lP hP).mono ?_
  rintro en w2 ⟨_,rfl,⟨px,nx,cx,rfl,hx⟩,hb2⟩
  have HB2:=hol (bstep HB1.out hb2)
  have HX:=hol hx
  clear hb2 hx c0' c1'
  go_wp2_with fail
  refine (small_calls 1 w2 (by decide)).mono ?_
  rintro en w3 ⟨p3,n3,c3,rfl,hn3,hb3,_⟩
  have HB3:=hol (bstep HB2.out hb3)
  have HX3:=hol (HX.out.below hb3)
  have HN3:=hol hn3
  obtain ⟨Y,hY⟩:∃ Y,A ^ Q % P=Y:=⟨_,rfl⟩
  rw [hY] at HX3
  have HYl:Hold (blen Y <= 100000):=⟨by rw [<- hY]; exact Nat.le_trans (blen_mono (Nat.le_of_lt (Nat.mod_lt _ hP))) lP⟩
  have HF:Hold (ANS=decide (Y=1)):=⟨by
   rw [<- HANS.out,<- hY]
   exact decide_eq_decide.2 ⟨fun h=>h.2.2,fun h=>⟨HA0.out,HLt.out,h⟩⟩⟩
  clear hb3 hn3 hY
  go_wp2_with fail
  refine (rcmp_fit (RBits.of HX3.out) (RBits.of HN3.out) (by have:=HYl.out; omega) (by have:blen 1 <= 1:=(blen_le 1 1).2 (by decide); omega)).mono ?_
  rintro en w4 ⟨_,rfl,rfl,hb4⟩
  have HB4:=hol (bstep HB3.out hb4)
  have e0:((cmpI Y 1:Int) == 0)=decide (Y=1):=by
   by_cases hnm:Y=1
   ·simp [hnm,cmpI_zero.2]
   ·have:cmpI Y 1 ≠ 0:=fun h0=>hnm (cmpI_zero.1 h0)
    simp [hnm,this]
  have HE:=hol e0
  generalize cmpI Y 1=K2 at *
  have HBe:=hol (bstep HB.out HB4.out)
  clear e0 hb4
  go_wp2
  go_ret
  exact ⟨by rw [HF.out,<- HE.out]; rfl,HBe.out⟩
 ·have hK0:¬ K < 0:=by
   rw [<- HK.out]
   rcases Nat.lt_or_ge P A with h | h
   ·have:=cmpI_pos.2 h; omega
   ·rw [Nat.le_antisymm h (by omega),cmpI_self]; decide
  have HF:Hold (ANS=false):=⟨by rw [<- HANS.out]; exact decide_eq_false fun h=>hlt h.2.1⟩
  have HBe:=hol (bstep HB.out HB1.out)
  clear hlt
  go_wp2
  go_ret
  exact ⟨by rw [HF.out]; rfl,HBe.out⟩
theorem be_append (xs ys:List Nat):be (xs ++ ys)=be xs * B8 ys.length + be ys:=by
 unfold be
 rw [List.reverse_append,le_append,List.length_reverse,Nat.mul_comm (B8 _),Nat.add_comm]
theorem foldl_be:∀ (bs:List Nat) (a:Nat),bs.foldl (fun n x=>n * 256 + x) a=a * B8 bs.length + be bs
 | [],a=>by simp [be,le,B8_zero]
 | x :: xs,a=>by
  rw [List.foldl_cons,foldl_be xs,show x :: xs=[x] ++ xs from rfl,be_append,List.length_append,List.length_singleton,Nat.add_comm 1,B8_succ]
  have h1:be [x]=x:=by simp [be,le]
  rw [h1,Nat.add_mul,Nat.mul_assoc,Nat.add_assoc]
theorem numB_be (bs:List Nat):numB bs=be bs:=by
 unfold numB; rw [foldl_be]; simp
def prodN:List (Nat × Nat) -> Nat
 | []=>1
 | (b,e) :: l=>b ^ e * prodN l
theorem mprod_mod (P:Nat):∀ (l:List (Nat × Nat)) (x:Nat),mprod P x l % P=x * prodN l % P
 | [],x=>by simp [mprod,prodN]
 | (b,e) :: l,x=>by
  rw [mprod,mprod_mod P l,prodN,Nat.mod_mul_mod,Nat.mul_assoc x (b ^ e % P),<- Nat.mul_mod_mod x (b ^ e % P * prodN l),Nat.mod_mul_mod,Nat.mul_mod_mod]
theorem mprod_val {P:Nat} (hP:2 <= P) (l:List (Nat × Nat)):mprod P 1 l=prodN l % P:=by
 have:=mprod_mod P l 1
 rw [Nat.mod_eq_of_lt (mprod_lt hP l 1 (by omega)),Nat.one_mul] at this
 exact this
theorem prodN_snoc:∀ (l:List (Nat × Nat)) (b e:Nat),prodN (l ++ [(b,e)])=prodN l * b ^ e
 | [],b,e=>by simp [prodN]
 | (c,d) :: l,b,e=>by rw [List.cons_append,prodN,prodN_snoc l,prodN,Nat.mul_assoc]
def cutE (i:Nat) (l:List (Nat × Nat)):List (Nat × Nat):=l.map fun p=>(p.1,p.2 / 2 ^ i)
def bitE (i:Nat) (l:List (Nat × Nat)):List (Nat × Nat):=l.map fun p=>(p.1,p.2 / 2 ^ i % 2)
theorem cutE_zero (l:List (Nat × Nat)):cutE 0 l=l:=by simp [cutE]
theorem prod_cut (i:Nat):∀ l:List (Nat × Nat),prodN (cutE i l)=prodN (cutE (i + 1) l) * prodN (cutE (i + 1) l) * prodN (bitE i l)
 | []=>rfl
 | (b,e) :: l=>by
  have h1:e / 2 ^ i=e / 2 ^ (i + 1) + e / 2 ^ (i + 1) + e / 2 ^ i % 2:=by
   rw [Nat.pow_succ,<- Nat.div_div_eq_div_mul]; omega
  have h2:b ^ (e / 2 ^ i)=b ^ (e / 2 ^ (i + 1)) * b ^ (e / 2 ^ (i + 1)) * b ^ (e / 2 ^ i % 2):=by
   rw [<- Nat.pow_add,<- Nat.pow_add,<- h1]
  show b ^ (e / 2 ^ i) * prodN (cutE i l)=(b ^ (e / 2 ^ (i + 1)) * prodN (cutE (i + 1) l)) * (b ^ (e / 2 ^ (i + 1)) * prodN (cutE (i + 1) l)) * (b ^ (e / 2 ^ i % 2) * prodN (bitE i l))
  rw [h2,prod_cut i l]
  ac_rfl
theorem prod_top (i:Nat):∀ l:List (Nat × Nat),(∀ p ∈ l,p.2 < 2 ^ i) -> prodN (cutE i l)=1
 | [],_=>rfl
 | (b,e) :: l,h=>by
  show b ^ (e / 2 ^ i) * prodN (cutE i l)=1
  rw [prod_top i l fun p hp=>h p (List.mem_cons_of_mem _ hp),Nat.div_eq_of_lt (h (b,e) List.mem_cons_self)]
  simp
theorem bitE_take {i:Nat} {l:List (Nat × Nat)} {k b e:Nat} (h:l[k]? = some (b,e)):bitE i (l.take (k + 1))=bitE i (l.take k) ++ [(b,e / 2 ^ i % 2)]:=by
 unfold bitE
 rw [snoc_take h,List.map_append]
 rfl
def mostN:List Nat -> Nat
 | []=>0
 | x :: l=>max (blen x) (mostN l)
theorem mostN_snoc:∀ (l:List Nat) (x:Nat),mostN (l ++ [x])=max (mostN l) (blen x)
 | [],x=>by simp [mostN]
 | y :: l,x=>by rw [List.cons_append,mostN,mostN_snoc l,mostN]; omega
theorem mostN_lt:∀ (l:List Nat) (x:Nat),x ∈ l -> x < 2 ^ mostN l
 | y :: l,x,h=>by
  rcases List.mem_cons.1 h with rfl | h
  ·exact Nat.lt_of_lt_of_le (blen_lt x) (Nat.pow_le_pow_right (by omega) (Nat.le_max_left _ _))
  ·exact Nat.lt_of_lt_of_le (mostN_lt l x h) (Nat.pow_le_pow_right (by omega) (Nat.le_max_right _ _))
theorem mostN_le {m:Nat}:∀ (l:List Nat),(∀ x ∈ l,blen x <= m) -> mostN l <= m
 | [],_=>Nat.zero_le _
 | y :: l,h=>Nat.max_le.2 ⟨h y List.mem_cons_self,mostN_le l fun x hx=>h x (List.mem_cons_of_mem _ hx)⟩
theorem der_val {P X Y s:Nat}:((X * (256 ^ s % P)) % P + Y) % P=(X * 256 ^ s + Y) % P:=by
 rw [Nat.mul_mod_mod,Nat.mod_add_mod]
theorem hNum_cut (seed:List Nat) (P c:Nat):∃ bs:List Nat,(exps (hmac [] seed) [104,c] ((8 + bsize P + 31) / 32)).take (8 + bsize P)=bs /\ bs.length=8 + bsize P /\ Bytes8 bs /\ be (bs.take 8) * 256 ^ bsize P + be (bs.drop 8)=hNum seed P c:=by
 have hl:((exps (hmac [] seed) [104,c] ((8 + bsize P + 31) / 32)).take (8 + bsize P)).length=8 + bsize P:=by
  rw [List.length_take,exps_length]; omega
 refine ⟨_,rfl,hl,(exps_bytes _ _ _).take _,?_⟩
 obtain ⟨bs,hb⟩:∃ x,(exps (hmac [] seed) [104,c] ((8 + bsize P + 31) / 32)).take (8 + bsize P)=x:=⟨_,rfl⟩
 have hh:hNum seed P c=be bs:=by rw [<- hb]; unfold hNum; rw [Nat.add_comm (bsize P) 8]
 rw [hb] at hl ⊢
 have h2:=be_append (bs.take 8) (bs.drop 8)
 rw [List.take_append_drop,List.length_drop,hl,show 8 + bsize P - 8=bsize P by omega] at h2
 rw [hh,h2]
 rfl
theorem pow_cut (A t P:Nat):(A % P) ^ t % P=A ^ t % P:=(Nat.pow_mod A t P).symm
theorem firstH_hit {f:Nat -> Nat} {k c:Nat} (h:1 < f c):firstH f (k + 1) c=some (f c):=by rw [firstH,if_pos h]
theorem gSize_eq:∀ i,i < 3 -> bsize (gP i)=gSize i
 | 0,_=>by kernel_rfl
 | 1,_=>by kernel_rfl
 | 2,_=>by kernel_rfl
 | _ + 3,h=>by omega
theorem exps_one (key info:List Nat):exps key info 1=hmac key (info ++ [1]):=by
 simp [exps,tks]
theorem hNum_nil:∀ i,i < 3 -> hNum [] (gP i) 0=numB (gBytes i)
 | 0,h=>by
  rw [numB_be]; unfold hNum; rw [gSize_eq 0 h,key_nil]
  show be ((exps _ _ 1).take 10)=_
  rw [exps_one]
  show be ((hmac _ [104,0,1]).take 10)=_
  rw [tk_nil]; rfl
 | 1,h=>by
  rw [numB_be]; unfold hNum; rw [gSize_eq 1 h,key_nil]
  show be ((exps _ _ 1).take 11)=_
  rw [exps_one]
  show be ((hmac _ [104,0,1]).take 11)=_
  rw [tk_nil]; rfl
 | 2,h=>by
  rw [numB_be]; unfold hNum; rw [gSize_eq 2 h,key_nil]
  show be ((exps _ _ 1).take 17)=_
  rw [exps_one]
  show be ((hmac _ [104,0,1]).take 17)=_
  rw [tk_nil]; rfl
 | _ + 3,h=>by omega
theorem gTimes_div:∀ i,i < 3 -> (gP i - 1) / gQ i=gTimes i
 | 0,_=>by decide
 | 1,_=>by decide
 | 2,_=>by decide
 | _ + 3,h=>by omega
theorem gRight (i:Nat) (hi:i < 3):RightG (gP i) (gQ i) (gG i):=by
 obtain ⟨h1,h2,h3,_⟩:=g_bounds i hi
 exact ⟨by rw [gTimes_eq i hi]; exact Nat.mul_mod_right _ _,h1,h2,h3,gG_member i hi⟩
theorem newSpec_g (i:Nat) (hi:i < 3):newSpec (gP i) (gQ i) (gG i) [] (gChain i)=(0,gH i):=by
 have h1:hNum [] (gP i) 0 ^ ((gP i - 1) / gQ i) % gP i=gH i:=by rw [hNum_nil i hi,gTimes_div i hi,gH_eq i hi]
 have h2:=(g_bounds i hi).2.2.2.1
 unfold newSpec
 rw [if_pos ⟨gP_told i hi,gQ_told i hi⟩,if_pos (gRight i hi)]
 have h3:firstH (fun c=>hNum [] (gP i) c ^ ((gP i - 1) / gQ i) % gP i) 256 0=some (gH i):=by
  rw [firstH_hit (by show 1 < _; rw [h1]; exact h2)]
  show some (hNum [] (gP i) 0 ^ ((gP i - 1) / gQ i) % gP i)=_
  rw [h1]
 rw [h3]
theorem gChain_few:∀ i,i < 3 -> ∀ s ∈ gChain i,s.ps.length <= 1000
 | 0,_=>by intro s hs; cases hs
 | 1,_=>by intro s hs; rcases List.mem_singleton.1 hs with rfl; simp
 | 2,_=>by
  intro s hs
  rcases List.mem_cons.1 hs with rfl | hs
  ·simp
  ·rcases List.mem_singleton.1 hs with rfl; simp
 | _ + 3,h=>by omega
theorem fit_nil (w:World):Fit 0 0 (.agg #[.slice none 0 0]) w:=Fit.of (NatAt.nil w) (by decide)
theorem modulus_nil (w:World) :
  Calls Tryz.prog 32 #[.pointer none] w fun en w'=>en=.returned (.agg #[.slice none 0 0]) /\ Below w.heap.size w w':=by
 have hb1:=NatBox.made w (.slice none 0 0)
 have c1:=hb1.cell
 have f1:=hb1.free
 have hbel:Below w.heap.size w (w.alloc (.cells #[.slice none 0 0] 36)):=bal
 go_enter Tryz.func32,Tryz.ntmps32
 go_wp2
 exact bodyPost_ret (v:=.agg #[.slice none 0 0]) (by simp [results,Tryz.results32,go_sem,c1]) rfl ⟨rfl,hbel⟩
theorem Keep.trans {B:Nat} {w1 w2 w3:World} (h:Keep B w1 w2) (k:Keep B w2 w3):Keep B w1 w3:=⟨h.bel.trans k.bel,fun p n c N x=>k.nat p n c N (h.nat p n c N x)⟩
theorem Keep.drew (B:Nat) (w:World):Keep B w w.drew:=⟨(Below.refl _ _).drew,fun _ _ _ _ k=>k.below ((Below.refl _ _).drew)⟩
structure RG (B:Nat) (wx:World) (l:List (Nat × Obj)) (w:World):Prop where
 keep:Keep B wx w
 base:B <= w.heap.size
 blk:∀ x ∈ l,w.heap[x.1]? = some x.2
theorem RG.start {B:Nat} {wx:World} {l:List (Nat × Obj)} (hB:B <= wx.heap.size) (hl:∀ x ∈ l,wx.heap[x.1]? = some x.2):RG B wx l wx.drew:=⟨Keep.drew _ _,hB,hl⟩
theorem RG.later {B:Nat} {wx:World} {l:List (Nat × Obj)} {w w':World} (h:RG B wx l w) (hb:Below w.heap.size w w'):RG B wx l w' :=
 ⟨h.keep.trans (Keep.of hb h.base),Nat.le_trans h.base hb.size,fun x hx=>by rw [hb.block x.1 (Array.getElem?_eq_some_iff.1 (h.blk x hx)).1]; exact h.blk x hx⟩
theorem RG.store {B:Nat} {wx:World} {l:List (Nat × Obj)} {w:World} {b m d:Nat} {q:Option Addr} (h:RG B wx l w) (hb:NatBox w b (.slice q m d)) (hB:B <= b) (hn:∀ x ∈ l,x.1 ≠ b) (v:Value):RG B wx l (w.setCell ⟨b,0,none⟩ v) :=
 ⟨h.keep.trans (Keep.store hb hB v),by simpa using h.base,fun x hx=>by
  have:=hn x hx
  simp [World.setCell,Array.getElem?_modify,this.symm]
  exact h.blk x hx⟩
theorem RG.of {B:Nat} {wx:World} {l:List (Nat × Obj)} {w:World} (h:RG B wx l w) {b:Nat} {o:Obj} (hm:(b,o) ∈ l):w.heap[b]? = some o:=h.blk _ hm
def StB (d:Bool) (b N:Nat) (w:World):Prop:=∃ p n c,NatBox w b (.slice p n c) /\ (d=true -> NatAt w p n c N)
theorem StB.fresh {w:World} {b N:Nat} {p:Option Addr} {n c:Nat} (h:NatBox w b (.slice p n c)):StB false b N w:=⟨p,n,c,h,fun e=>by cases e⟩
theorem StB.later {d:Bool} {b N:Nat} {w w':World} (h:StB d b N w) (hb:Below w.heap.size w w'):StB d b N w' :=
 let ⟨p,n,c,h1,h2⟩:=h
 ⟨p,n,c,h1.below hb h1.lt,fun e=>(h2 e).below hb⟩
theorem StB.put {d:Bool} {b N:Nat} {w:World} (h:StB d b N w) {p:Option Addr} {n c:Nat} (hx:NatAt w p n c N):∃ q m k,NatBox w b (.slice q m k) /\ StB true b N (w.setCell ⟨b,0,none⟩ (.slice p n c)) :=
 let ⟨q,m,k,h1,_⟩:=h
 ⟨q,m,k,h1,p,n,c,h1.set _,fun _=>hx.store h1 _⟩
def MkB (d f:Bool) (v:Value) (B N:Nat) (w:World):Prop:=B <= w.heap.size /\ (d=true -> ∃ b,v=.pointer (some ⟨b,0,none⟩) /\ B <= b /\ StB f b N w)
theorem MkB.start {v:Value} {B N:Nat} {w:World} (h:B <= w.heap.size):MkB false false v B N w:=⟨h,fun e=>by cases e⟩
theorem MkB.later {d f:Bool} {v:Value} {B N:Nat} {w w':World} (h:MkB d f v B N w) (hb:Below w.heap.size w w'):MkB d f v B N w' :=
 ⟨Nat.le_trans h.1 hb.size,fun e=>let ⟨b,h1,h2,h3⟩:=h.2 e; ⟨b,h1,h2,h3.later hb⟩⟩
theorem MkB.made {v:Value} {B N:Nat} {w:World} (h:MkB false false v B N w):MkB true false (.pointer (some ⟨w.heap.size,0,none⟩)) B N (w.alloc (.cells #[.slice none 0 0] 36)) :=
 ⟨by simp; have:=h.1; omega,fun _=>⟨_,rfl,h.1,StB.fresh (NatBox.made _ _)⟩⟩
theorem MkB.put {f:Bool} {v:Value} {B N:Nat} {w:World} (h:MkB true f v B N w) {p:Option Addr} {n c:Nat} (hx:NatAt w p n c N) :
  ∃ b q m k,v=.pointer (some ⟨b,0,none⟩) /\ B <= b /\ NatBox w b (.slice q m k) /\ MkB true true v B N (w.setCell ⟨b,0,none⟩ (.slice p n c)) :=
 let ⟨b,h1,h2,h3⟩:=h.2 rfl
 let ⟨q,m,k,h4,h5⟩:=h3.put hx
 ⟨b,q,m,k,h1,h2,h4,by simpa using h.1,fun _=>⟨b,h1,h2,h5⟩⟩
theorem RG.store_over {B B2:Nat} {wx:World} {l:List (Nat × Obj)} {w:World} {b m d:Nat} {q:Option Addr} (h:RG B wx l w) (hb:NatBox w b (.slice q m d)) (hB:B <= B2) (hB2:B2 <= b) (hl:∀ x ∈ l,x.1 < B2) (v:Value):RG B wx l (w.setCell ⟨b,0,none⟩ v) :=
 h.store hb (Nat.le_trans hB hB2) (fun x hx=>by have:=hl x hx; omega) v
def TupFit (e N:Nat) (t v:Value) (w:World):Prop:=∃ p n c,v=.tuple #[.agg #[.slice p n c],t] /\ NatAt w p n c N /\ N < B32 e
theorem TupFit.keep {e N B:Nat} {t v:Value} {w w':World} (h:TupFit e N t v w) (k:Keep B w w'):TupFit e N t v w' :=
 let ⟨p,n,c,h1,h2,h3⟩:=h
 ⟨p,n,c,h1,k.nat _ _ _ _ h2,h3⟩
theorem Ring.keep {B r M f:Nat} {w w':World} (h:Ring w r M f) (hr:r < B) (k:Keep B w w'):Ring w' r M f:=by
 obtain ⟨p,n,c,h1,h2,h3⟩:=h.at_.ex
 exact ⟨⟨p,n,c,by rw [k.bel.block r hr]; exact h1,k.nat _ _ _ _ h2,h3⟩,h.two,h.lim,h.few⟩
structure GroupAt (w:World) (b P Q G H:Nat):Prop where
 ex:∃ rp rq pg ng cg ph nh ch,w.heap[b]? = some (.cells #[.pointer (some ⟨rp,0,none⟩),.pointer (some ⟨rq,0,none⟩),.slice pg ng cg,.slice ph nh ch] 100 (0,0)) /\ Ring w rp P 33 /\ Ring w rq Q 33 /\ NatAt w pg ng cg G /\ G < B32 33 /\ NatAt w ph nh ch H /\ H < B32 33
theorem GroupAt.lt {w:World} {b P Q G H:Nat} (h:GroupAt w b P Q G H):b < w.heap.size:=by
 obtain ⟨_,_,_,_,_,_,_,_,h1,_⟩:=h.ex
 exact (Array.getElem?_eq_some_iff.1 h1).1
theorem GroupAt.below {w w':World} {b P Q G H:Nat} (h:GroupAt w b P Q G H) (hb:Below w.heap.size w w'):GroupAt w' b P Q G H:=by
 have hl:=h.lt
 obtain ⟨rp,rq,pg,ng,cg,ph,nh,ch,h1,h2,h3,h4,h5,h6,h7⟩:=h.ex
 exact ⟨rp,rq,pg,ng,cg,ph,nh,ch,by rw [hb.block b hl]; exact h1,h2.below hb,h3.below hb,h4.below hb,h5,h6.below hb,h7⟩
theorem GroupAt.keep {B:Nat} {w w':World} {b P Q G H:Nat} (h:GroupAt w b P Q G H) (hB:w.heap.size <= B) (k:Keep B w w'):GroupAt w' b P Q G H:=by
 have hl:=h.lt
 obtain ⟨rp,rq,pg,ng,cg,ph,nh,ch,h1,h2,h3,h4,h5,h6,h7⟩:=h.ex
 exact ⟨rp,rq,pg,ng,cg,ph,nh,ch,by rw [k.bel.block b (by omega)]; exact h1,h2.keep (by have:=h2.at_.lt; omega) k,h3.keep (by have:=h3.at_.lt; omega) k,k.nat _ _ _ _ h4,h5,k.nat _ _ _ _ h6,h7⟩
theorem GroupAt.lims {w:World} {b P Q G H:Nat} (h:GroupAt w b P Q G H):2 <= P /\ P < B32 33 /\ 2 <= Q /\ Q < B32 33:=by
 obtain ⟨_,_,_,_,_,_,_,_,_,h2,h3,_⟩:=h.ex
 exact ⟨h2.two,h2.lim,h3.two,h3.lim⟩
structure GroupOk (B:Nat) (w:World) (b P Q G H:Nat):Prop where
 ex:∃ w0,GroupAt w0 b P Q G H /\ w0.heap.size <= B /\ Keep B w0 w
theorem GroupOk.of {B:Nat} {w w':World} {b P Q G H:Nat} (h:GroupAt w b P Q G H) (hB:w.heap.size <= B) (k:Below w.heap.size w w') (hB2:B <= w.heap.size:=by exact Nat.le_refl _):GroupOk B w' b P Q G H:=⟨w,h,hB,Keep.of k hB2⟩
theorem GroupOk.keep {B:Nat} {w w':World} {b P Q G H:Nat} (h:GroupOk B w b P Q G H) (k:Keep B w w'):GroupAt w' b P Q G H :=
 let ⟨_,h1,h2,h3⟩:=h.ex
 h1.keep h2 (h3.trans k)
theorem group_cells {w:World} {b:Nat} {v0 v1 v2 v3:Value} (h:w.heap[b]? = some (.cells #[v0,v1,v2,v3] 100 (0,0))) :
  w.cell? ⟨b,0,none⟩=some v0 /\ w.cell? ⟨b,1,none⟩=some v1 /\ w.cell? ⟨b,2,none⟩=some v2 /\ w.cell? ⟨b,3,none⟩=some v3:=by
 simp [World.cell?,h]
end Go.Proofs.YtdebccghjbfgdaaGreatDoor
