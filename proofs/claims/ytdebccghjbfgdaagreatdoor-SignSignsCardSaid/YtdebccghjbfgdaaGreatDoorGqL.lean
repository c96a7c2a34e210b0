/- A length as eight bytes; the challenge. -/
import Derived.Test.YtdebccghjbfgdaaGreatDoorGqB
set_option maxRecDepth 1000000
set_option maxHeartbeats 16000000
set_option linter.unusedSimpArgs false
set_option linter.unusedVariables false
namespace Go.Proofs.YtdebccghjbfgdaaGreatDoor
open Go Go.RowKit Go.Proofs.YtdebccghjbfgdaaGreatDoor.Flow
theorem le8_get {n j:Nat} (h:j < 8):(le8 n)[j]? = some (n / 256 ^ j % 256):=by
 unfold le8
 rw [List.getElem?_map,List.getElem?_range h]
 rfl
theorem length_fit {w:World} {p:Option Addr} {n c:Nat} (hn:n < 9223372036854775808) :
  Calls Tryz.prog 179 #[.slice p n c] w fun en w'=>∃ g,en=.returned (.slice (some ⟨g,0,none⟩) 8 8) /\ Blk w' g 5 .u8 (le8 n) /\ w.heap.size <= g /\ Below w.heap.size w w':=by
 have hmk:∀ w,(Instr.makeSlice 70 (.int .i64 8) (.int .i64 8)).run Tryz.prog w=.ok (.slice (some ⟨w.heap.size,0,none⟩) 8 8) (w.alloc (.cells (zeros .u8 8) 5)):=fun w=>make_u8 8 (by decide) w
 obtain ⟨w0,hw0⟩:∃ w0,w.alloc (.cells (zeros .u8 8) 5)=w0:=⟨_,rfl⟩
 have hb0:Below w.heap.size w w0:=by rw [<- hw0]; exact (Below.refl _ _).alloc (Nat.le_refl _) _
 have hk0:Blk w0 w.heap.size 5 .u8 (List.replicate 8 0):=by rw [<- hw0]; exact heap_alloc_new w _
 have HB0:=hol hb0
 have HK0:=hol hk0
 clear hb0 hk0
 go_enter Tryz.func179,Tryz.ntmps179
 go_wp2
 go_loopw [4,8] (fun _ iv wr=>∃ (k:Nat) (xs:List Nat),k <= 8 /\ iv=.int .i64 k /\ xs.length=8 /\ Hold (Blk wr w.heap.size 5 .u8 xs) /\ Hold (∀ j,j < k -> xs[j]? = some (n / 256 ^ j % 256)) /\ Hold (Below w.heap.size w wr)) (fun _ iv _=>8 - (intOf iv).toNat)
 case atStart=>exact ⟨0,List.replicate 8 0,by omega,rfl,rfl,HK0,⟨fun j hj=>by omega⟩,HB0⟩
 case round =>
  obtain ⟨k,xs,hk,rfl,hxs,HKr,HVr,HBr⟩:=hrel
  by_cases hkn:k < 8
  ·have hkn':(k:Int) < 8:=by omega
   have c0:=HKr.out.cell (i:=k) (List.getElem?_eq_getElem (by omega))
   have f0:=HKr.out.free k
   have hv:((n:Int) / 2 ^ (8 * k) % 256)=((n / 256 ^ k % 256:Nat):Int):=by
    rw [Int.natCast_emod,Int.natCast_ediv,show (256:Nat) ^ k=2 ^ (8 * k) from B8_pow k,Int.natCast_pow]; rfl
   have HV:=hol hv
   have HKn:Hold (Blk (wr.setCell ⟨w.heap.size,k,none⟩ (.int .u8 (n / 256 ^ k % 256:Nat))) w.heap.size 5 .u8 (xs.set k (n / 256 ^ k % 256))):=⟨HKr.out.set k _⟩
   have HBn:Hold (Below w.heap.size w (wr.setCell ⟨w.heap.size,k,none⟩ (.int .u8 (n / 256 ^ k % 256:Nat)))):=⟨HBr.out.setCell (Nat.le_refl _) _⟩
   have HVn:Hold (∀ j,j < k + 1 -> (xs.set k (n / 256 ^ k % 256))[j]? = some (n / 256 ^ j % 256)):=⟨fun j hj=>by
    rcases Nat.lt_or_ge j k with h | h
    ·rw [List.getElem?_set_ne (by omega)]; exact HVr.out j h
    ·obtain rfl:j=k:=by omega
     exact List.getElem?_set_self (by omega)⟩
   have HXL:Hold ((xs.set k (n / 256 ^ k % 256)).length=8):=⟨by rw [List.length_set]; exact hxs⟩
   clear hv
   go_wp2
   go_roundw
   case rel =>
    rw [HV.out]
    exact ⟨k + 1,_,by omega,by go_num,HXL.out,HKn,HVn,HBn⟩
   case measure=>simp [intOf]; omega
  ·obtain rfl:k=8:=by omega
   have hkn':¬ (8:Int) < 8:=by omega
   go_wp2
   go_ret
   have hx:xs=le8 n:=List.ext_getElem? fun j=>by
    rcases Nat.lt_or_ge j 8 with h | h
    ·rw [HVr.out j h,le8_get h]
    ·rw [List.getElem?_eq_none (by omega),List.getElem?_eq_none (by rw [le8_length]; exact h)]
   exact ⟨w.heap.size,rfl,by rw [<- hx]; exact HKr.out,Nat.le_refl _,HBr.out⟩
theorem chal_fit {w:World} {b P Q G H n c:Nat} {p:Option Addr} {L:List Part} (hg:GroupAt w b P Q G H) (hT:Tabs w) (hL:PartsIn w p n c L) :
  Calls Tryz.prog 143 #[.pointer (some ⟨b,0,none⟩),.slice p n c] w fun e w'=>∃ x,e=.returned x /\ Fit 33 (be (sha (saidOf (L.map (·.bs)))) % Q) x w' /\ Below w.heap.size w w':=by
 have hb4:=NatBox.made w (.slice none 0 0)
 have hbel:Below w.heap.size w (w.alloc (.cells #[.slice none 0 0] 36)):=bal
 obtain ⟨wa,hwa⟩:∃ wa,w.alloc (.cells #[.slice none 0 0] 36)=wa:=⟨_,rfl⟩
 rw [hwa] at hb4 hbel
 have HBX:=hol hb4
 have HB:=hol hbel
 have HT:=hol hT
 have hTs:=hT.size
 have HL:=hol hL
 have HLN:=hol hL.len
 have hcap:=hL.cap
 have hmax:=hL.max
 obtain ⟨rp,rq,pg,ng,cg,ph,nh,ch,g1,_,g3,_⟩:=hg.ex
 have HL2:Hold (b < w.heap.size /\ rq < w.heap.size):=⟨hg.lt,g3.at_.lt⟩
 have HGA:=hol g1
 have HRQ:=hol g3
 clear hL hg g1 g3
 clear hT hb4 hbel
 go_enter Tryz.func143,Tryz.ntmps143
 go_wp2_with fail
 refine (shanew_calls wa (HT.out.below HB.out HT.out.size)).mono ?_
 rintro en w1 ⟨g,rfl,hg1,hb1,hh1⟩
 have HB1:=hol (bstep HB.out hb1)
 have HBX1:=hol (HBX.out.below hb1 HBX.out.lt)
 have HGL:Hold (w.heap.size < g):=⟨Nat.lt_of_lt_of_le HBX.out.lt hg1⟩
 have HH1:=hol hh1
 clear hb1 hg1 hh1
 go_wp2
 go_loopw [7,13] (fun _ iv wr=>∃ k:Nat,k <= n /\ iv=.int .i64 k /\ Hold (Below w.heap.size w wr) /\ Hold (HashAt wr g (saidOf ((L.take k).map (·.bs)))) /\ Hold (NatBox wr w.heap.size (.slice none 0 0))) (fun _ iv _=>n - (intOf iv).toNat)
 case atStart=>exact ⟨0,by omega,rfl,HB1,HH1,HBX1⟩
 case round =>
  obtain ⟨k,hk,rfl,HBr,HHr,HBXr⟩:=hrel
  by_cases hkn:k < n
  ·obtain ⟨PP,hP⟩:∃ P,L[k]? = some P:=⟨L[k]'(by rw [<- HLN.out]; exact hkn),List.getElem?_eq_getElem _⟩
   obtain ⟨bb,off,rfl,hbb,hc⟩:=HL.out.cells (by omega)
   have hok:=HL.out.ok k PP hP
   have HNE:Hold (0 < PP.n -> ∀ q,PP.p=some q -> q.block ≠ g):=⟨fun h0 q hq=>by
    obtain ⟨b',off',e,h2,_⟩:=(hok.row.row h0).pos h0
    rw [hq] at e; cases e
    have:=HGL.out
    show b' ≠ g
    omega⟩
   have hck:wr.cell? ⟨bb,off + k,none⟩=some (.slice PP.p PP.n PP.c):=by
    rw [(bcell HBr.out).1 _ _ hbb]; exact hc k PP hP
   have HTK:Hold (saidOf ((L.take (k + 1)).map (·.bs))=saidOf ((L.take k).map (·.bs)) ++ (le8 PP.n ++ PP.bs)):=⟨by
    rw [snoc_take hP,List.map_append]
    show saidOf ((L.take k).map (·.bs) ++ [PP.bs])=_
    rw [saidOf_snoc,hok.row.len]⟩
   have HOK:=hol hok
   have hPn:PP.n < 9223372036854775808:=by have h1:=hok.row.cap; have h2:=hok.row.max; omega
   have hkn':(k:Int) < n:=by omega
   clear hc hok hP hbb
   obtain ⟨pp,pn,pc,pb⟩:=PP
   dsimp only at *
   go_wp2_with fail
   refine (length_fit hPn).mono ?_
   rintro en w2 ⟨gl,rfl,hkl,hgl,hb2⟩
   have HR2:Hold (RowIn w2 .u8 (some ⟨gl,0,none⟩) 8 8 (le8 pn)):=⟨⟨(le8_length pn).symm,Nat.le_refl _,by decide,fun _=>hkl.row (le8_length pn).symm (Nat.le_refl _) (by decide)⟩⟩
   have HH2:=hol (HHr.out.below hb2 HHr.out.lt)
   have HBr2:=hol (HBr.out.trans (hb2.mono HBr.out.size))
   have HBXr2:=hol (HBXr.out.below hb2 HBXr.out.lt)
   have HNL:Hold (0 < 8 -> ∀ q,(some ⟨gl,0,none⟩:Option Addr)=some q -> q.block ≠ g):=⟨fun _ q hq=>by
    cases hq
    have:=HHr.out.lt
    show gl ≠ g
    omega⟩
   clear hkl hgl hb2 hck
   go_wp2_with fail
   refine (shaadd_calls w2 g _ (some ⟨gl,0,none⟩) 8 8 (le8 pn) (HT.out.below HBr2.out HT.out.size) HH2.out (by have:=HGL.out; omega) HR2.out (le8_bytes pn) HNL.out).mono ?_
   rintro en w3 ⟨rfl,hb3,hh3⟩
   have HH3:=hol hh3
   have HBr3:=hol (HBr2.out.trans (hb3.below (Nat.le_of_lt HGL.out) HBr2.out.size))
   have HBXr3:Hold (NatBox w3 w.heap.size (.slice none 0 0)):=⟨(hb3.block _ HBXr2.out.lt (by have:=HGL.out; omega)).trans HBXr2.out⟩
   clear hh3 hb3
   go_wp2_with fail
   refine (shaadd_calls w3 g _ pp pn pc pb (HT.out.below HBr3.out HT.out.size) HH3.out (by have:=HGL.out; omega) (HOK.out.row.below HBr3.out) HOK.out.bytes HNE.out).mono ?_
   rintro en w4 ⟨rfl,hb4,hh4⟩
   rw [List.append_assoc,<- HTK.out] at hh4
   have HH4:=hol hh4
   have HBr4:=hol (HBr3.out.trans (hb4.below (Nat.le_of_lt HGL.out) HBr3.out.size))
   have HBXr4:Hold (NatBox w4 w.heap.size (.slice none 0 0)):=⟨(hb4.block _ HBXr3.out.lt (by have:=HGL.out; omega)).trans HBXr3.out⟩
   clear hh4 hb4
   go_wp2
   go_roundw
   case rel=>exact ⟨k + 1,by omega,by go_num,HBr4,HH4,HBXr4⟩
   case measure=>simp [intOf]; omega
  ·obtain rfl:k=n:=by omega
   have hkn':¬ (k:Int) < k:=by omega
   have hhr:=HHr.out
   rw [List.take_of_length_le (by rw [<- HLN.out]; exact Nat.le_refl _)] at hhr
   replace HHr:Hold _:=⟨hhr⟩
   clear hhr
   obtain ⟨MQ,hMQ⟩:∃ M,saidOf (L.map (·.bs))=M:=⟨_,rfl⟩
   rw [hMQ] at HHr
   have HMQ:=hol hMQ
   clear hMQ
   go_wp2_with fail
   refine (hsum_calls wr g _ (HT.out.below HBr.out HT.out.size) HHr.out).mono ?_
   rintro en w5 ⟨q,rfl,hq,hb5,hk5⟩
   obtain ⟨SS,hSS⟩:∃ S,sha MQ=S:=⟨_,rfl⟩
   have hSl:SS.length=32:=by rw [<- hSS]; exact sha_length _
   have hS8:Bytes8 SS:=by rw [<- hSS]; exact sha_bytes _
   rw [hSS] at hk5
   have hrow:RowIn w5 .u8 (some ⟨q,0,none⟩) 32 32 SS:=⟨hSl.symm,Nat.le_refl _,by decide,fun _=>hk5.row hSl.symm (Nat.le_refl _) (by decide)⟩
   have HROW:=hol hrow
   have HS8:=hol hS8
   have HSl:=hol hSl
   have HSS:=hol hSS
   have HB5:=hol (HBr.out.trans (hb5.mono HBr.out.size))
   have HBX5:=hol (HBXr.out.below hb5 HBXr.out.lt)
   clear hq hb5 hk5 hSS hSl hS8 hrow
   go_wp2_with fail
   refine (fromBytes_calls w5 _ 32 32 SS HROW.out HS8.out (by decide)).mono ?_
   rintro en w6 ⟨q2,m2,d2,rfl,hq2,hb6,_⟩
   obtain ⟨XX,hXX⟩:∃ X,be SS=X:=⟨_,rfl⟩
   rw [hXX] at hq2
   have hb7:Below w6.heap.size w6 (w6.alloc (.cells #[.slice q2 m2 d2] 36)):=bal
   have hX7:=NatBox.made w6 (.slice q2 m2 d2)
   obtain ⟨w7,hw7⟩:∃ w7,w6.alloc (.cells #[.slice q2 m2 d2] 36)=w7:=⟨_,rfl⟩
   rw [hw7] at hb7 hX7
   have hb57:=bstep hb6 hb7
   have HNf:Hold (Fit 8 XX (.agg #[.slice q2 m2 d2]) w7):=⟨Fit.of (hq2.below hb7) (by
    rw [<- hXX]
    have:=HS8.out.reverse.lt
    rw [List.length_reverse,HSl.out] at this
    exact Nat.lt_of_lt_of_le this (by decide))⟩
   have HX7:=hol hX7
   have HB7:=hol (bstep HB5.out hb57)
   have HBX7:=hol (HBX5.out.below hb57 HBX5.out.lt)
   have HNE:Hold (∀ x ∈ ([(w6.heap.size,.cells #[.slice q2 m2 d2] 36 (0,0))]:List (Nat × Obj)),x.1 ≠ w.heap.size):=⟨List.forall_mem_cons.2 ⟨by simp only; have h1:=HBX5.out.lt; have h2:=hb6.size; omega,fun x hx=>by cases hx⟩⟩
   have HGr:=hol ((HB7.out.block b HL2.out.1).trans HGA.out)
   have HRq:=hol (HRQ.out.below HB7.out)
   have HVL:Hold (XX % Q < B32 33):=⟨Nat.lt_trans (Nat.mod_lt _ (by have:=HRQ.out.two; omega)) HRQ.out.lim⟩
   have HXX:Hold (be (sha MQ) % Q=XX % Q):=⟨by rw [HSS.out,hXX]⟩
   clear hq2 hb6 hb7 hX7 hb57 hXX
   go_wp2
   refine wp_region_dutiesS (by kernel_rfl) (by kernel_rfl)
    [some (.pointer (some ⟨b,0,none⟩)),none,some (.pointer (some ⟨b,0,none⟩)),some (.pointer (some ⟨b,1,none⟩)),some (.pointer (some ⟨rq,0,none⟩)),some (.agg #[.slice q2 m2 d2]),none,none]
    [false,true,false,false,false,false,true,true] rfl
    (fun wA wB=>Keep (w.heap.size) wA wB)
    (fun D sp w'=>RG (w.heap.size) w7 [(w6.heap.size,.cells #[.slice q2 m2 d2] 36 (0,0))] w' /\ StB (D 7) (w.heap.size) (XX % Q) w')
    (fun i v w'=>match i with
     | 1=>v=.pointer (some ⟨b,0,none⟩)
     | 6=>Fit 33 (XX % Q) v w'
     | _=>True)
    ?_ ⟨RG.start HB7.out.size (List.forall_mem_cons.2 ⟨HX7.out,fun x hx=>by cases hx⟩),StB.fresh HBX7.out⟩ ?_ ?_
   ·intro i v wA wB hf hb
    split at hf
    ·exact hf
    ·exact hf.keep hb
    ·trivial
   ·simp only [DutiesS,Nat.reduceAdd]
    refine ⟨?_,?_,?_,?_,?_,?_,?_,?_,trivial⟩
    all_goals intro D sp w' hD hW hdp hg
    case refine_2 =>
     (with_reducible refine asked_call (w1:=w') (f := 66) (args:=#[.pointer (some ⟨b,0,none⟩)]) ?_ ?_ ?_)
     ·simp [Region.wanted,yielded,Act.put,go_sem]
     ·simp [Act.eval,Act.put,go_sem]
     ·refine (orNone_ptr w' b).mono ?_
      rintro en w9 ⟨rfl,rfl⟩
      exact ⟨_,rfl,Keep.same _ _,rfl,hg.1,by simpa [upd] using hg.2⟩
    case refine_3 =>
     have k1:(sp 1)=.pointer (some ⟨b,0,none⟩):=(hdp 1 (mq (by kernel_rfl))).2
     with_reducible refine asked_pl ?_ ?_
     all_goals simp [Region.wanted,yielded,execOp,Act.eval,Act.put,go_sem,k1]
    case refine_5 =>
     have c0:=(group_cells ((hg.1.keep.bel.block b HL2.out.1).trans HGr.out)).2.1
     with_reducible refine asked_pl ?_ ?_
     all_goals simp [Region.wanted,yielded,execOp,Act.eval,Act.put,go_sem,c0]
    case refine_6 =>
     have c0:w'.cell? ⟨w6.heap.size,0,none⟩=some (.slice q2 m2 d2):=NatBox.cell (hg.1.of List.mem_cons_self)
     with_reducible refine asked_pl ?_ ?_
     all_goals simp [Region.wanted,yielded,execOp,Act.eval,Act.put,go_sem,c0]
    case refine_7 =>
     (with_reducible refine asked_call (w1:=w') (f := 36) (args:=#[.pointer (some ⟨rq,0,none⟩),.agg #[.slice q2 m2 d2]]) ?_ ?_ ?_)
     ·simp [Region.wanted,yielded,Act.put,go_sem]
     ·simp [Act.eval,Act.put,go_sem]
     ·refine (rof_fit (HRq.out.keep HL2.out.2 hg.1.keep) (HNf.out.keep hg.1.keep) (by decide)).mono ?_
      rintro en w9 ⟨u,rfl,hu,hb⟩
      exact ⟨u,rfl,Keep.of hb hg.1.base,hu,hg.1.later hb,by simpa [upd] using hg.2.later hb⟩
    case refine_8 =>
     have hx:∃ p n c,sp 6=.agg #[.slice p n c] /\ NatAt w' p n c (XX % Q) /\ XX % Q < B32 (33):=(hdp 6 (mq (by kernel_rfl))).2
     (with_reducible refine Exists.elim hx fun p hx1=>Exists.elim hx1 fun n hx2=>Exists.elim hx2 fun c hx3=>?_)
     have h1:=hx3.1
     have hp:=hg.2.put (hx3.2.1)
     (with_reducible refine Exists.elim hp fun q hy1=>Exists.elim hy1 fun m hy2=>Exists.elim hy2 fun k hy3=>?_)
     have h6:=hy3.1.cell
     have h7:=hy3.1.free
     (with_reducible refine asked_skip (w1:=w'.setCell ⟨w.heap.size,0,none⟩ (.slice p n c)) ?_ ?_ ?_)
     ·simp [Region.wanted,yielded,Act.put,go_sem]
     ·simp [execOp,Act.eval,Act.put,go_sem,h1,h6,h7]
     ·refine ⟨Keep.store hy3.1 (Nat.le_refl _) _,trivial,hg.1.store hy3.1 (Nat.le_refl _) HNE.out _,?_⟩
      have h8:=hy3.2
      simpa [upd] using h8
    all_goals ((with_reducible refine asked_pl ?_ ?_); all_goals first | (simp only [Region.wanted]; done) | simp [Region.wanted,yielded,execOp,Act.eval,Act.put,go_sem])
   ·intro sp w8 hsp hg
    obtain ⟨hg1,pz,nz,cz,hz1,hz2⟩:=hg
    have kz:=hz1.cell
    have HZ:=hol (hz2 rfl)
    have HE:=hol (HB7.out.trans hg1.keep.bel)
    clear hsp hg1 hz1 hz2
    simp only [frameOf,Nat.reduceAdd]
    generalize sp 1=y1,sp 6=y6,sp 7=y7 at *
    go_simp
    go_wp2
    exact bodyPost_ret (v:=.agg #[.slice pz nz cz]) (by simp [results,Tryz.results143,go_sem,kz]) rfl ⟨_,rfl,by rw [HMQ.out,HXX.out]; exact Fit.of HZ.out HVL.out,HE.out⟩
end Go.Proofs.YtdebccghjbfgdaaGreatDoor
