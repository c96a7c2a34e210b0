/- slices.AppendSeq, Collect of the numbers of a row. -/
import Derived.Test.YtdebccghjbfgdaaGreatDoorCuA
set_option maxRecDepth 1000000
set_option maxHeartbeats 16000000
set_option linter.unusedSimpArgs false
set_option linter.unusedVariables false
namespace Go.Proofs.YtdebccghjbfgdaaGreatDoor
open Go Go.RowKit Go.Proofs.YtdebccghjbfgdaaGreatDoor.Flow
attribute [local go_sem] Oper.semAt_some
theorem ownsRow_kept {W W':World} {row:Option Nat} {B size n:Nat} {e:TypeId} {v:Value} {us:List Value} (h:W.ownsRow B e size v n us) (hg:W.grownBy W' row) (hr:Calm W row):W'.ownsRow B e size v n us:=by
 refine ⟨h.1,?_⟩
 rcases h.2 with h4 | ⟨g,cap,cur,e',hbg,hgg,h5⟩
 ·exact .inl h4
 ·exact .inr ⟨g,cap,cur,e',hbg,block_kept hg hr hgg,h5⟩
theorem ownsRow_later {W W':World} {B size n:Nat} {e:TypeId} {v:Value} {us:List Value} (h:W.ownsRow B e size v n us) (hb:Below W.heap.size W W'):W'.ownsRow B e size v n us:=by
 refine ⟨h.1,?_⟩
 rcases h.2 with h4 | ⟨g,cap,cur,e',hbg,hgg,h5⟩
 ·exact .inl h4
 ·exact .inr ⟨g,cap,cur,e',hbg,by rw [hb.block g (Array.getElem?_eq_some_iff.1 hgg).1]; exact hgg,h5⟩
theorem ownsRow_slice {W:World} {B size n:Nat} {e:TypeId} {v:Value} {us:List Value} (h:W.ownsRow B e size v n us):∃ p m c,v=.slice p m c:=by
 rcases h.2 with ⟨h1,_⟩ | ⟨g,cap,cur,h1,_⟩
 ·exact ⟨_,_,_,h1⟩
 ·exact ⟨_,_,_,h1⟩
structure ApSt (w:World) (B bx:Nat) (us:List (Option Addr × Nat × Nat)) (k:Nat) (W:World):Prop where
 ex:∃ v,W.heap[bx]? = some (.cells #[v] 32 (0,0)) /\ W.ownsRow B 36 1 v k ((us.take k).map sv)
 bel:Below w.heap.size w W
theorem ApSt.stable {w:World} {B bx k:Nat} {us:List (Option Addr × Nat × Nat)} {W W':World} (h:ApSt w B bx us k W) (hb:Below W.heap.size W W'):ApSt w B bx us k W':=by
 obtain ⟨v,h1,h2⟩:=h.ex
 exact ⟨⟨v,by rw [hb.block bx (Array.getElem?_eq_some_iff.1 h1).1]; exact h1,ownsRow_later h2 hb⟩,bstep h.bel hb⟩
theorem ApSt.own {w:World} {B bx:Nat} {us:List (Option Addr × Nat × Nat)} {D:Nat} (hD:w.heap.size <= D):OwnFrom D (fun k=>ApSt w B bx us k):=fun k W W' row h hg hr=>by
 have hc:Calm W row:=fun j e=>(hr j e).2
 obtain ⟨v,h1,h2⟩:=h.ex
 exact ⟨⟨v,block_kept hg hc h1,ownsRow_kept h2 hg hc⟩,h.bel.grown hg h.bel.size (fun j e=>Nat.le_trans hD (hr j e).1)⟩
theorem ApSt.grow {w:World} {B bx k D:Nat} {us:List (Option Addr × Nat × Nat)} {Wb W1 w':World} {v v':Value} {x:Option Addr × Nat × Nat} (h:ApSt w B bx us k Wb) (hv:Wb.heap[bx]? = some (.cells #[v] 32 (0,0))) (hrow:Wb.ownsRow B 36 1 v k ((us.take k).map sv))
  (hx:us[k]? = some x) (hbw:Below Wb.heap.size Wb W1) (hg:W1.grownBy w' v.ownBlock) (hown:w'.ownsRow B 36 1 v' (k + 1) ((us.take k).map sv ++ [sv x])) (hB:w.heap.size <= B) (hbx:w.heap.size <= bx) :
  (w'.cell? ⟨bx,0,none⟩=some v /\ w'.frozen? ⟨bx,0,none⟩=false) /\ KeepsFrom D Wb (w'.setCell ⟨bx,0,none⟩ v') /\ Mid (fun j=>j < w.heap.size) Wb (w'.setCell ⟨bx,0,none⟩ v') /\ ApSt w B bx us (k + 1) (w'.setCell ⟨bx,0,none⟩ v'):=by
 have hltx:=(Array.getElem?_eq_some_iff.1 hv).1
 have hne:∀ g,v.ownBlock=some g -> (∃ cur,Wb.heap[g]? = some (.cells cur 36 (0,0))) /\ B <= g:=fun g hg=>by
  rcases hrow.2 with ⟨e,_⟩ | ⟨g',cap,cur,e,hbg,hgg,_⟩
  ·rw [e] at hg; cases hg
  ·rw [e] at hg
   simp [Value.ownBlock] at hg
   subst hg
   exact ⟨⟨cur,hgg⟩,hbg⟩
 have hother:∀ j,j < Wb.heap.size -> (∀ cur,Wb.heap[j]? ≠ some (.cells cur 36 (0,0))) -> w'.heap[j]? = Wb.heap[j]? := fun j hj hn=>by
  rw [hg.block j (Nat.lt_of_lt_of_le hj hbw.size) (fun e=>by obtain ⟨⟨cur,h1⟩,_⟩:=hne j e.symm; exact hn cur h1),hbw.block j hj]
 have hv':w'.heap[bx]? = some (.cells #[v] 32 (0,0)):=by
  rw [hother bx hltx (fun cur e=>by rw [hv] at e; simp only [Option.some.injEq,Obj.cells.injEq] at e; exact absurd e.2.1 (by decide))]; exact hv
 have hsz:Wb.heap.size <= w'.heap.size:=Nat.le_trans hbw.size hg.size
 have hset:∀ j,j ≠ bx -> (w'.setCell ⟨bx,0,none⟩ v').heap[j]? = w'.heap[j]? := fun j hj=>heap_setCell_other w' ⟨bx,0,none⟩ j v' hj
 have hmid:Mid (fun j=>j < w.heap.size) Wb (w'.setCell ⟨bx,0,none⟩ v'):=by
  refine ⟨hg.os.trans hbw.os,hg.tape.trans hbw.tape,hg.output.trans hbw.output,by simpa using hsz,fun j hj hp=>?_⟩
  rw [hset j (by omega),hg.block j (Nat.lt_of_lt_of_le hj hbw.size) (fun e=>by obtain ⟨_,h1⟩:=hne j e.symm; omega),hbw.block j hj]
 refine ⟨⟨by simp [World.cell?,hv'],by simp [World.frozen?,hv']⟩,⟨by simpa using hsz,fun j o _ hj ho=>?_⟩,hmid,⟨⟨v',?_,?_⟩,?_⟩⟩
 ·have hjb:j ≠ bx:=fun e=>by subst e; rw [hv] at hj; cases hj; cases ho
  rw [hset j hjb,hother j (Array.getElem?_eq_some_iff.1 hj).1 (fun cur e=>by rw [hj] at e; cases e; cases ho)]
  exact hj
 ·simp [World.setCell,Array.getElem?_modify,hv']
 ·rw [snoc_take hx,List.map_append,List.map_singleton]
  refine ⟨hown.1,?_⟩
  rcases hown.2 with h4 | ⟨g,cap,cur,e',hbg,hgg,h5⟩
  ·exact .inl h4
  ·exact .inr ⟨g,cap,cur,e',hbg,by
    rw [hset g (fun e=>by subst e; rw [hv'] at hgg; simp only [Option.some.injEq,Obj.cells.injEq] at hgg; exact absurd hgg.2.1 (by decide))]; exact hgg,h5⟩
 ·exact h.bel.trans (hmid.below h.bel.size (fun j hj=>hj))
theorem appendseq_in (w:World) (b1 b off len cap:Nat) (p:Option Addr) (us:List (Option Addr × Nat × Nat)) (hr:RowAt w p len cap b off us) (hlen:len <= 1000000) (hc1:w.cell? ⟨b1,0,none⟩=some (.slice p len cap)) (hb1:b1 < w.heap.size) :
  CallsIn Fence.wide 10 Tryz.prog 208 #[.slice none 0 0,.func (.func 192) #[] #[.pointer (some ⟨b1,0,none⟩)]] w fun e w' =>
   ∃ v,e=.returned v /\ w'.ownsRow w.heap.size 36 1 v len (us.map sv) /\ Below w.heap.size w w':=by
 have HR:=hol hr
 have HC1:=hol hc1
 have HB1:=hol hb1
 clear hr hc1 hb1
 refine callsIn_of_wp_marks Tryz.func208 rfl trivial ?_ rfl
 simp only [Tryz.ntmps208,List.size_toArray,List.length_cons,List.length_nil,Nat.reduceAdd,Nat.reduceSub,Array.replicate_succ,Array.replicate_zero,List.push_toArray,List.append_toArray,List.nil_append,List.cons_append]
 obtain ⟨bx,hbx⟩:∃ b,w.heap.size=b:=⟨_,rfl⟩
 obtain ⟨W0,hW0⟩:∃ W0,w.alloc (.cells #[.slice none 0 0] 32)=W0:=⟨_,rfl⟩
 have hb0:Below w.heap.size w W0:=by rw [<- hW0]; exact (Below.refl _ _).alloc (Nat.le_refl _) _
 have hs0:W0.heap.size=bx + 1:=by rw [<- hW0,<- hbx]; simp
 have hx0:W0.heap[bx]? = some (.cells #[.slice none 0 0] 32 (0,0)):=by rw [<- hW0,<- hbx]; exact heap_alloc_new w _
 have HS0:Hold (ApSt w bx bx us 0 W0):=⟨⟨⟨_,hx0,World.ownsRow_nil W0 bx _ 1⟩,hb0⟩⟩
 have HZ0:=hol hs0
 have HBX:=hol hbx
 have HCW:Hold (W0.cell? ⟨b1,0,none⟩=some (.slice p len cap)):=⟨(hb0.cell (p:=⟨b1,0,none⟩) HB1.out).trans HC1.out⟩
 clear hb0 hs0 hx0
 gi_wp2_with fail
 clear hbx hW0
 refine wpIn_rangeFunc_tellsA rfl (by decide) (gf := 192) (lb:=#[.pointer (some ⟨b1,0,none⟩)]) rfl trivial (enters_of Tryz.func192 (by kernel_rfl) rfl)
  (N:=len) (Kp:=Mid (fun j=>j < w.heap.size)) (Gd:=fun k vs _=>∃ x,us[k]? = some x /\ vs=#[.agg #[sv x]]) (by rintro k vs W ⟨x,_,rfl⟩; rfl)
  (fun W5 hs5 hb5=>values1_tells (10 - 1) (W0.heap.size + 2) (W0.heap.size + 1) b1 b off len cap p us w W5 HR.out hlen _ (HS0.out.bel.trans (hb5.mono HS0.out.bel.size))
   ((hb5.cell (p:=⟨b1,0,none⟩) (by have:=HB1.out; have:=HS0.out.bel.size; simp; omega)).trans HCW.out) (fun A C h hA=>h.below hA (fun j hj=>hj)))
  (fun h k=>h.trans k) (fun W5 o=>Mid.putObj _ _ _ (by have:=HZ0.out; have:=HBX.out; omega))
  (fun k=>ApSt w bx bx us k) (ApSt.own (by have:=HZ0.out; have:=HBX.out; omega)) HS0.out
  (fun k a' W5=>∃ (bv:Nat) (x:Option Addr × Nat × Nat),us[k]? = some x /\ a'={ defers:=[],tmps:=#[.slice none 0 0,.func (.func 192) #[] #[.pointer (some ⟨b1,0,none⟩)],.pointer (some ⟨bx,0,none⟩),undef,.slice none 0 0,.pointer (some ⟨bv,0,none⟩),.func (.func 192) #[] #[.pointer (some ⟨b1,0,none⟩)],.agg #[.slice x.1 x.2.1 x.2.2],undef,undef,undef,undef,undef] } /\ NatBox W5 bv (sv x) /\ ApSt w bx bx us k W5)
  ?ax ?assign ?body ?done
 case ax =>
  rintro k a' _ X Y row ⟨bv,x,hx,e,h1,h2⟩ hg hr
  exact ⟨bv,x,hx,e,block_kept hg (fun j e=>(hr j e).2) h1,ApSt.own (w:=w) (B:=bx) (bx:=bx) (us:=us) (D:=W0.heap.size) (by have:=HZ0.out; have:=HBX.out; omega) k X Y row h2 hg hr⟩
 case assign =>
  rintro l2 k v W5 K hk hi ⟨x,hx,rfl⟩ hK
  obtain ⟨q,m,d⟩:=x
  have hbw:Below W5.heap.size W5 (W5.alloc (.cells #[.slice q m d] 36)):=bal
  have HK:=hol hK
  have HI:=hol hi
  have HX:=hol hx
  clear hK hi hx
  unfold sv
  gi_wp2
  exact HK.out _ _ ((KeepsOthers.alloc _ _).from _) (Mid.of hbw) ⟨_,(q,m,d),HX.out,rfl,NatBox.made W5 _,HI.out.stable hbw⟩
 case body =>
  rintro l2 k a' Wb hk ⟨bv,⟨q,m,d⟩,hx,rfl,hxn,hst⟩
  obtain ⟨v,hv,hrow⟩:=hst.ex
  have cb:Wb.cell? ⟨bx,0,none⟩=some v:=by simp [World.cell?,hv]
  have cx:=hxn.cell
  unfold sv at cx
  have HX:=hol hx
  have HV:=hol hv
  have HST:=hol hst
  have HROW:=hol hrow
  clear hx hv hst hxn hrow
  have hlk:=HROW.out.1
  gi_wp2_with (gi_at_builtin; refine Paused.out ?_)
  refine ⟨?_⟩
  clear cx cb
  obtain ⟨i1,hi1,hz1,hs1,hbb1⟩:=info_parts Tryz.info_Nat
  have hbw:Below Wb.heap.size Wb (Wb.alloc (.cells #[.slice q m d] 36)):=bal
  have hcn:(Wb.alloc (.cells #[.slice q m d] 36)).cell? ⟨Wb.heap.size,0,none⟩=some (.slice q m d):=(NatBox.made Wb (.slice q m d)).cell
  have hbsz:bx <= Wb.heap.size:=Nat.le_of_lt (Array.getElem?_eq_some_iff.1 HV.out).1
  refine wpListIn_append_own _ rfl _ _ _ rfl bx _ i1 _ 1 _ Tryz.underlying32 hi1 hz1 hs1 rfl rfl (by decide) v k _ rfl (ownsRow_later HROW.out hbw) ⟨Wb.heap.size,0,none⟩ 1 1 [.slice q m d] rfl rfl
   (fun j u hj=>by
    cases j with
    | zero=>simp at hj; subst hj; exact hcn
    | succ j=>simp at hj)
   (fun u hj=>by simp at hj; subst hj; rfl) (by simp only [maxLen]; omega) (Nat.le_trans (Nat.mul_le_mul (by omega:k + 1 <= 1000001) (hbb1 ▸ (by decide:(24:Nat) <= 1000))) (by decide)) (Nat.le_trans hbsz hbw.size) ?_
  intro v' w' hown hgr _
  obtain ⟨pv,nv,cv,rfl⟩:=ownsRow_slice hown
  obtain ⟨⟨cb,fb⟩,hkf,hmd,hap⟩:=ApSt.grow (D:=W0.heap.size) HST.out HV.out HROW.out HX.out hbw hgr hown (by have:=HBX.out; omega) (by have:=HBX.out; omega)
  have HKF:=hol hkf
  have HMD:=hol hmd
  have HAP:=hol hap
  clear hkf hmd hap hown hgr hbw hcn hbsz hi1 hz1 hs1 hbb1 hlk
  gi_wp2
  exact ⟨HKF.out,HMD.out,HAP.out⟩
 case done =>
  rintro D W5 hD hi hK
  obtain ⟨v,hv,hrow⟩:=hi.ex
  have cb:W5.cell? ⟨bx,0,none⟩=some v:=by simp [World.cell?,hv]
  have HROW:=hol hrow
  have HK:=hol hK
  have HI:=hol hi
  clear hv hrow hK hi
  gi_wp2
  refine ⟨by simp,.inl ⟨_,_,rfl,run_takeDeferred HK.out,?_⟩⟩
  have hgr:=grownBy_putObj' W5 D (.deferred none)
  have hown:=HROW.out
  rw [List.take_of_length_le (by rw [HR.out.len]; exact Nat.le_refl _)] at hown
  refine ⟨v,?_,v,rfl,?_,?_⟩
  ·simp [results,Tryz.f208,go_sem]
  ·rw [HBX.out]
   exact ownsRow_kept hown hgr (fun j e=>by cases e; exact ⟨_,HK.out,rfl⟩)
  ·exact HI.out.bel.grown hgr HI.out.bel.size (fun j e=>by cases e; have:=HBX.out; have:=HZ0.out; omega)
theorem collect_calls (w:World) (b1 b off len cap:Nat) (p:Option Addr) (us:List (Option Addr × Nat × Nat)) (hr:RowAt w p len cap b off us) (hlen:len <= 1000000) (hc1:w.cell? ⟨b1,0,none⟩=some (.slice p len cap)) (hb1:b1 < w.heap.size) :
  Calls Tryz.prog 190 #[.func (.func 192) #[] #[.pointer (some ⟨b1,0,none⟩)]] w fun e w' =>
   ∃ v,e=.returned v /\ w'.ownsRow w.heap.size 36 1 v len (us.map sv) /\ Below w.heap.size w w':=by
 have HA:=hol (callsIn_wide.1 (appendseq_in w b1 b off len cap p us hr hlen hc1 hb1))
 clear hr hc1 hb1
 go_enter Tryz.func190,Tryz.ntmps190
 go_wp2_with fail
 refine HA.out.mono ?_
 rintro en w1 ⟨v,rfl,hv,hb⟩
 have HV:=hol hv
 have HB:=hol hb
 clear hv hb HA
 go_wp2
 go_ret
 exact ⟨v,rfl,HV.out,HB.out⟩
end Go.Proofs.YtdebccghjbfgdaaGreatDoor
