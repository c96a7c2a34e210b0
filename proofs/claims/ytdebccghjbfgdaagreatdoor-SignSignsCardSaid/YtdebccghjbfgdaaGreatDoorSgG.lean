/- Signatures in the laws' groups; the chapter's example lives (law11's lives). -/
import Derived.Test.YtdebccghjbfgdaaGreatDoorSgF
set_option maxRecDepth 1000000
set_option maxHeartbeats 16000000
set_option linter.unusedSimpArgs false
set_option linter.unusedVariables false
namespace Go.Proofs.YtdebccghjbfgdaaGreatDoor
open Go Go.RowKit Go.Proofs.YtdebccghjbfgdaaGreatDoor.Flow
theorem gP_few (i:Nat) (hi:i < 3):bsize (gP i) <= 16:=by
 rw [gSize_eq i hi]
 match i,hi with
 | 0,_=>decide
 | 1,_=>decide
 | 2,_=>decide
theorem gQ_lt:∀ i,i < 3 -> gQ i < gP i
 | 0,_=>by decide
 | 1,_=>by decide
 | 2,_=>by decide
 | _ + 3,h=>by omega
theorem gQ_few (i:Nat) (hi:i < 3):bsize (gQ i) <= 16:=bsize_le.2 (Nat.lt_trans (gQ_lt i hi) (bsize_le.1 (gP_few i hi)))
theorem gQ_pos (i:Nat) (hi:i < 3):2 <= gQ i:=by have:=(g_bounds i hi).1; omega
theorem sigB_bytes (P Q G x:Nat) (msg:List Nat):Bytes8 (sigB P Q G x msg):=fun y hy=>by
 unfold sigB at hy
 rcases List.mem_append.1 hy with h | h
 ·exact (leOf_bytes _ _).reverse y h
 ·exact (leOf_bytes _ _).reverse y h
theorem OwnIs.part {lo:Nat} {bs:List Nat} {v:Value} {w:World} (h:OwnIs lo bs v w) (h8:Bytes8 bs):∃ p c,v=.slice p bs.length c /\ PartOk w ⟨p,bs.length,c,bs⟩ /\ (p=none -> c=0) :=
 h.elim fun p c hv hr _ hz=>⟨p,c,hv,⟨hr,h8⟩,hz⟩
def litM (w:World):World:=w.alloc (.cells #[.int .u8 109] 5 (1,2))
theorem litM_below (w:World):Below w.heap.size w (litM w):=bal
theorem litM_part (w:World):PartOk (litM w) ⟨some ⟨w.heap.size,0,none⟩,1,1,[109]⟩:=by
 have h1:(litM w).heap[w.heap.size]? = some (.cells #[.int .u8 109] 5 (1,2)):=by
  unfold litM
  rw [heap_alloc_new]
 exact ⟨marked_rowM (bs:=[109]) h1 rfl (by decide:1 <= 9223372036854775807),(by decide:∀ x ∈ [109],x < 256)⟩
theorem sig101:2 * bsize 101=2:=by decide
theorem ex_ok:sigOk 607 101 64 (64 ^ 7 % 607) [109] (sigB 607 101 64 7 [109]):=sig_back (by decide) (by decide) (gG_member 0 (by omega))
theorem lives11_calls (w:World) (hr:Tabs w) :
  Calls Tryz.prog 46 #[] w fun e w'=>e=.returned (.bool true) /\ Below w.heap.size w w':=by
 have HG0:=hol (group10_calls w 0 hr)
 have HT:=hol hr
 clear hr
 go_enter Tryz.func46,Tryz.ntmps46
 go_wp2_with fail
 refine HG0.out.mono ?_
 rintro en w1 ⟨b,rfl,hg,hb1⟩
 have hg':GroupAt w1 b 607 101 64 597:=hg
 have HG:=hol hg'
 have HB1:=hol hb1
 clear hg hg' hb1 HG0
 go_wp2_with fail
 refine (newnat_fit (n:=7) w1 (by omega)).mono ?_
 rintro en w2 ⟨x2,rfl,h2,hb2⟩
 have hcv:=Joins.run_convert_bytes_const_at (P:=Tryz.prog) w2 70 5 #[.int .u8 109] 1 1 w2.heap.size rfl Tryz.underlying70 Tryz.underlying5
 have hbl:=litM_below w2
 have HP2:=hol (litM_part w2)
 have HX2:=hol (h2.below hbl)
 have HBL:=hol (bstep hb2 hbl)
 have HB2:=hol (bstep HB1.out (bstep hb2 hbl))
 clear h2 hb2 hbl
 go_wp2_with fail
 refine calls_at (w1:=litM w2) (by kernel_rfl) ?_
 refine (sign_ok (HG.out.below HBL.out) (HT.out.below HB2.out HT.out.size) HX2.out (by decide) (gP_few 0 (by omega)) (gQ_few 0 (by omega)) HP2.out (by decide)).mono ?_
 rintro en w3 ⟨_,rfl,ho,hb3⟩
 obtain ⟨ps,cs,rfl,hps,_⟩:=ho.part (sigB_bytes _ _ _ _ _)
 obtain ⟨SB,hSB⟩:∃ S,sigB 607 101 64 7 [109]=S:=⟨_,rfl⟩
 have hl2:SB.length=2:=by rw [<- hSB,sigB_length]; exact sig101
 have HSB:=hol hSB
 rw [hSB,hl2] at hps
 simp only [hSB,hl2]
 have HPS:=hol hps
 have HG3:=hol (HG.out.below (bstep HBL.out hb3))
 have HB3:=hol (bstep HB2.out hb3)
 clear ho hps hb3 hcv hSB hl2 HG
 go_wp2_with fail
 refine (newnat_fit (n:=7) w3 (by omega)).mono ?_
 rintro en w4 ⟨x4,rfl,h4,hb4⟩
 have HX4:=hol h4
 have HG4:=hol (HG3.out.below hb4)
 have HPS4:=hol (HPS.out.below hb4)
 have HB4:=hol (bstep HB3.out hb4)
 clear h4 hb4 HG3 HPS
 go_wp2_with fail
 refine (public_ok HG4.out HX4.out (by decide) (by decide)).mono ?_
 rintro en w5 ⟨_,rfl,⟨py,ny,cy,rfl,hy,ly⟩,hb5⟩
 have hb6:Below w5.heap.size w5 (w5.alloc (.cells #[.slice py ny cy] 36)):=bal
 have hX6:=NatBox.made w5 (.slice py ny cy)
 obtain ⟨w6,hw6⟩:∃ W,w5.alloc (.cells #[.slice py ny cy] 36)=W:=⟨_,rfl⟩
 rw [hw6] at hb6 hX6
 have hb56:=bstep hb5 hb6
 have HY:=hol ((Fit.of hy ly).below hb6)
 have HX6:=hol hX6
 have HG6:=hol (HG4.out.below hb56)
 have HPS6:=hol (HPS4.out.below hb56)
 have HB6:=hol (bstep HB4.out hb56)
 have c6:=hX6.cell
 have hcv:=Joins.run_convert_bytes_const_at (P:=Tryz.prog) w6 70 5 #[.int .u8 109] 1 1 w6.heap.size rfl Tryz.underlying70 Tryz.underlying5
 have hbl:=litM_below w6
 have HP7:=hol (litM_part w6)
 have HBL7:=hol hbl
 have HB7:=hol (bstep HB6.out hbl)
 have c7:(litM w6).cell? ⟨w5.heap.size,0,none⟩=some (.slice py ny cy):=(hX6.below hbl hX6.lt).cell
 clear hy ly hb5 hb6 hX6 hb56 hbl HG4 HPS4
 go_wp2_with fail
 refine calls_at (w1:=litM w6) (by kernel_rfl) ?_
 refine (verify_fit (HG6.out.below HBL7.out) (HT.out.below HB7.out HT.out.size) (HY.out.below HBL7.out) (by decide) (gP_few 0 (by omega)) (gQ_few 0 (by omega)) HP7.out (HPS6.out.below HBL7.out)).mono ?_
 rintro en w8 ⟨X,rfl,hX,hb8⟩
 have hXt:X=true:=hX.2 (by rw [<- HSB.out]; exact ex_ok)
 subst hXt
 have HB8:=hol (bstep HB7.out hb8)
 clear hX hb8 hcv c6 c7
 go_wp2
 go_ret
 exact ⟨rfl,HB8.out⟩
end Go.Proofs.YtdebccghjbfgdaaGreatDoor
