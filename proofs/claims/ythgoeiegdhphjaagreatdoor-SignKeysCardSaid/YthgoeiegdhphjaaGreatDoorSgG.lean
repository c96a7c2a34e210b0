/- Signatures in the laws' groups; the chapter's example lives (law11's lives). -/
import Derived.Test.YthgoeiegdhphjaaGreatDoorSgF
set_option maxRecDepth 1000000
set_option maxHeartbeats 16000000
set_option linter.all false
namespace Go.Proofs.YthgoeiegdhphjaaGreatDoor
open Go Go.RowKit Go.Proofs.YthgoeiegdhphjaaGreatDoor.Flow
theorem Wq (i:Nat)(hi:i<3):As (gP i)<=16:=by
 rw[Kz i hi]
 match i,hi with
 | 0,_=>decide
 | 1,_=>decide
 | 2,_=>decide
theorem fL:∀i,i<3->gQ i<gP i
 | 0,_=>by decide
 | 1,_=>by decide
 | 2,_=>by decide
 | _+3,h=>by omega
theorem cI (i:Nat)(hi:i<3):As (gQ i)<=16:=Gw.2 (Nat.lt_trans (fL i hi) (Gw.1 (Wq i hi)))
theorem cH (i:Nat)(hi:i<3):2<=gQ i:=by have:=(Ky i hi).1;omega
theorem gD (i:Nat)(hi:i<3):2<=gP i:=by have:=fL i hi;have:=cH i hi;omega
theorem Vm (P Q G x:Nat)(msg:List Nat):Az (Oh P Q G x msg):=fun y hy=>by
 unfold Oh at hy;rcases List.mem_append.1 hy with h|h
 .exact(Jv _ _).reverse y h
 .exact(Jv _ _).reverse y h
theorem Ej.part {lo:Nat}{bs:List Nat}{v:Value}{w:World}(h:Ej lo bs v w)(h8:Az bs):∃p c,v=.slice p bs.length c/\Bf w ⟨p,bs.length,c,bs⟩/\(p=none->c=0) :=
 h.elim fun p c hv hr _ hz=>⟨p,c,hv,⟨hr,h8⟩,hz⟩
def We (w:World):World:=w.alloc (.cells #[.int .u8 109] 5 (1,2))
theorem Ow (w:World):Below w.heap.size w (We w):=Cf
theorem Qs (w:World):Bf (We w) ⟨some ⟨w.heap.size,0,none⟩,1,1,[109]⟩:=by
 have h1:(We w).heap[w.heap.size]? = some (.cells #[.int .u8 109] 5 (1,2)):=by
  unfold We;rw[heap_alloc_new]
 exact⟨Mv (bs:=[109]) h1 rfl (by decide:1<=9223372036854775807),(by decide:∀x∈[109],x<256)⟩
theorem fT:2*As 101=2:=by decide
theorem gZ:Jj 607 101 64 (64^7%607) [109] (Oh 607 101 64 7 [109]):=aU (by decide) (by decide) (Mc 0 (by omega))
theorem Py (w:World)(hr:Tabs w) :
  Calls Tryz.prog 35 #[] w fun e w'=>e=.returned (.bool true)/\Below w.heap.size w w':=by
 have HG0:=Aa (Jn w 0 hr);have HT:=Aa hr;clear hr;go_enter Tryz.func35,Tryz.ntmps35
 go_wp2_with fail
 refine HG0.out.mono ?_;rintro en w1 ⟨b,rfl,hg,hb1⟩;have hg':Ay w1 b 607 101 64 597:=hg;have HG:=Aa hg';have HB1:=Aa hb1;clear hg hg' hb1 HG0
 go_wp2_with fail
 refine(Dt (n:=7) w1 (by omega)).mono ?_;rintro en w2 ⟨x2,rfl,h2,hb2⟩;have hcv:=Joins.run_convert_bytes_const_at (P:=Tryz.prog) w2 60 5 #[.int .u8 109] 1 1 w2.heap.size rfl Tryz.underlying60 Tryz.underlying5;have hbl:=Ow w2;have HP2:=Aa (Qs w2);have HX2:=Aa (h2.below hbl);have HBL:=Aa (Af hb2 hbl);have HB2:=Aa (Af HB1.out (Af hb2 hbl));clear h2 hb2 hbl
 go_wp2_with fail
 refine Ld (w1:=We w2) (by kernel_rfl) ?_;refine(eF (HG.out.below HBL.out) (HT.out.below HB2.out HT.out.size) HX2.out (by decide) (Wq 0 (by omega)) (cI 0 (by omega)) HP2.out (by decide)).mono ?_;rintro en w3 ⟨_,rfl,ho,hb3⟩;obtain⟨ps,cs,rfl,hps,_⟩:=ho.part (Vm _ _ _ _ _);obtain⟨SB,hSB⟩:∃S,Oh 607 101 64 7 [109]=S:=⟨_,rfl⟩
 have hl2:SB.length=2:=by rw[<-hSB,Tn];exact fT
 have HSB:=Aa hSB;rw[hSB,hl2]at hps
 simp only[hSB,hl2];have HPS:=Aa hps;have HG3:=Aa (HG.out.below (Af HBL.out hb3));have HB3:=Aa (Af HB2.out hb3);clear ho hps hb3 hcv hSB hl2 HG
 go_wp2_with fail
 refine(Dt (n:=7) w3 (by omega)).mono ?_;rintro en w4 ⟨x4,rfl,h4,hb4⟩;have HX4:=Aa h4;have HG4:=Aa (HG3.out.below hb4);have HPS4:=Aa (HPS.out.below hb4);have HB4:=Aa (Af HB3.out hb4);clear h4 hb4 HG3 HPS
 go_wp2_with fail
 refine(Lw HG4.out HX4.out (by decide) (by decide)).mono ?_;rintro en w5 ⟨_,rfl,⟨py,ny,cy,rfl,hy,ly⟩,hb5⟩;have hb6:Below w5.heap.size w5 (w5.alloc (.cells #[.slice py ny cy] 36)):=Cf;have hX6:=Ae.made w5 (.slice py ny cy);obtain⟨w6,hw6⟩:∃W,w5.alloc (.cells #[.slice py ny cy] 36)=W:=⟨_,rfl⟩
 rw[hw6]at hb6 hX6
 have hb56:=Af hb5 hb6;have HY:=Aa ((Fit.of hy ly).below hb6);have HX6:=Aa hX6;have HG6:=Aa (HG4.out.below hb56);have HPS6:=Aa (HPS4.out.below hb56);have HB6:=Aa (Af HB4.out hb56);have c6:=hX6.cell;have hcv:=Joins.run_convert_bytes_const_at (P:=Tryz.prog) w6 60 5 #[.int .u8 109] 1 1 w6.heap.size rfl Tryz.underlying60 Tryz.underlying5;have hbl:=Ow w6;have HP7:=Aa (Qs w6);have HBL7:=Aa hbl;have HB7:=Aa (Af HB6.out hbl);have c7:(We w6).cell? ⟨w5.heap.size,0,none⟩=some (.slice py ny cy):=(hX6.below hbl hX6.lt).cell;clear hy ly hb5 hb6 hX6 hb56 hbl HG4 HPS4
 go_wp2_with fail
 refine Ld (w1:=We w6) (by kernel_rfl) ?_;refine(Vc (HG6.out.below HBL7.out) (HT.out.below HB7.out HT.out.size) (HY.out.below HBL7.out) (by decide) (Wq 0 (by omega)) (cI 0 (by omega)) HP7.out (HPS6.out.below HBL7.out)).mono ?_;rintro en w8 ⟨X,rfl,hX,hb8⟩;have hXt:X=true:=hX.2 (by rw[<-HSB.out];exact gZ);subst hXt;have HB8:=Aa (Af HB7.out hb8);clear hX hb8 hcv c6 c7;go_wp2;go_ret;exact⟨rfl,HB8.out⟩
end Go.Proofs.YthgoeiegdhphjaaGreatDoor
