/- The document's side of signatures: its group, its bytes, its challenge. -/
import Derived.Test.YtdebccghjbfgdaaGreatDoorSgB
set_option maxRecDepth 1000000
set_option maxHeartbeats 16000000
set_option linter.unusedSimpArgs false
set_option linter.unusedVariables false
namespace Go.Proofs.YtdebccghjbfgdaaGreatDoor
open Go Go.RowKit Go.Proofs.YtdebccghjbfgdaaGreatDoor.Flow
theorem rbytes_blk (w:World) (p:Option Addr) (n c N s:Nat) (h:BitsAt w p n c N) (hs:s <= 1000000) (hN:blen N <= 1000000000) (h2:¬ s < bsize N) :
  Calls Tryz.prog 73 #[.slice p n c,.int .i64 s] w fun e w'=>e=.returned (.tuple #[.slice (some ⟨w.heap.size,0,none⟩) s s,.bool true]) /\ Blk w' w.heap.size 5 .u8 (beOf N s) /\ Below w.heap.size w w':=by
 have hl:n=blen N:=by have:=h.len; rwa [bitsOf_length] at this
 have hmk:=make_u8 s (by omega)
 have hsn:n <= 8 * s:=by unfold bsize at h2; omega
 have h3:¬ (s:Int) < ((n:Int) + 7) / 8:=by omega
 have hw7:IntKind.i64.wrap ((n:Int) + 7)=(n:Int) + 7:=IntWalk.i64_in _ (by omega)
 have hw8:IntKind.i64.wrap (((n:Int) + 7) / 8)=((n:Int) + 7) / 8:=IntWalk.i64_in _ (by omega)
 have HL:=Lib.hid hl
 have hn9:n <= 1000000000:=by omega
 clear hl h2
 go_enter Tryz.func73,Tryz.ntmps73
 go_wp2
 go_loopw [19] (fun i wr=>∃ k:Nat,k <= n /\ i=.int .i64 k /\ w.heap.size < wr.heap.size /\ Below w.heap.size w wr /\ Blk wr w.heap.size 5 .u8 (beOf (N % 2 ^ k) s)) (fun i _=>n - (intOf i).toNat)
 case atStart =>
  refine ⟨0,by omega,rfl,by simp,(Below.refl _ _).alloc (Nat.le_refl _) _,?_⟩
  have:=Blk.zeros w 5 .u8 s
  rw [Nat.pow_zero,Nat.mod_one,beOf_zero]
  exact this
 case round =>
  obtain ⟨k,hk,rfl,hsz,hbw,hblk⟩:=hrel
  by_cases hkn:k < n
  ·obtain ⟨b,off,rfl,hb,hc⟩:=h.pos (by omega)
   obtain ⟨x,hx⟩:∃ x,bit N k=x:=⟨_,rfl⟩
   have hci:wr.cell? ⟨b,off + k,none⟩=some (.bool x):=by
    rw [(bcell hbw).1 _ _ hb]
    exact hc k x (by rw [bitsOf_get (by rw [<- HL.out]; exact hkn),hx])
   have HX:=Lib.hid hx
   clear hc hx
   go_wp2
   ·have hxt:x=true:=by assumption
    have HB:Hid (N % 2 ^ (k + 1)=N % 2 ^ k + 2 ^ k):=Lib.hid (by rw [mod_bit,HX.out,if_pos hxt])
    have hMk:N % 2 ^ k < 2 ^ k:=Nat.mod_lt _ (Nat.pow_pos (by omega))
    obtain ⟨q,hq⟩:∃ q,k / 8=q:=⟨_,rfl⟩
    obtain ⟨r,hr⟩:∃ r,k % 8=r:=⟨_,rfl⟩
    have hqs:q < s:=by omega
    obtain ⟨j,hj⟩:∃ j,s - 1 - q=j:=⟨_,rfl⟩
    obtain ⟨z,hz⟩:∃ z,2 ^ r=z:=⟨_,rfl⟩
    have hset:=beOf_bit (n:=s) hMk (by omega) (j:=j) (by omega)
    have hget:=beOf_get (M:=N % 2 ^ k) hqs hj.symm
    have hlt:=(leOf_bit (n:=s) hMk (by omega)).1
    rw [hq,hr] at hset hlt
    obtain ⟨d,hd⟩:∃ d,N % 2 ^ k / B8 q % 256=d:=⟨_,rfl⟩
    rw [hd] at hset hget hlt
    rw [hz] at hset hlt
    have hr8:r < 8:=by omega
    have hz8:z <= 128:=by rw [<- hz]; exact Nat.pow_le_pow_right (show 0 < 2 by omega) (show r <= 7 by omega)
    have t1:IntKind.i64.wrap ((k:Int) / 8)=(q:Int):=by rw [IntWalk.i64_in _ (by omega)]; omega
    have t2:(k:Int).tmod 8=(r:Int):=by rw [Int.tmod_eq_emod_of_nonneg (by omega)]; omega
    have t4:IntKind.i64.wrap ((s:Int) - 1)=(s:Int) - 1:=IntWalk.i64_in _ (by omega)
    have t5:IntKind.i64.wrap ((s:Int) - 1 - q)=(j:Nat):=by
     rw [IntWalk.i64_in _ (by omega)]; omega
    have t6:(j:Int) < s:=by omega
    have t7:j < s:=by omega
    have t8:IntKind.u8.wrap ((d:Int) + z)=(d:Int) + z:=IntWalk.u8_in _ (by omega)
    have t9:IntKind.u8.wrap ((2:Int) ^ r)=z:=by
     rw [show ((2:Int) ^ r)=(z:Nat) by rw [<- hz,Int.natCast_pow]; rfl]
     exact IntWalk.u8_in _ (by omega)
    clear hq hr hd hj hMk
    have HJ:=Lib.hid hz
    clear hz
    refine wp_region_duties (by kernel_rfl) (by kernel_rfl)
     [some (.slice (some ⟨w.heap.size,0,none⟩) s s),some (.int .i64 s),some (.int .i64 ((s:Int) - 1)),some (.int .i64 k),some (.int .i64 (q:Nat)),some (.int .i64 (j:Nat)),some (.pointer (some ⟨w.heap.size,j,none⟩)),some (.int .u8 (d:Nat)),
      some (.int .i64 k),some (.int .i64 (r:Nat)),some (.int .u8 (z:Nat)),some (.int .u8 (d + z:Nat)),some (.pointer (some ⟨w.heap.size,j,none⟩)),none]
     [false,false,false,false,false,false,false,false,false,false,false,false,false,true] rfl
     (fun _ _=>True)
     (fun D w'=>Below w.heap.size w w' /\ w.heap.size < w'.heap.size /\ Blk w' w.heap.size 5 .u8 (if D 13 then beOf (N % 2 ^ k + 2 ^ k) s else beOf (N % 2 ^ k) s))
     (fun _ _ _=>True)
     (fun _ _ _ _ h _=>h) ⟨hbw.trans ((Below.refl _ _).drew.mono (Nat.le_refl _)),hsz,hblk⟩ ?_ ?_
    ·simp only [Duties,Nat.reduceAdd]
     refine ⟨?_,?_,?_,?_,?_,?_,?_,?_,?_,?_,?_,?_,?_,?_,trivial⟩
     case refine_8 =>
      intro D sp w' hD hW hdp ⟨hb',hsz',hblk'⟩
      have h13:D 13=false:=hW 13 (mq (by kernel_rfl))
      rw [h13] at hblk'
      simp only [Bool.false_eq_true,if_false] at hblk'
      have hcl:w'.cell? ⟨w.heap.size,j,none⟩=some (.int .u8 (d:Nat)):=hblk'.cell hget
      simp [asked,Region.wanted,Oper.gives,execOp,Act.eval,Act.put,go_sem,hcl]
     case refine_14 =>
      intro D sp w' hD hW hdp ⟨hb',hsz',hblk'⟩
      rw [hD] at hblk'
      simp only [Bool.false_eq_true,if_false] at hblk'
      have hcl:w'.cell? ⟨w.heap.size,j,none⟩=some (.int .u8 (d:Nat)):=hblk'.cell hget
      have hfr:=hblk'.free j
      (with_reducible refine asked_skip (w1:=w'.setCell ⟨w.heap.size,j,none⟩ (.int .u8 (d + z:Nat))) ?_ ?_ ?_)
      ·simp only [Region.wanted]
      ·simp [execOp,Act.eval,Act.put,go_sem,hcl,hfr]
      ·refine ⟨trivial,trivial,hb'.setCell (Nat.le_refl _) _,by simpa using hsz',?_⟩
       simp only [decide_true,Bool.or_true,if_true]
       rw [<- hset]
       exact hblk'.set _ _
     all_goals
      intro D sp w' hD hW hdp ⟨hb',hsz',hblk'⟩
      simp [asked,Region.wanted,Oper.gives,execOp,Act.eval,Act.put,go_sem,t1,t2,t4,t5,t6,t8,t9]
    ·intro sp w' hsp ⟨hb',hsz',hblk'⟩
     have hblk2:Blk w' w.heap.size 5 .u8 (beOf (N % 2 ^ k + 2 ^ k) s):=hblk'
     clear hblk' hsp t1 t2 t4 t5 t6 t8 t9
     simp only [frameOf,Nat.reduceAdd]
     go_simp
     go_wp2
     go_roundw
     case rel=>exact ⟨k + 1,by omega,by go_num,hsz',hb',by rw [HB.out]; exact hblk2⟩
     case measure=>simp [intOf]; omega
   ·have hxt:x=false:=by assumption
    have HB:Hid (N % 2 ^ (k + 1)=N % 2 ^ k):=Lib.hid (by rw [mod_bit,HX.out,if_neg (by simp [hxt]),Nat.add_zero])
    go_roundw
    case rel=>exact ⟨k + 1,by omega,by go_num,hsz,hbw,by rw [HB.out]; exact hblk⟩
    case measure=>simp [intOf]; omega
  ·have HK:Hid (k=n):=Lib.hid (by omega)
   go_wp2
   go_ret2
   have e:N % 2 ^ k=N:=Nat.mod_eq_of_lt ((blen_le N k).1 (by rw [HK.out,HL.out]; exact Nat.le_refl _))
   rw [e] at hblk
   exact ⟨rfl,hblk,hbw⟩
theorem gfieldV_fit {w:World} {b P Q G H:Nat} (h:GroupAt w b P Q G H) :
  Calls Tryz.prog 19 #[.pointer (some ⟨b,0,none⟩)] w fun e w'=>∃ x,e=.returned x /\ FieldVal Q x w' /\ Below w.heap.size w w':=by
 refine (gfield_fit h).mono ?_
 rintro en w' ⟨r,rfl,hr,hb⟩
 exact ⟨_,rfl,⟨r,rfl,hr⟩,hb⟩
theorem ref9g_calls {w:World} {b P Q G H:Nat} (hg:GroupAt w b P Q G H) :
  Calls Tryz.prog 16 #[.pointer (some ⟨b,0,none⟩)] w fun e w'=>∃ x,e=.returned x /\ RefVal P Q G H x w' /\ Below w.heap.size w w':=by
 have hbx:Below w.heap.size w (w.alloc (.cells #[.slice none 0 0,.slice none 0 0,.slice none 0 0,.slice none 0 0] 30)):=bal
 have HBX:=hol (Box4.made 30 w (.slice none 0 0) (.slice none 0 0) (.slice none 0 0) (.slice none 0 0))
 obtain ⟨wa,hwa⟩:∃ wa,w.alloc (.cells #[.slice none 0 0,.slice none 0 0,.slice none 0 0,.slice none 0 0] 30)=wa:=⟨_,rfl⟩
 rw [hwa] at hbx HBX
 have HG:=hol (hg.below hbx)
 have HB:=hol hbx
 clear hg hbx
 go_enter Tryz.func16,Tryz.ntmps16
 go_wp2_with fail
 refine (gP_fit HG.out).mono ?_
 rintro en w1 ⟨x1,rfl,h1,b1⟩
 have H1:=hol h1
 have HG1:=hol (HG.out.below b1)
 have HB1:=hol b1
 clear h1 b1
 go_wp2_with fail
 refine (num9_calls H1.out (by decide)).mono ?_
 rintro en w2 ⟨_,rfl,⟨p0,n0,c0,rfl,h2⟩,b2⟩
 have H2:=hol h2
 have HG2:=hol (HG1.out.below b2)
 have HB2:=hol (bstep HB1.out b2)
 clear h2 b2
 go_wp2_with fail
 refine (gfieldV_fit HG2.out).mono ?_
 rintro en w3 ⟨x3,rfl,h3,b3⟩
 have H23:=hol (H2.out.below b3)
 have HG3:=hol (HG2.out.below b3)
 have HB3:=hol (bstep HB2.out b3)
 obtain ⟨r,rfl,hr3⟩:=h3.ex
 have H3:Hold (Ring w3 r Q 33):=⟨hr3⟩
 clear h3 hr3 b3
 go_wp2_with fail
 refine (modulus_fit H3.out).mono ?_
 rintro en w4 ⟨x4,rfl,h4,b4⟩
 have H24:=hol (H23.out.below b4)
 have H4:=hol h4
 have HG4:=hol (HG3.out.below b4)
 have HB4:=hol (bstep HB3.out b4)
 clear h4 b4
 go_wp2_with fail
 refine (num9_calls H4.out (by decide)).mono ?_
 rintro en w5 ⟨_,rfl,⟨p1,n1,c1,rfl,h5⟩,b5⟩
 have H25:=hol (H24.out.below b5)
 have H5:=hol h5
 have HG5:=hol (HG4.out.below b5)
 have HB5:=hol (bstep HB4.out b5)
 clear h5 b5
 go_wp2_with fail
 refine (gG_fit HG5.out).mono ?_
 rintro en w6 ⟨x6,rfl,h6,b6⟩
 have H26:=hol (H25.out.below b6)
 have H56:=hol (H5.out.below b6)
 have H6:=hol h6
 have HG6:=hol (HG5.out.below b6)
 have HB6:=hol (bstep HB5.out b6)
 clear h6 b6
 go_wp2_with fail
 refine (num9_calls H6.out (by decide)).mono ?_
 rintro en w7 ⟨_,rfl,⟨p2,n2,c2,rfl,h7⟩,b7⟩
 have H27:=hol (H26.out.below b7)
 have H57:=hol (H56.out.below b7)
 have H7:=hol h7
 have HG7:=hol (HG6.out.below b7)
 have HB7:=hol (bstep HB6.out b7)
 clear h7 b7
 go_wp2_with fail
 refine (gH_fit HG7.out).mono ?_
 rintro en w8 ⟨x8,rfl,h8,b8⟩
 have H28:=hol (H27.out.below b8)
 have H58:=hol (H57.out.below b8)
 have H78:=hol (H7.out.below b8)
 have H8:=hol h8
 have HB8:=hol (bstep HB7.out b8)
 clear h8 b8
 go_wp2_with fail
 refine (num9_calls H8.out (by decide)).mono ?_
 rintro en w9 ⟨_,rfl,⟨p3,n3,c3,rfl,h9⟩,b9⟩
 have H29:=hol (H28.out.below b9)
 have H59:=hol (H58.out.below b9)
 have H79:=hol (H78.out.below b9)
 have H9:=hol h9
 have HB9:=hol (bstep HB8.out b9)
 have hbx9:=HBX.out.below HB9.out HBX.out.lt
 have g0:=hbx9.cells.1
 have g1:=hbx9.cells.2.1
 have g2:=hbx9.cells.2.2.1
 have g3:=hbx9.cells.2.2.2
 have f0:=hbx9.free
 clear h9 b9
 go_wp2
 obtain ⟨wf,hwf⟩:∃ wf,wf=(((w9.setCell ⟨w.heap.size,0,none⟩ (.slice p0 n0 c0)).setCell ⟨w.heap.size,1,none⟩ (.slice p1 n1 c1)).setCell ⟨w.heap.size,2,none⟩ (.slice p2 n2 c2)).setCell ⟨w.heap.size,3,none⟩ (.slice p3 n3 c3):=⟨_,rfl⟩
 have hkp:KeptS w9 wf:=by rw [hwf]; exact kept_four (x0:=(none,0,0)) (x1:=(none,0,0)) (x2:=(none,0,0)) (x3:=(none,0,0)) hbx9 _ _ _ _
 have hst:=four_stores hbx9 hwf
 have e0:=hst.1.cells.1
 have e1:=hst.1.cells.2.1
 have e2:=hst.1.cells.2.2.1
 have e3:=hst.1.cells.2.2.2
 have hbf:=hst.2.2 w.heap.size w (bstep HB.out HB9.out) (Nat.le_refl _)
 rw [<- hwf]
 refine bodyPost_ret (v:=.agg #[.slice p0 n0 c0,.slice p1 n1 c1,.slice p2 n2 c2,.slice p3 n3 c3]) (by simp [results,Tryz.results16,go_sem,e0,e1,e2,e3]) rfl ⟨_,rfl,⟨p0,n0,c0,p1,n1,c1,p2,n2,c2,p3,n3,c3,rfl,bitsLike.kept H29.out hkp,bitsLike.kept H59.out hkp,bitsLike.kept H79.out hkp,bitsLike.kept H9.out hkp⟩,hbf⟩
def PartB (n:Nat) (bs:List Nat) (v:Value) (w:World):Prop:=∃ p c,v=.slice p n c /\ PartOk w ⟨p,n,c,bs⟩ /\ (p=none -> c=0)
theorem PartB.below {n:Nat} {bs:List Nat} {v:Value} {w w':World} (h:PartB n bs v w) (hb:Below w.heap.size w w'):PartB n bs v w' :=
 let ⟨p,c,h1,h2,h3⟩:=h
 ⟨p,c,h1,h2.below hb,h3⟩
theorem rbytes_fit {w:World} {N s:Nat} {v:Value} (h:RBits N v w) (hs:s <= 1000) (hN:N < B8 s) :
  Calls Tryz.prog 73 #[v,.int .i64 (s:Nat)] w fun en w'=>∃ g,en=.returned (.tuple #[.slice (some ⟨g,0,none⟩) s s,.bool true]) /\ Blk w' g 5 .u8 (beOf N s) /\ w.heap.size <= g /\ Below w.heap.size w w':=by
 obtain ⟨p,n,c,rfl,h1⟩:=h
 have hb:=bsize_le.2 hN
 have hl:blen N <= 8 * s:=by have:=hb; unfold bsize at this; omega
 refine (rbytes_blk w p n c N s h1 (by omega) (by omega) (by omega)).mono ?_
 rintro en w' ⟨rfl,hv,hbel⟩
 exact ⟨_,rfl,hv,Nat.le_refl _,hbel⟩
theorem dwidth_calls {w:World} {v:Value} {P Q G H:Nat} (h:RefVal P Q G H v w) (hl:blen Q <= 100000) :
  Calls Tryz.prog 102 #[v] w fun e w'=>e=.returned (.int .i64 (bsize Q:Nat)) /\ Below w.heap.size w w':=by
 obtain ⟨p0,n0,c0,p1,n1,c1,p2,n2,c2,p3,n3,c3,rfl,h0,h1,h2,h3⟩:=h.ex
 have hbx:Below w.heap.size w (w.alloc (.cells #[.slice p0 n0 c0,.slice p1 n1 c1,.slice p2 n2 c2,.slice p3 n3 c3] 30)):=bal
 have hbo:=Box4.made 30 w (.slice p0 n0 c0) (.slice p1 n1 c1) (.slice p2 n2 c2) (.slice p3 n3 c3)
 obtain ⟨wa,hwa⟩:∃ wa,w.alloc (.cells #[.slice p0 n0 c0,.slice p1 n1 c1,.slice p2 n2 c2,.slice p3 n3 c3] 30)=wa:=⟨_,rfl⟩
 rw [hwa] at hbx hbo
 have HB:=hol hbx
 have HBX:=hol hbo
 have HV:Hold (RefVal P Q G H (.agg #[.slice p0 n0 c0,.slice p1 n1 c1,.slice p2 n2 c2,.slice p3 n3 c3]) wa):=⟨⟨p0,n0,c0,p1,n1,c1,p2,n2,c2,p3,n3,c3,rfl,h0.below hbx,h1.below hbx,h2.below hbx,h3.below hbx⟩⟩
 have hn:=bits_len h1
 have HS:Hold (bsize Q=(n1 + 7) / 8):=⟨by unfold bsize; rw [hn]⟩
 have hn0:n1 <= 100000:=by omega
 have hdiv:((n1:Int) + 7).tdiv 8=(((n1 + 7) / 8:Nat):Int):=by rw [Int.tdiv_eq_ediv_of_nonneg (by omega)]; omega
 have c1':=HBX.out.cells.2.1
 clear h h0 h1 h2 h3 hn hbx hl hbo
 go_enter Tryz.func102,Tryz.ntmps102
 go_wp2
 go_ret
 exact ⟨by rw [HS.out]; simp,HB.out⟩
theorem dfixed_calls {w:World} {v u:Value} {P Q G H N:Nat} (h:RefVal P Q G H v w) (hu:RBits N u w) (hl:blen Q <= 100000) (hs:bsize Q <= 16) (hN:N < B8 (bsize Q)) :
  Calls Tryz.prog 54 #[v,u] w fun e w'=>∃ g,e=.returned (.slice (some ⟨g,0,none⟩) (bsize Q) (bsize Q)) /\ Blk w' g 5 .u8 (beOf N (bsize Q)) /\ w.heap.size <= g /\ Below w.heap.size w w':=by
 obtain ⟨p0,n0,c0,p1,n1,c1,p2,n2,c2,p3,n3,c3,rfl,h0,h1,h2,h3⟩:=h.ex
 have hbx:Below w.heap.size w (w.alloc (.cells #[.slice p0 n0 c0,.slice p1 n1 c1,.slice p2 n2 c2,.slice p3 n3 c3] 30)):=bal
 have hbo:=Box4.made 30 w (.slice p0 n0 c0) (.slice p1 n1 c1) (.slice p2 n2 c2) (.slice p3 n3 c3)
 obtain ⟨wa,hwa⟩:∃ wa,w.alloc (.cells #[.slice p0 n0 c0,.slice p1 n1 c1,.slice p2 n2 c2,.slice p3 n3 c3] 30)=wa:=⟨_,rfl⟩
 rw [hwa] at hbx hbo
 have HB:=hol hbx
 have HBX:=hol hbo
 have HV:Hold (RefVal P Q G H (.agg #[.slice p0 n0 c0,.slice p1 n1 c1,.slice p2 n2 c2,.slice p3 n3 c3]) wa):=⟨⟨p0,n0,c0,p1,n1,c1,p2,n2,c2,p3,n3,c3,rfl,h0.below hbx,h1.below hbx,h2.below hbx,h3.below hbx⟩⟩
 obtain ⟨q0,m0,d0,rfl,hu0⟩:=hu
 have HU:=hol (RBits.of (hu0.below hbx))
 have HN:=hol hN
 have HSl:=hol hs
 have g0:=HBX.out.cells.1
 have g1:=HBX.out.cells.2.1
 have g2:=HBX.out.cells.2.2.1
 have g3:=HBX.out.cells.2.2.2
 have HW:=hol (dwidth_calls HV.out hl)
 clear h h0 h1 h2 h3 hbx hl hbo hu0 hN hs
 go_enter Tryz.func54,Tryz.ntmps54
 go_wp2_with fail
 refine HW.out.mono ?_
 rintro en w1 ⟨rfl,hb1⟩
 have HU1:=hol (HU.out.below hb1)
 have HB1:=hol (bstep HB.out hb1)
 clear hb1 g0 g1 g2 g3
 go_wp2_with fail
 refine (rbytes_fit HU1.out (by have:=HSl.out; omega) HN.out).mono ?_
 rintro en w2 ⟨x,rfl,hx,hg,hb2⟩
 have HX:=hol hx
 have HXG:Hold (w.heap.size <= x):=⟨Nat.le_trans HB1.out.size hg⟩
 have HB2:=hol (bstep HB1.out hb2)
 clear hx hb2 hg
 go_wp2
 go_ret
 exact ⟨x,rfl,HX.out,HXG.out,HB2.out⟩
theorem dgbytes_calls {w:World} {v u:Value} {P Q G H N:Nat} (h:RefVal P Q G H v w) (hu:RBits N u w) (hl:blen P <= 100000) (hs:bsize P <= 16) (hN:N < B8 (bsize P)) :
  Calls Tryz.prog 106 #[v,u] w fun e w'=>∃ g,e=.returned (.slice (some ⟨g,0,none⟩) (bsize P) (bsize P)) /\ Blk w' g 5 .u8 (beOf N (bsize P)) /\ w.heap.size <= g /\ Below w.heap.size w w':=by
 obtain ⟨p0,n0,c0,p1,n1,c1,p2,n2,c2,p3,n3,c3,rfl,h0,h1,h2,h3⟩:=h.ex
 have hbx:Below w.heap.size w (w.alloc (.cells #[.slice p0 n0 c0,.slice p1 n1 c1,.slice p2 n2 c2,.slice p3 n3 c3] 30)):=bal
 have hbo:=Box4.made 30 w (.slice p0 n0 c0) (.slice p1 n1 c1) (.slice p2 n2 c2) (.slice p3 n3 c3)
 obtain ⟨wa,hwa⟩:∃ wa,w.alloc (.cells #[.slice p0 n0 c0,.slice p1 n1 c1,.slice p2 n2 c2,.slice p3 n3 c3] 30)=wa:=⟨_,rfl⟩
 rw [hwa] at hbx hbo
 have HB:=hol hbx
 have HBX:=hol hbo
 have HV:Hold (RefVal P Q G H (.agg #[.slice p0 n0 c0,.slice p1 n1 c1,.slice p2 n2 c2,.slice p3 n3 c3]) wa):=⟨⟨p0,n0,c0,p1,n1,c1,p2,n2,c2,p3,n3,c3,rfl,h0.below hbx,h1.below hbx,h2.below hbx,h3.below hbx⟩⟩
 obtain ⟨q0,m0,d0,rfl,hu0⟩:=hu
 have HU:=hol (RBits.of (hu0.below hbx))
 have HN:=hol hN
 have HSl:=hol hs
 have g0:=HBX.out.cells.1
 have g1:=HBX.out.cells.2.1
 have g2:=HBX.out.cells.2.2.1
 have g3:=HBX.out.cells.2.2.2
 have HW:=hol (dsize_calls HV.out hl)
 clear h h0 h1 h2 h3 hbx hl hbo hu0 hN hs
 go_enter Tryz.func106,Tryz.ntmps106
 go_wp2_with fail
 refine HW.out.mono ?_
 rintro en w1 ⟨rfl,hb1⟩
 have HU1:=hol (HU.out.below hb1)
 have HB1:=hol (bstep HB.out hb1)
 clear hb1 g0 g1 g2 g3
 go_wp2_with fail
 refine (rbytes_fit HU1.out (by have:=HSl.out; omega) HN.out).mono ?_
 rintro en w2 ⟨x,rfl,hx,hg,hb2⟩
 have HX:=hol hx
 have HXG:Hold (w.heap.size <= x):=⟨Nat.le_trans HB1.out.size hg⟩
 have HB2:=hol (bstep HB1.out hb2)
 clear hx hb2 hg
 go_wp2
 go_ret
 exact ⟨x,rfl,HX.out,HXG.out,HB2.out⟩
theorem dgexp_calls {w:World} {v u t:Value} {P Q G H A E:Nat} (h:RefVal P Q G H v w) (hu:RBits A u w) (ht:RBits E t w) (lA:blen A <= 100000) (lE:blen E <= 100000) (lP:blen P <= 100000) (hP:0 < P) :
  Calls Tryz.prog 78 #[v,u,t] w fun e w'=>∃ x,e=.returned x /\ RBits (A ^ E % P) x w' /\ Below w.heap.size w w':=by
 obtain ⟨p0,n0,c0,p1,n1,c1,p2,n2,c2,p3,n3,c3,rfl,h0,h1,h2,h3⟩:=h.ex
 have hbx:Below w.heap.size w (w.alloc (.cells #[.slice p0 n0 c0,.slice p1 n1 c1,.slice p2 n2 c2,.slice p3 n3 c3] 30)):=bal
 have hbo:=Box4.made 30 w (.slice p0 n0 c0) (.slice p1 n1 c1) (.slice p2 n2 c2) (.slice p3 n3 c3)
 obtain ⟨wa,hwa⟩:∃ wa,w.alloc (.cells #[.slice p0 n0 c0,.slice p1 n1 c1,.slice p2 n2 c2,.slice p3 n3 c3] 30)=wa:=⟨_,rfl⟩
 rw [hwa] at hbx hbo
 have HB:=hol hbx
 have HBX:=hol hbo
 have HV:Hold (RefVal P Q G H (.agg #[.slice p0 n0 c0,.slice p1 n1 c1,.slice p2 n2 c2,.slice p3 n3 c3]) wa):=⟨⟨p0,n0,c0,p1,n1,c1,p2,n2,c2,p3,n3,c3,rfl,h0.below hbx,h1.below hbx,h2.below hbx,h3.below hbx⟩⟩
 obtain ⟨q0,m0,d0,rfl,hu0⟩:=hu
 obtain ⟨q1,m1,d1,rfl,ht0⟩:=ht
 have HC:=hol (dexp_fit (RBits.of (hu0.below hbx)) (RBits.of (ht0.below hbx)) (RBits.of (h0.below hbx)) lA lE lP hP)
 have g0:=HBX.out.cells.1
 clear h h0 h1 h2 h3 hbx hbo hu0 ht0 lA lE lP hP
 go_enter Tryz.func78,Tryz.ntmps78
 go_wp2_with fail
 refine HC.out.mono ?_
 rintro en w1 ⟨x,rfl,hx,hb1⟩
 have HX:=hol hx
 have HB1:=hol (bstep HB.out hb1)
 clear hx hb1 g0
 go_wp2
 go_ret
 exact ⟨x,rfl,HX.out,HB1.out⟩
structure KC (B:Nat) (w w':World):Prop where
 bel:Below B w w'
 cell:∀ p v,w.cell? p=some v -> w'.cell? p=some v
 shape:∀ g s,w.shape? g=some s -> w'.shape? g=some s
theorem shape_below {w w':World} (h:Below w.heap.size w w') {g:Nat} {s:TypeId × Nat} (hs:w.shape? g=some s):w'.shape? g=some s:=by
 have hg:g < w.heap.size:=by
  rcases Nat.lt_or_ge g w.heap.size with k | k
  ·exact k
  ·unfold World.shape? at hs
   rw [Array.getElem?_eq_none k] at hs
   cases hs
 unfold World.shape? at *
 rw [h.block g hg]
 exact hs
theorem cell_below {w w':World} (h:Below w.heap.size w w') {p:Addr} {v:Value} (hp:w.cell? p=some v):w'.cell? p=some v:=by
 have hg:p.block < w.heap.size:=by
  rcases Nat.lt_or_ge p.block w.heap.size with k | k
  ·exact k
  ·unfold World.cell? at hp
   rw [Array.getElem?_eq_none k] at hp
   cases hp
 rw [h.cell (p:=p) hg]
 exact hp
theorem KC.of {B:Nat} {w w':World} (h:Below w.heap.size w w') (hB:B <= w.heap.size):KC B w w':=⟨h.mono hB,fun p v hp=>cell_below h hp,fun _ _ hs=>shape_below h hs⟩
theorem KC.same (B:Nat) (w:World):KC B w w:=⟨Below.refl _ _,fun _ _ h=>h,fun _ _ h=>h⟩
theorem KC.trans {B:Nat} {w1 w2 w3:World} (h:KC B w1 w2) (k:KC B w2 w3):KC B w1 w3:=⟨h.bel.trans k.bel,fun p v x=>k.cell p v (h.cell p v x),fun g s x=>k.shape g s (h.shape g s x)⟩
theorem KC.drew (B:Nat) (w:World):KC B w w.drew:=⟨(Below.refl _ _).drew,fun _ _ h=>h,fun _ _ h=>h⟩
theorem freeze_cell (w:World) (a:Addr) (n:Nat) (p:Addr):(w.freeze a n).cell? p=w.cell? p:=by
 unfold World.freeze
 split
 ·rfl
 ·unfold World.cell?
  simp only [Array.getElem?_modify]
  by_cases h:a.block=p.block
  ·simp only [h,if_true]
   cases w.heap[p.block]? with
   | none=>rfl
   | some o=>cases o <;> rfl
  ·simp only [h,if_false]
theorem freeze_shape (w:World) (a:Addr) (n:Nat) (g:Nat):(w.freeze a n).shape? g=w.shape? g:=by
 unfold World.freeze
 split
 ·rfl
 ·unfold World.shape?
  simp only [Array.getElem?_modify]
  by_cases h:a.block=g
  ·simp only [h,if_true]
   cases w.heap[g]? with
   | none=>rfl
   | some o=>cases o <;> rfl
  ·simp only [h,if_false]
theorem KC.mark {B g:Nat} {w:World} (k:Nat) (hB:B <= g):KC B w (w.freeze ⟨g,k,none⟩ 1) :=
 ⟨⟨rfl,rfl,rfl,by simp [World.freeze],fun j hj=>by
  unfold World.freeze
  simp only [Nat.one_ne_zero,if_false,Array.getElem?_modify]
  rw [if_neg (by omega)]⟩,fun p v h=>by rw [freeze_cell]; exact h,fun j s h=>by rw [freeze_shape]; exact h⟩
theorem run_mark {w:World} {g n c k:Nat} (hs:w.shape? g=some (5,k)):(convert 70 70 (.slice (some ⟨g,0,none⟩) n c)).run Tryz.prog w=.ok (.slice (some ⟨g,0,none⟩) n c) (w.freeze ⟨g,k,none⟩ 1):=by
 simp [convert,run_underlying Tryz.underlying70,run_underlying Tryz.underlying5,markStringish,hs]
theorem Row.kc {B:Nat} {w w':World} {k:IntKind} {p:Option Addr} {n c:Nat} {xs:List Nat} (h:Row w k p n c xs) (hk:KC B w w'):Row w' k p n c xs:=by
 refine ⟨h.len,h.cap,h.max,?_⟩
 rcases h.at_ with h1 | ⟨b,off,h1,h2,h3⟩
 ·exact .inl h1
 ·exact .inr ⟨b,off,h1,Nat.lt_of_lt_of_le h2 hk.bel.size,fun i x hx=>hk.cell _ _ (h3 i x hx)⟩
theorem PartOk.kc {B:Nat} {w w':World} {P:Part} (h:PartOk w P) (hk:KC B w w'):PartOk w' P:=⟨⟨h.row.len,h.row.cap,h.row.max,fun h0=>(h.row.row h0).kc hk⟩,h.bytes⟩
theorem RBits.kc {N B:Nat} {v:Value} {w w':World} (h:RBits N v w) (hk:KC B w w'):RBits N v w':=by
 obtain ⟨q,m,d,rfl,hb⟩:=h
 refine RBits.of ⟨hb.len,hb.cap,hb.max,?_⟩
 rcases hb.at_ with h1 | ⟨b,off,h1,h2,h3⟩
 ·exact .inl h1
 ·exact .inr ⟨b,off,h1,Nat.lt_of_lt_of_le h2 hk.bel.size,fun i x hx=>hk.cell _ _ (h3 i x hx)⟩
theorem PartsIn.kc {B:Nat} {w w':World} {p:Option Addr} {n c:Nat} {L:List Part} (h:PartsIn w p n c L) (hk:KC B w w'):PartsIn w' p n c L :=
 ⟨h.len,h.cap,h.max,fun i P hP=>(h.ok i P hP).kc hk,fun h0=>by
  obtain ⟨b,off,h1,h2,h3⟩:=h.cells h0
  exact ⟨b,off,h1,Nat.lt_of_lt_of_le h2 hk.bel.size,fun i P hP=>hk.cell _ _ (h3 i P hP)⟩⟩
theorem PartB.kc {n B:Nat} {bs:List Nat} {v:Value} {w w':World} (h:PartB n bs v w) (hk:KC B w w'):PartB n bs v w' :=
 let ⟨p,c,h1,h2,h3⟩:=h
 ⟨p,c,h1,h2.kc hk,h3⟩
def LitS (B:Nat) (v:Value) (w:World):Prop:=∃ g,v=.slice (some ⟨g,0,none⟩) 4 4 /\ w.shape? g=some (5,4) /\ PartOk w ⟨some ⟨g,0,none⟩,4,4,signW⟩ /\ B <= g
theorem LitS.kc {B C:Nat} {v:Value} {w w':World} (h:LitS B v w) (hk:KC C w w'):LitS B v w' :=
 let ⟨g,h1,h2,h3,h4⟩:=h
 ⟨g,h1,hk.shape _ _ h2,h3.kc hk,h4⟩
theorem litS_made {B:Nat} (w:World) (hB:B <= w.heap.size):LitS B (.slice (some ⟨w.heap.size,0,none⟩) 4 4) (w.alloc (.cells #[.int .u8 115,.int .u8 105,.int .u8 103,.int .u8 110] 5)):=by
 have h1:(w.alloc (.cells #[.int .u8 115,.int .u8 105,.int .u8 103,.int .u8 110] 5)).heap[w.heap.size]? = some (.cells #[.int .u8 115,.int .u8 105,.int .u8 103,.int .u8 110] 5 (0,0)):=heap_alloc_new w _
 exact ⟨w.heap.size,rfl,by unfold World.shape?; rw [h1]; rfl,⟨marked_rowM (bs:=signW) h1 rfl (by decide:4 <= 9223372036854775807),(by decide:∀ x ∈ signW,x < 256)⟩,hB⟩
def PartsS (A Y sz:Nat) (msg:List Nat) (v:Value) (w:World):Prop:=∃ (q:Nat) (L:List Part),v=.slice (some ⟨q,0,none⟩) 4 4 /\ PartsIn w (some ⟨q,0,none⟩) 4 4 L /\ Whole0 L /\ L.map (·.bs)=[signW,beOf A sz,beOf Y sz,msg]
theorem PartsS.kc {A Y sz B:Nat} {msg:List Nat} {v:Value} {w w':World} (h:PartsS A Y sz msg v w) (hk:KC B w w'):PartsS A Y sz msg v w' :=
 let ⟨q,L,h1,h2,h3,h4⟩:=h
 ⟨q,L,h1,h2.kc hk,h3,h4⟩
theorem whole4 {P Q R S:Part} (h1:P.p=none -> P.c=0) (h2:Q.p=none -> Q.c=0) (h3:R.p=none -> R.c=0) (h4:S.p=none -> S.c=0):Whole0 [P,Q,R,S]:=fun X hX=>by
 simp only [List.mem_cons,List.not_mem_nil,or_false] at hX
 rcases hX with rfl | rfl | rfl | rfl
 ·exact h1
 ·exact h2
 ·exact h3
 ·exact h4
theorem dgb {w:World} {v u:Value} {P Q G H N sz:Nat} (h:RefVal P Q G H v w) (hu:RBits N u w) (hl:blen P <= 100000) (hsz:bsize P=sz) (hs:sz <= 16) (hN:N < B8 sz) :
  Calls Tryz.prog 106 #[v,u] w fun e w'=>∃ x,e=.returned x /\ PartB sz (beOf N sz) x w' /\ Below w.heap.size w w':=by
 subst hsz
 refine (dgbytes_calls h hu hl hs hN).mono ?_
 rintro en w' ⟨g,rfl,hb,_,hbel⟩
 exact ⟨_,rfl,⟨_,_,rfl,blk_part hb (by omega),fun h=>by cases h⟩,hbel⟩
theorem said4 (sz:Nat) (A Y:Nat) (msg:List Nat):(saidOf [signW,beOf A sz,beOf Y sz,msg]).length=36 + 2 * sz + msg.length:=by
 simp [saidOf,le8_length,beOf_length,signW]
 omega
theorem dsch_calls {w:World} {v u t:Value} {P Q G H A Y nm cm:Nat} {pm:Option Addr} {msg:List Nat} (h:RefVal P Q G H v w) (hu:RBits A u w) (ht:RBits Y t w) (hA:A < P) (hY:Y < P) (lP:blen P <= 100000) (lQ:blen Q <= 100000) (hQ:0 < Q) (hs:bsize P <= 16) (hm:PartOk w ⟨pm,nm,cm,msg⟩) (hz:pm=none -> cm=0) (hn:nm <= 1000) :
  Calls Tryz.prog 55 #[v,u,t,.slice pm nm cm] w fun e w'=>∃ x,e=.returned x /\ RBits (sigCh P Q A Y msg) x w' /\ Below w.heap.size w w':=by
 obtain ⟨p0,n0,c0,p1,n1,c1,p2,n2,c2,p3,n3,c3,rfl,h0,h1,h2,h3⟩:=h.ex
 have hbx:Below w.heap.size w (w.alloc (.cells #[.slice p0 n0 c0,.slice p1 n1 c1,.slice p2 n2 c2,.slice p3 n3 c3] 30)):=bal
 have hbo:=Box4.made 30 w (.slice p0 n0 c0) (.slice p1 n1 c1) (.slice p2 n2 c2) (.slice p3 n3 c3)
 obtain ⟨wa,hwa⟩:∃ wa,w.alloc (.cells #[.slice p0 n0 c0,.slice p1 n1 c1,.slice p2 n2 c2,.slice p3 n3 c3] 30)=wa:=⟨_,rfl⟩
 rw [hwa] at hbx hbo
 have HB:=hol hbx
 have HBX:=hol hbo
 have HV:Hold (RefVal P Q G H (.agg #[.slice p0 n0 c0,.slice p1 n1 c1,.slice p2 n2 c2,.slice p3 n3 c3]) wa):=⟨⟨p0,n0,c0,p1,n1,c1,p2,n2,c2,p3,n3,c3,rfl,h0.below hbx,h1.below hbx,h2.below hbx,h3.below hbx⟩⟩
 obtain ⟨pa,na,ca,rfl,hu0⟩:=hu
 obtain ⟨py,ny,cy,rfl,ht0⟩:=ht
 have hsz1:wa.heap.size=w.heap.size + 1:=by rw [<- hwa]; simp
 have HSB:Hold (∀ {w':World},KC (w.heap.size + 1) wa w' -> w.heap.size + 1 <= w'.heap.size):=⟨fun hk=>by have:=hk.bel.size; omega⟩
 have HV:Hold (RefVal P Q G H (.agg #[.slice p0 n0 c0,.slice p1 n1 c1,.slice p2 n2 c2,.slice p3 n3 c3]) wa):=HV
 have HA:=hol (RBits.of (hu0.below hbx))
 have HY:=hol (RBits.of (ht0.below hbx))
 have HM:=hol (hm.below hbx)
 have HZM:=hol hz
 have HQB:=hol (h1.below hbx)
 have HQ0:=hol hQ
 have HQl:Hold (blen Q <= 900000):=⟨by omega⟩
 have HPl:=hol lP
 have hlm:=bsize_lt P
 obtain ⟨sz,hsz⟩:∃ s,bsize P=s:=⟨_,rfl⟩
 have HCH0:Hold (be (sha (saidOf [signW,beOf A sz,beOf Y sz,msg])) % Q=sigCh P Q A Y msg):=⟨by rw [<- hsz]; rfl⟩
 obtain ⟨CH,hCH⟩:∃ C,sigCh P Q A Y msg=C:=⟨_,rfl⟩
 rw [hCH] at HCH0 ⊢
 have HCH:Hold _:=HCH0
 rw [hsz] at hs hlm
 have HSZ:=hol hsz
 have HSs:=hol hs
 have HLM:Hold (A < B8 sz /\ Y < B8 sz):=⟨by omega,by omega⟩
 have HMX:Hold ((saidOf [signW,beOf A sz,beOf Y sz,msg]).length <= 1000000):=⟨by
  have h9:=hm.row.len
  dsimp only at h9
  rw [said4]; omega⟩
 clear h h0 h1 h2 h3 hbx hbo hu0 ht0 hA hY lP lQ hQ hs hm hz hn hCH hlm hsz HCH0
 go_enter Tryz.func55,Tryz.ntmps55
 go_wp2
 refine wp_region_duties (by kernel_rfl) (by kernel_rfl)
  [some (.agg #[.slice p0 n0 c0,.slice p1 n1 c1,.slice p2 n2 c2,.slice p3 n3 c3]),none,none,some (.agg #[.slice p0 n0 c0,.slice p1 n1 c1,.slice p2 n2 c2,.slice p3 n3 c3]),some (.slice pa na ca),none,some (.agg #[.slice p0 n0 c0,.slice p1 n1 c1,.slice p2 n2 c2,.slice p3 n3 c3]),some (.slice py ny cy),none,some (.slice pm nm cm),none,none,none]
  [false,true,true,false,false,true,false,false,true,false,true,true,true] rfl
  (fun w1 w2=>KC (w.heap.size + 1) w1 w2)
  (fun D w'=>KC (w.heap.size + 1) wa w')
  (fun i v w'=>match i with
   | 1=>LitS (w.heap.size + 1) v w'
   | 2=>LitS (w.heap.size + 1) v w'
   | 5=>PartB sz (beOf A sz) v w'
   | 8=>PartB sz (beOf Y sz) v w'
   | 10=>PartsS A Y sz msg v w'
   | 11=>RBits CH v w'
   | 12=>RBits CH v w'
   | _=>True)
  ?_ (KC.drew _ _) ?_ ?_
 ·intro i v w1 w2 hf hb
  split at hf
  ·exact hf.kc hb
  ·exact hf.kc hb
  ·exact hf.kc hb
  ·exact hf.kc hb
  ·exact hf.kc hb
  ·exact hf.kc hb
  ·exact hf.kc hb
  ·trivial
 ·simp only [Duties,Nat.reduceAdd]
  refine ⟨?_,?_,?_,?_,?_,?_,?_,?_,?_,?_,?_,?_,?_,trivial⟩
  all_goals intro D sp w' hD hW hdp hbx'
  case refine_1 | refine_4 | refine_7 =>
   have hB4:=HBX.out.below (hsz1 ▸ hbx'.bel) HBX.out.lt
   have g0:=hB4.cells.1
   have g1:=hB4.cells.2.1
   have g2:=hB4.cells.2.2.1
   have g3:=hB4.cells.2.2.2
   with_reducible refine asked_pl ?_ ?_
   all_goals simp [Region.wanted,yielded,execOp,Act.eval,Act.put,go_sem,g0,g1,g2,g3]
  case refine_2 =>
   (with_reducible refine asked_value (w1:=w'.alloc (.cells #[.int .u8 115,.int .u8 105,.int .u8 103,.int .u8 110] 5)) (v:=.slice (some ⟨w'.heap.size,0,none⟩) 4 4) ?_ ?_ ?_)
   ·simp only [Region.wanted]
   ·simp [execOp,Act.eval,go_sem]
   ·have hbl:Below w'.heap.size w' (w'.alloc (.cells #[.int .u8 115,.int .u8 105,.int .u8 103,.int .u8 110] 5)):=bal
    exact ⟨KC.of hbl (HSB.out hbx'),litS_made w' (HSB.out hbx'),hbx'.trans (KC.of hbl (HSB.out hbx'))⟩
  case refine_3 =>
   have hx1:∃ g,sp 1=.slice (some ⟨g,0,none⟩) 4 4 /\ w'.shape? g=some (5,4) /\ PartOk w' ⟨some ⟨g,0,none⟩,4,4,signW⟩ /\ w.heap.size + 1 <= g:=(hdp 1 (mq (by kernel_rfl))).2
   (with_reducible refine Exists.elim hx1 fun g e10=>?_)
   have h1:=e10.1
   have h7:=run_mark (w:=w') (n:=4) (c:=4) e10.2.1
   (with_reducible refine asked_value (w1:=w'.freeze ⟨g,4,none⟩ 1) (v:=.slice (some ⟨g,0,none⟩) 4 4) ?_ ?_ ?_)
   ·simp only [Region.wanted]
   ·simp [execOp,Act.eval,Act.put,go_sem,h1,h7]
   ·have hkc:=KC.mark (w:=w') (g:=g) (B:=w.heap.size + 1) 4 e10.2.2.2
    exact ⟨hkc,⟨g,rfl,hkc.shape _ _ e10.2.1,e10.2.2.1.kc hkc,e10.2.2.2⟩,hbx'.trans hkc⟩
  case refine_6 =>
   (with_reducible refine asked_call (w1:=w') (f := 106) (args:=#[.agg #[.slice p0 n0 c0,.slice p1 n1 c1,.slice p2 n2 c2,.slice p3 n3 c3],.slice pa na ca]) ?_ ?_ ?_)
   ·simp [Region.wanted,yielded,Act.put,go_sem]
   ·simp [Act.eval,Act.put,go_sem]
   ·refine (dgb (HV.out.below (hsz1 ▸ hbx'.bel)) (HA.out.below (hsz1 ▸ hbx'.bel)) HPl.out HSZ.out HSs.out HLM.out.1).mono ?_
    rintro en w9 ⟨u,rfl,hu,hb⟩
    exact ⟨u,rfl,KC.of hb (HSB.out hbx'),hu,hbx'.trans (KC.of hb (HSB.out hbx'))⟩
  case refine_9 =>
   (with_reducible refine asked_call (w1:=w') (f := 106) (args:=#[.agg #[.slice p0 n0 c0,.slice p1 n1 c1,.slice p2 n2 c2,.slice p3 n3 c3],.slice py ny cy]) ?_ ?_ ?_)
   ·simp [Region.wanted,yielded,Act.put,go_sem]
   ·simp [Act.eval,Act.put,go_sem]
   ·refine (dgb (HV.out.below (hsz1 ▸ hbx'.bel)) (HY.out.below (hsz1 ▸ hbx'.bel)) HPl.out HSZ.out HSs.out HLM.out.2).mono ?_
    rintro en w9 ⟨u,rfl,hu,hb⟩
    exact ⟨u,rfl,KC.of hb (HSB.out hbx'),hu,hbx'.trans (KC.of hb (HSB.out hbx'))⟩
  case refine_11 =>
   have hx2:∃ g,sp 2=.slice (some ⟨g,0,none⟩) 4 4 /\ w'.shape? g=some (5,4) /\ PartOk w' ⟨some ⟨g,0,none⟩,4,4,signW⟩ /\ w.heap.size + 1 <= g:=(hdp 2 (mq (by kernel_rfl))).2
   (with_reducible refine Exists.elim hx2 fun g e20=>?_)
   have hx5:∃ p c,sp 5=.slice p sz c /\ PartOk w' ⟨p,sz,c,beOf A sz⟩ /\ (p=none -> c=0):=(hdp 5 (mq (by kernel_rfl))).2
   (with_reducible refine Exists.elim hx5 fun p5 e50=>Exists.elim e50 fun c5 e51=>?_)
   have hx8:∃ p c,sp 8=.slice p sz c /\ PartOk w' ⟨p,sz,c,beOf Y sz⟩ /\ (p=none -> c=0):=(hdp 8 (mq (by kernel_rfl))).2
   (with_reducible refine Exists.elim hx8 fun p8 e80=>Exists.elim e80 fun c8 e81=>?_)
   have ea:=e20.1
   have eb:=e51.1
   have ec:=e81.1
   (with_reducible refine asked_value (w1:=w'.alloc (.cells #[.slice (some ⟨g,0,none⟩) 4 4,.slice p5 sz c5,.slice p8 sz c8,.slice pm nm cm] 70)) (v:=.slice (some ⟨w'.heap.size,0,none⟩) 4 4) ?_ ?_ ?_)
   ·simp only [Region.wanted]
   ·simp [execOp,Act.eval,Act.put,go_sem,ea,eb,ec]
   ·have hbl:Below w'.heap.size w' (w'.alloc (.cells #[.slice (some ⟨g,0,none⟩) 4 4,.slice p5 sz c5,.slice p8 sz c8,.slice pm nm cm] 70)):=bal
    have hp:=parts4 w' ⟨some ⟨g,0,none⟩,4,4,signW⟩ ⟨p5,sz,c5,beOf A sz⟩ ⟨p8,sz,c8,beOf Y sz⟩ ⟨pm,nm,cm,msg⟩ e20.2.2.1 e51.2.1 e81.2.1 (HM.out.below (hsz1 ▸ hbx'.bel))
    exact ⟨KC.of hbl (HSB.out hbx'),⟨w'.heap.size,_,rfl,hp,whole4 (fun h=>by cases h) e51.2.2 e81.2.2 HZM.out,rfl⟩,hbx'.trans (KC.of hbl (HSB.out hbx'))⟩
  case refine_12 =>
   have hx10:∃ (q:Nat) (L:List Part),sp 10=.slice (some ⟨q,0,none⟩) 4 4 /\ PartsIn w' (some ⟨q,0,none⟩) 4 4 L /\ Whole0 L /\ L.map (·.bs)=[signW,beOf A sz,beOf Y sz,msg]:=(hdp 10 (mq (by kernel_rfl))).2
   (with_reducible refine Exists.elim hx10 fun q e100=>Exists.elim e100 fun L e101=>?_)
   have h1:=e101.1
   (with_reducible refine asked_call (w1:=w') (f := 105) (args:=#[.agg #[.slice p0 n0 c0,.slice p1 n1 c1,.slice p2 n2 c2,.slice p3 n3 c3],.slice (some ⟨q,0,none⟩) 4 4]) ?_ ?_ ?_)
   ·simp only [Region.wanted]
   ·simp [Act.eval,Act.put,go_sem,h1]
   ·refine (dchal_calls w' p0 n0 c0 p1 n1 c1 Q p2 n2 c2 p3 n3 c3 (HQB.out.below (hsz1 ▸ hbx'.bel)) HQ0.out HQl.out _ 4 4 L e101.2.1 e101.2.2.1 (by rw [e101.2.2.2]; exact HMX.out)).mono ?_
    rintro en w9 ⟨u,rfl,hu,hb⟩
    rw [e101.2.2.2,HCH.out] at hu
    exact ⟨u,rfl,KC.of hb (HSB.out hbx'),hu,hbx'.trans (KC.of hb (HSB.out hbx'))⟩
  case refine_13 =>
   have k11:RBits CH (sp 11) w':=(hdp 11 (mq (by kernel_rfl))).2
   (with_reducible refine asked_value (w1:=w') (v:=sp 11) ?_ ?_ ?_)
   ·simp [Region.wanted,yielded,Act.put,go_sem]
   ·simp [execOp,Act.eval,Act.put,go_sem]
   ·exact ⟨KC.same _ _,k11,hbx'⟩
  all_goals ((with_reducible refine asked_pl ?_ ?_); all_goals first | (simp only [Region.wanted]; done) | simp [Region.wanted,yielded,execOp,Act.eval,Act.put,go_sem])
 ·intro sp w8 hsp hk
  have HX:Hold (RBits CH (sp 12) w8):=⟨hsp 12 rfl⟩
  have HBf:Hold (Below w.heap.size w w8):=⟨HB.out.trans (hk.bel.mono (by omega))⟩
  clear hsp hk
  simp only [frameOf,Nat.reduceAdd]
  generalize sp 1=y1,sp 2=y2,sp 5=y5,sp 8=y8,sp 10=y10,sp 11=y11,sp 12=y12 at *
  go_simp
  go_wp2
  go_ret
  exact ⟨_,rfl,HX.out,HBf.out⟩
end Go.Proofs.YtdebccghjbfgdaaGreatDoor
