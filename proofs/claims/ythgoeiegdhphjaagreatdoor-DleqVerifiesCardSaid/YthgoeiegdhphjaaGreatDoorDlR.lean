/- The document's challenge of a claim (ref12.Answer). -/
import Derived.Test.YthgoeiegdhphjaaGreatDoorDlA
set_option maxRecDepth 1000000
set_option maxHeartbeats 16000000
set_option linter.unusedSimpArgs false
set_option linter.unusedVariables false
namespace Go.Proofs.YthgoeiegdhphjaaGreatDoor
open Go Go.RowKit Go.Proofs.YthgoeiegdhphjaaGreatDoor.Flow
theorem bS (w:World)(p:Option Addr)(n c N s:Nat)(h:Bb w p n c N)(hs:s<=1000000)(hN:Al N<=1000000000)(h2:¬s<Am N) :
  Calls Tryz.prog 80 #[.slice p n c,.int .i64 s] w fun e w'=>e=.returned (.tuple #[.slice (some ⟨w.heap.size,0,none⟩) s s,.bool true])/\Bj w' w.heap.size 5 .u8 (Au N s)/\Below w.heap.size w w':=by
 have hl:n=Al N:=by have:=h.len;rwa [Bc]at this
 have hmk:=Rd s (by omega);have hsn:n<=8*s:=by unfold Am at h2;omega
 have h3:¬(s:Int)<((n:Int)+7)/8:=by omega
 have hw7:IntKind.i64.wrap ((n:Int)+7)=(n:Int)+7:=IntWalk.i64_in _ (by omega);have hw8:IntKind.i64.wrap (((n:Int)+7)/8)=((n:Int)+7)/8:=IntWalk.i64_in _ (by omega);have HL:=Lib.hid hl;have hn9:n<=1000000000:=by omega
 clear hl h2;go_enter Tryz.func80,Tryz.ntmps80;go_wp2
 go_loopw [19] (fun i wr=>∃k:Nat,k<=n/\i=.int .i64 k/\w.heap.size<wr.heap.size/\Below w.heap.size w wr/\Bj wr w.heap.size 5 .u8 (Au (N%2^k) s)) (fun i _=>n-(intOf i).toNat)
 case atStart =>
  refine⟨0,by omega,rfl,by simp,(Below.refl _ _).alloc (Nat.le_refl _) _,?_⟩;have:=Bj.zeros w 5 .u8 s;rw[Nat.pow_zero,Nat.mod_one,iT];exact this
 case round =>
  obtain⟨k,hk,rfl,hsz,hbw,hblk⟩:=hrel
  by_cases hkn:k<n
  .obtain⟨b,off,rfl,hb,hc⟩:=h.pos (by omega);obtain⟨x,hx⟩:∃x,bit N k=x:=⟨_,rfl⟩
   have hci:wr.cell? ⟨b,off+k,none⟩=some (.bool x):=by
    rw[(Bu hbw).1 _ _ hb];exact hc k x (by rw[Cz (by rw[<- HL.out];exact hkn),hx])
   have HX:=Lib.hid hx;clear hc hx;go_wp2
   .have hxt:x=true:=by assumption
    have HB:Hid (N%2^(k+1)=N%2^k+2^k):=Lib.hid (by rw[Ma,HX.out,if_pos hxt]);have hMk:N%2^k<2^k:=Nat.mod_lt _ (Nat.pow_pos (by omega));obtain⟨q,hq⟩:∃q,k/8=q:=⟨_,rfl⟩
    obtain⟨r,hr⟩:∃r,k%8=r:=⟨_,rfl⟩
    have hqs:q<s:=by omega
    obtain⟨j,hj⟩:∃j,s-1-q=j:=⟨_,rfl⟩
    obtain⟨z,hz⟩:∃z,2^r=z:=⟨_,rfl⟩
    have hset:=mS (n:=s) hMk (by omega) (j:=j) (by omega);have hget:=mR (M:=N%2^k) hqs hj.symm;have hlt:=(Zj (n:=s) hMk (by omega)).1;rw[hq,hr]at hset hlt
    obtain⟨d,hd⟩:∃d,N%2^k/B8 q%256=d:=⟨_,rfl⟩
    rw[hd]at hset hget hlt
    rw[hz]at hset hlt
    have hr8:r<8:=by omega
    have hz8:z<=128:=by rw[<- hz];exact Nat.pow_le_pow_right (show 0<2 by omega) (show r<=7 by omega)
    have t1:IntKind.i64.wrap ((k:Int)/8)=(q:Int):=by rw[IntWalk.i64_in _ (by omega)];omega
    have t2:(k:Int).tmod 8=(r:Int):=by rw[Int.tmod_eq_emod_of_nonneg (by omega)];omega
    have t4:IntKind.i64.wrap ((s:Int)-1)=(s:Int)-1:=IntWalk.i64_in _ (by omega);have t5:IntKind.i64.wrap ((s:Int)-1-q)=(j:Nat):=by
     rw[IntWalk.i64_in _ (by omega)];omega
    have t6:(j:Int)<s:=by omega
    have t7:j<s:=by omega
    have t8:IntKind.u8.wrap ((d:Int)+z)=(d:Int)+z:=IntWalk.u8_in _ (by omega);have t9:IntKind.u8.wrap ((2:Int)^r)=z:=by
     rw[show ((2:Int)^r)=(z:Nat) by rw[<- hz,Int.natCast_pow];rfl];exact IntWalk.u8_in _ (by omega)
    clear hq hr hd hj hMk;have HJ:=Lib.hid hz;clear hz;refine Ai (by kernel_rfl) (by kernel_rfl)
     [some (.slice (some ⟨w.heap.size,0,none⟩) s s),some (.int .i64 s),some (.int .i64 ((s:Int)-1)),some (.int .i64 k),some (.int .i64 (q:Nat)),some (.int .i64 (j:Nat)),some (.pointer (some ⟨w.heap.size,j,none⟩)),some (.int .u8 (d:Nat)),
      some (.int .i64 k),some (.int .i64 (r:Nat)),some (.int .u8 (z:Nat)),some (.int .u8 (d+z:Nat)),some (.pointer (some ⟨w.heap.size,j,none⟩)),none]
     [false,false,false,false,false,false,false,false,false,false,false,false,false,true] rfl
     (fun _ _=>True)
     (fun D w'=>Below w.heap.size w w'/\w.heap.size<w'.heap.size/\Bj w' w.heap.size 5 .u8 (if D 13 then Au (N%2^k+2^k) s else Au (N%2^k) s))
     (fun _ _ _=>True)
     (fun _ _ _ _ h _=>h) ⟨hbw.trans ((Below.refl _ _).drew.mono (Nat.le_refl _)),hsz,hblk⟩ ?_ ?_
    .simp only[Ba,Nat.reduceAdd];refine⟨?_,?_,?_,?_,?_,?_,?_,?_,?_,?_,?_,?_,?_,?_,trivial⟩
     case refine_8 =>
      intro D sp w' hD hW hdp ⟨hb',hsz',hblk'⟩;have h13:D 13=false:=hW 13 (mq (by kernel_rfl));rw[h13]at hblk'
      simp only[Bool.false_eq_true,if_false]at hblk';have hcl:w'.cell? ⟨w.heap.size,j,none⟩=some (.int .u8 (d:Nat)):=hblk'.cell hget;simp[asked,Region.wanted,Oper.gives,execOp,Act.eval,Act.put,go_sem,hcl]
     case refine_14 =>
      intro D sp w' hD hW hdp ⟨hb',hsz',hblk'⟩;rw[hD]at hblk'
      simp only[Bool.false_eq_true,if_false]at hblk';have hcl:w'.cell? ⟨w.heap.size,j,none⟩=some (.int .u8 (d:Nat)):=hblk'.cell hget;have hfr:=hblk'.free j
      (with_reducible refine Ao (w1:=w'.setCell ⟨w.heap.size,j,none⟩ (.int .u8 (d+z:Nat))) ?_ ?_ ?_)
      .simp only[Region.wanted]
      .simp[execOp,Act.eval,Act.put,go_sem,hcl,hfr]
      .refine⟨trivial,trivial,hb'.setCell (Nat.le_refl _) _,by simpa using hsz',?_⟩;simp only[decide_true,Bool.or_true,if_true];rw[<- hset];exact hblk'.set _ _
     all_goals
      intro D sp w' hD hW hdp ⟨hb',hsz',hblk'⟩;simp[asked,Region.wanted,Oper.gives,execOp,Act.eval,Act.put,go_sem,t1,t2,t4,t5,t6,t8,t9]
    .intro sp w' hsp ⟨hb',hsz',hblk'⟩;have hblk2:Bj w' w.heap.size 5 .u8 (Au (N%2^k+2^k) s):=hblk';clear hblk' hsp t1 t2 t4 t5 t6 t8 t9;simp only[An,Nat.reduceAdd]
     go_simp
     go_wp2;go_roundw
     case rel=>exact⟨k+1,by omega,by go_num,hsz',hb',by rw[HB.out];exact hblk2⟩
     case measure=>simp[intOf];omega
   .have hxt:x=false:=by assumption
    have HB:Hid (N%2^(k+1)=N%2^k):=Lib.hid (by rw[Ma,HX.out,if_neg (by simp[hxt]),Nat.add_zero]);go_roundw
    case rel=>exact⟨k+1,by omega,by go_num,hsz,hbw,by rw[HB.out];exact hblk⟩
    case measure=>simp[intOf];omega
  .have HK:Hid (k=n):=Lib.hid (by omega);go_wp2
   go_ret2
   have e:N%2^k=N:=Nat.mod_eq_of_lt ((Bd N k).1 (by rw[HK.out,HL.out];exact Nat.le_refl _));rw[e]at hblk
   exact⟨rfl,hblk,hbw⟩
theorem Pe {N:Nat}(h:Am N<=16):Al N<=100000:=by unfold Am at h;omega
theorem Dd {N M:Nat}(h:N<M)(hM:Am M<=16):Al N<=100000:=Nat.le_trans (Do (Nat.le_of_lt h)) (Pe hM)
theorem Zs {w:World}{b P Q G H:Nat}(h:Ax w b P Q G H) :
  Calls Tryz.prog 19 #[.pointer (some ⟨b,0,none⟩)] w fun e w'=>∃x,e=.returned x/\nJ Q x w'/\Below w.heap.size w w':=by
 refine(Mx h).mono ?_;rintro en w' ⟨r,rfl,hr,hb⟩;exact⟨_,rfl,⟨r,rfl,hr⟩,hb⟩
theorem Yr {w:World}{b P Q G H:Nat}(hg:Ax w b P Q G H) :
  Calls Tryz.prog 16 #[.pointer (some ⟨b,0,none⟩)] w fun e w'=>∃x,e=.returned x/\Cq P Q G H x w'/\Below w.heap.size w w':=by
 have hbx:Below w.heap.size w (w.alloc (.cells #[.slice none 0 0,.slice none 0 0,.slice none 0 0,.slice none 0 0] 30)):=Bt;have HBX:=Ac (Ce.made 30 w (.slice none 0 0) (.slice none 0 0) (.slice none 0 0) (.slice none 0 0));obtain⟨wa,hwa⟩:∃wa,w.alloc (.cells #[.slice none 0 0,.slice none 0 0,.slice none 0 0,.slice none 0 0] 30)=wa:=⟨_,rfl⟩
 rw[hwa]at hbx HBX
 have HG:=Ac (hg.below hbx);have HB:=Ac hbx;clear hg hbx;go_enter Tryz.func16,Tryz.ntmps16
 go_wp2_with fail
 refine(Wy HG.out).mono ?_;rintro en w1 ⟨x1,rfl,h1,b1⟩;have H1:=Ac h1;have HG1:=Ac (HG.out.below b1);have HB1:=Ac b1;clear h1 b1
 go_wp2_with fail
 refine(Ec H1.out (by decide)).mono ?_;rintro en w2 ⟨_,rfl,⟨p0,n0,c0,rfl,h2⟩,b2⟩;have H2:=Ac h2;have HG2:=Ac (HG1.out.below b2);have HB2:=Ac (Ae HB1.out b2);clear h2 b2
 go_wp2_with fail
 refine(Zs HG2.out).mono ?_;rintro en w3 ⟨x3,rfl,h3,b3⟩;have H23:=Ac (H2.out.below b3);have HG3:=Ac (HG2.out.below b3);have HB3:=Ac (Ae HB2.out b3);obtain⟨r,rfl,hr3⟩:=h3.ex;have H3:Aa (Ring w3 r Q 33):=⟨hr3⟩
 clear h3 hr3 b3
 go_wp2_with fail
 refine(Ed H3.out).mono ?_;rintro en w4 ⟨x4,rfl,h4,b4⟩;have H24:=Ac (H23.out.below b4);have H4:=Ac h4;have HG4:=Ac (HG3.out.below b4);have HB4:=Ac (Ae HB3.out b4);clear h4 b4
 go_wp2_with fail
 refine(Ec H4.out (by decide)).mono ?_;rintro en w5 ⟨_,rfl,⟨p1,n1,c1,rfl,h5⟩,b5⟩;have H25:=Ac (H24.out.below b5);have H5:=Ac h5;have HG5:=Ac (HG4.out.below b5);have HB5:=Ac (Ae HB4.out b5);clear h5 b5
 go_wp2_with fail
 refine(cY HG5.out).mono ?_;rintro en w6 ⟨x6,rfl,h6,b6⟩;have H26:=Ac (H25.out.below b6);have H56:=Ac (H5.out.below b6);have H6:=Ac h6;have HG6:=Ac (HG5.out.below b6);have HB6:=Ac (Ae HB5.out b6);clear h6 b6
 go_wp2_with fail
 refine(Ec H6.out (by decide)).mono ?_;rintro en w7 ⟨_,rfl,⟨p2,n2,c2,rfl,h7⟩,b7⟩;have H27:=Ac (H26.out.below b7);have H57:=Ac (H56.out.below b7);have H7:=Ac h7;have HG7:=Ac (HG6.out.below b7);have HB7:=Ac (Ae HB6.out b7);clear h7 b7
 go_wp2_with fail
 refine(lD HG7.out).mono ?_;rintro en w8 ⟨x8,rfl,h8,b8⟩;have H28:=Ac (H27.out.below b8);have H58:=Ac (H57.out.below b8);have H78:=Ac (H7.out.below b8);have H8:=Ac h8;have HB8:=Ac (Ae HB7.out b8);clear h8 b8
 go_wp2_with fail
 refine(Ec H8.out (by decide)).mono ?_;rintro en w9 ⟨_,rfl,⟨p3,n3,c3,rfl,h9⟩,b9⟩;have H29:=Ac (H28.out.below b9);have H59:=Ac (H58.out.below b9);have H79:=Ac (H78.out.below b9);have H9:=Ac h9;have HB9:=Ac (Ae HB8.out b9);have hbx9:=HBX.out.below HB9.out HBX.out.lt;have g0:=hbx9.cells.1;have g1:=hbx9.cells.2.1;have g2:=hbx9.cells.2.2.1;have g3:=hbx9.cells.2.2.2;have f0:=hbx9.free;clear h9 b9;go_wp2;obtain⟨wf,hwf⟩:∃wf,wf=(((w9.setCell ⟨w.heap.size,0,none⟩ (.slice p0 n0 c0)).setCell ⟨w.heap.size,1,none⟩ (.slice p1 n1 c1)).setCell ⟨w.heap.size,2,none⟩ (.slice p2 n2 c2)).setCell ⟨w.heap.size,3,none⟩ (.slice p3 n3 c3):=⟨_,rfl⟩
 have hkp:Gy w9 wf:=by rw[hwf];exact gV (x0:=(none,0,0)) (x1:=(none,0,0)) (x2:=(none,0,0)) (x3:=(none,0,0)) hbx9 _ _ _ _
 have hst:=Ii hbx9 hwf;have e0:=hst.1.cells.1;have e1:=hst.1.cells.2.1;have e2:=hst.1.cells.2.2.1;have e3:=hst.1.cells.2.2.2;have hbf:=hst.2.2 w.heap.size w (Ae HB.out HB9.out) (Nat.le_refl _);rw[<- hwf];refine bodyPost_ret (v:=.agg #[.slice p0 n0 c0,.slice p1 n1 c1,.slice p2 n2 c2,.slice p3 n3 c3]) (by simp[results,Tryz.results16,go_sem,e0,e1,e2,e3]) rfl ⟨_,rfl,⟨p0,n0,c0,p1,n1,c1,p2,n2,c2,p3,n3,c3,rfl,Oo.kept H29.out hkp,Oo.kept H59.out hkp,Oo.kept H79.out hkp,Oo.kept H9.out hkp⟩,hbf⟩
def Jk (n:Nat)(bs:List Nat)(v:Value)(w:World):Prop:=∃p c,v=.slice p n c/\Ar w ⟨p,n,c,bs⟩/\(p=none->c=0)
theorem Jk.below {n:Nat}{bs:List Nat}{v:Value}{w w':World}(h:Jk n bs v w)(hb:Below w.heap.size w w'):Jk n bs v w' :=
 let ⟨p,c,h1,h2,h3⟩:=h
 ⟨p,c,h1,h2.below hb,h3⟩
theorem Rz {w:World}{N s:Nat}{v:Value}(h:Ak N v w)(hs:s<=1000)(hN:N<B8 s) :
  Calls Tryz.prog 80 #[v,.int .i64 (s:Nat)] w fun en w'=>∃g,en=.returned (.tuple #[.slice (some ⟨g,0,none⟩) s s,.bool true])/\Bj w' g 5 .u8 (Au N s)/\w.heap.size<=g/\Below w.heap.size w w':=by
 obtain⟨p,n,c,rfl,h1⟩:=h;have hb:=Hw.2 hN;have hl:Al N<=8*s:=by have:=hb;unfold Am at this;omega
 refine(bS w p n c N s h1 (by omega) (by omega) (by omega)).mono ?_;rintro en w' ⟨rfl,hv,hbel⟩;exact⟨_,rfl,hv,Nat.le_refl _,hbel⟩
theorem Oi {w:World}{v:Value}{P Q G H:Nat}(h:Cq P Q G H v w)(hl:Al Q<=100000) :
  Calls Tryz.prog 104 #[v] w fun e w'=>e=.returned (.int .i64 (Am Q:Nat))/\Below w.heap.size w w':=by
 obtain⟨p0,n0,c0,p1,n1,c1,p2,n2,c2,p3,n3,c3,rfl,h0,h1,h2,h3⟩:=h.ex;have hbx:Below w.heap.size w (w.alloc (.cells #[.slice p0 n0 c0,.slice p1 n1 c1,.slice p2 n2 c2,.slice p3 n3 c3] 30)):=Bt;have hbo:=Ce.made 30 w (.slice p0 n0 c0) (.slice p1 n1 c1) (.slice p2 n2 c2) (.slice p3 n3 c3);obtain⟨wa,hwa⟩:∃wa,w.alloc (.cells #[.slice p0 n0 c0,.slice p1 n1 c1,.slice p2 n2 c2,.slice p3 n3 c3] 30)=wa:=⟨_,rfl⟩
 rw[hwa]at hbx hbo
 have HB:=Ac hbx;have HBX:=Ac hbo;have HV:Aa (Cq P Q G H (.agg #[.slice p0 n0 c0,.slice p1 n1 c1,.slice p2 n2 c2,.slice p3 n3 c3]) wa):=⟨⟨p0,n0,c0,p1,n1,c1,p2,n2,c2,p3,n3,c3,rfl,h0.below hbx,h1.below hbx,h2.below hbx,h3.below hbx⟩⟩
 have hn:=Cb h1;have HS:Aa (Am Q=(n1+7)/8):=⟨by unfold Am;rw[hn]⟩
 have hn0:n1<=100000:=by omega
 have hdiv:((n1:Int)+7).tdiv 8=(((n1+7)/8:Nat):Int):=by rw[Int.tdiv_eq_ediv_of_nonneg (by omega)];omega
 have c1':=HBX.out.cells.2.1;clear h h0 h1 h2 h3 hn hbx hl hbo;go_enter Tryz.func104,Tryz.ntmps104;go_wp2;go_ret;exact⟨by rw[HS.out];simp,HB.out⟩
theorem pA {w:World}{v u:Value}{P Q G H N:Nat}(h:Cq P Q G H v w)(hu:Ak N u w)(hl:Al Q<=100000)(hs:Am Q<=16)(hN:N<B8 (Am Q)) :
  Calls Tryz.prog 48 #[v,u] w fun e w'=>∃g,e=.returned (.slice (some ⟨g,0,none⟩) (Am Q) (Am Q))/\Bj w' g 5 .u8 (Au N (Am Q))/\w.heap.size<=g/\Below w.heap.size w w':=by
 obtain⟨p0,n0,c0,p1,n1,c1,p2,n2,c2,p3,n3,c3,rfl,h0,h1,h2,h3⟩:=h.ex;have hbx:Below w.heap.size w (w.alloc (.cells #[.slice p0 n0 c0,.slice p1 n1 c1,.slice p2 n2 c2,.slice p3 n3 c3] 30)):=Bt;have hbo:=Ce.made 30 w (.slice p0 n0 c0) (.slice p1 n1 c1) (.slice p2 n2 c2) (.slice p3 n3 c3);obtain⟨wa,hwa⟩:∃wa,w.alloc (.cells #[.slice p0 n0 c0,.slice p1 n1 c1,.slice p2 n2 c2,.slice p3 n3 c3] 30)=wa:=⟨_,rfl⟩
 rw[hwa]at hbx hbo
 have HB:=Ac hbx;have HBX:=Ac hbo;have HV:Aa (Cq P Q G H (.agg #[.slice p0 n0 c0,.slice p1 n1 c1,.slice p2 n2 c2,.slice p3 n3 c3]) wa):=⟨⟨p0,n0,c0,p1,n1,c1,p2,n2,c2,p3,n3,c3,rfl,h0.below hbx,h1.below hbx,h2.below hbx,h3.below hbx⟩⟩
 obtain⟨q0,m0,d0,rfl,hu0⟩:=hu;have HU:=Ac (Ak.of (hu0.below hbx));have HN:=Ac hN;have HSl:=Ac hs;have g0:=HBX.out.cells.1;have g1:=HBX.out.cells.2.1;have g2:=HBX.out.cells.2.2.1;have g3:=HBX.out.cells.2.2.2;have HW:=Ac (Oi HV.out hl);clear h h0 h1 h2 h3 hbx hl hbo hu0 hN hs;go_enter Tryz.func48,Tryz.ntmps48
 go_wp2_with fail
 refine HW.out.mono ?_;rintro en w1 ⟨rfl,hb1⟩;have HU1:=Ac (HU.out.below hb1);have HB1:=Ac (Ae HB.out hb1);clear hb1 g0 g1 g2 g3
 go_wp2_with fail
 refine(Rz HU1.out (by have:=HSl.out;omega) HN.out).mono ?_;rintro en w2 ⟨x,rfl,hx,hg,hb2⟩;have HX:=Ac hx;have HXG:Aa (w.heap.size<=x):=⟨Nat.le_trans HB1.out.size hg⟩
 have HB2:=Ac (Ae HB1.out hb2);clear hx hb2 hg;go_wp2;go_ret;exact⟨x,rfl,HX.out,HXG.out,HB2.out⟩
theorem Uc {w:World}{v u:Value}{P Q G H N:Nat}(h:Cq P Q G H v w)(hu:Ak N u w)(hl:Al P<=100000)(hs:Am P<=16)(hN:N<B8 (Am P)) :
  Calls Tryz.prog 110 #[v,u] w fun e w'=>∃g,e=.returned (.slice (some ⟨g,0,none⟩) (Am P) (Am P))/\Bj w' g 5 .u8 (Au N (Am P))/\w.heap.size<=g/\Below w.heap.size w w':=by
 obtain⟨p0,n0,c0,p1,n1,c1,p2,n2,c2,p3,n3,c3,rfl,h0,h1,h2,h3⟩:=h.ex;have hbx:Below w.heap.size w (w.alloc (.cells #[.slice p0 n0 c0,.slice p1 n1 c1,.slice p2 n2 c2,.slice p3 n3 c3] 30)):=Bt;have hbo:=Ce.made 30 w (.slice p0 n0 c0) (.slice p1 n1 c1) (.slice p2 n2 c2) (.slice p3 n3 c3);obtain⟨wa,hwa⟩:∃wa,w.alloc (.cells #[.slice p0 n0 c0,.slice p1 n1 c1,.slice p2 n2 c2,.slice p3 n3 c3] 30)=wa:=⟨_,rfl⟩
 rw[hwa]at hbx hbo
 have HB:=Ac hbx;have HBX:=Ac hbo;have HV:Aa (Cq P Q G H (.agg #[.slice p0 n0 c0,.slice p1 n1 c1,.slice p2 n2 c2,.slice p3 n3 c3]) wa):=⟨⟨p0,n0,c0,p1,n1,c1,p2,n2,c2,p3,n3,c3,rfl,h0.below hbx,h1.below hbx,h2.below hbx,h3.below hbx⟩⟩
 obtain⟨q0,m0,d0,rfl,hu0⟩:=hu;have HU:=Ac (Ak.of (hu0.below hbx));have HN:=Ac hN;have HSl:=Ac hs;have g0:=HBX.out.cells.1;have g1:=HBX.out.cells.2.1;have g2:=HBX.out.cells.2.2.1;have g3:=HBX.out.cells.2.2.2;have HW:=Ac (Zy HV.out hl);clear h h0 h1 h2 h3 hbx hl hbo hu0 hN hs;go_enter Tryz.func110,Tryz.ntmps110
 go_wp2_with fail
 refine HW.out.mono ?_;rintro en w1 ⟨rfl,hb1⟩;have HU1:=Ac (HU.out.below hb1);have HB1:=Ac (Ae HB.out hb1);clear hb1 g0 g1 g2 g3
 go_wp2_with fail
 refine(Rz HU1.out (by have:=HSl.out;omega) HN.out).mono ?_;rintro en w2 ⟨x,rfl,hx,hg,hb2⟩;have HX:=Ac hx;have HXG:Aa (w.heap.size<=x):=⟨Nat.le_trans HB1.out.size hg⟩
 have HB2:=Ac (Ae HB1.out hb2);clear hx hb2 hg;go_wp2;go_ret;exact⟨x,rfl,HX.out,HXG.out,HB2.out⟩
theorem Ik {w:World}{v u t:Value}{P Q G H A E:Nat}(h:Cq P Q G H v w)(hu:Ak A u w)(ht:Ak E t w)(lA:Al A<=100000)(lE:Al E<=100000)(lP:Al P<=100000)(hP:0<P) :
  Calls Tryz.prog 86 #[v,u,t] w fun e w'=>∃x,e=.returned x/\Ak (A^E%P) x w'/\Below w.heap.size w w':=by
 obtain⟨p0,n0,c0,p1,n1,c1,p2,n2,c2,p3,n3,c3,rfl,h0,h1,h2,h3⟩:=h.ex;have hbx:Below w.heap.size w (w.alloc (.cells #[.slice p0 n0 c0,.slice p1 n1 c1,.slice p2 n2 c2,.slice p3 n3 c3] 30)):=Bt;have hbo:=Ce.made 30 w (.slice p0 n0 c0) (.slice p1 n1 c1) (.slice p2 n2 c2) (.slice p3 n3 c3);obtain⟨wa,hwa⟩:∃wa,w.alloc (.cells #[.slice p0 n0 c0,.slice p1 n1 c1,.slice p2 n2 c2,.slice p3 n3 c3] 30)=wa:=⟨_,rfl⟩
 rw[hwa]at hbx hbo
 have HB:=Ac hbx;have HBX:=Ac hbo;have HV:Aa (Cq P Q G H (.agg #[.slice p0 n0 c0,.slice p1 n1 c1,.slice p2 n2 c2,.slice p3 n3 c3]) wa):=⟨⟨p0,n0,c0,p1,n1,c1,p2,n2,c2,p3,n3,c3,rfl,h0.below hbx,h1.below hbx,h2.below hbx,h3.below hbx⟩⟩
 obtain⟨q0,m0,d0,rfl,hu0⟩:=hu;obtain⟨q1,m1,d1,rfl,ht0⟩:=ht;have HC:=Ac (aH (Ak.of (hu0.below hbx)) (Ak.of (ht0.below hbx)) (Ak.of (h0.below hbx)) lA lE lP hP);have g0:=HBX.out.cells.1;clear h h0 h1 h2 h3 hbx hbo hu0 ht0 lA lE lP hP;go_enter Tryz.func86,Tryz.ntmps86
 go_wp2_with fail
 refine HC.out.mono ?_;rintro en w1 ⟨x,rfl,hx,hb1⟩;have HX:=Ac hx;have HB1:=Ac (Ae HB.out hb1);clear hx hb1 g0;go_wp2;go_ret;exact⟨x,rfl,HX.out,HB1.out⟩
theorem Qj {w:World}{v u t:Value}{P Q G H A E:Nat}(h:Cq P Q G H v w)(hu:Ak A u w)(ht:Ak E t w)(lA:Al A<=100000)(lE:Al E<=100000)(lP:Al P<=100000)(hP:0<P) :
  Calls Tryz.prog 85 #[v,u,t] w fun e w'=>∃x,e=.returned x/\Ak (A*E%P) x w'/\Below w.heap.size w w':=by
 obtain⟨p0,n0,c0,p1,n1,c1,p2,n2,c2,p3,n3,c3,rfl,h0,h1,h2,h3⟩:=h.ex;have hbx:Below w.heap.size w (w.alloc (.cells #[.slice p0 n0 c0,.slice p1 n1 c1,.slice p2 n2 c2,.slice p3 n3 c3] 30)):=Bt;have hbo:=Ce.made 30 w (.slice p0 n0 c0) (.slice p1 n1 c1) (.slice p2 n2 c2) (.slice p3 n3 c3);obtain⟨wa,hwa⟩:∃wa,w.alloc (.cells #[.slice p0 n0 c0,.slice p1 n1 c1,.slice p2 n2 c2,.slice p3 n3 c3] 30)=wa:=⟨_,rfl⟩
 rw[hwa]at hbx hbo
 have HB:=Ac hbx;have HBX:=Ac hbo;have HV:Aa (Cq P Q G H (.agg #[.slice p0 n0 c0,.slice p1 n1 c1,.slice p2 n2 c2,.slice p3 n3 c3]) wa):=⟨⟨p0,n0,c0,p1,n1,c1,p2,n2,c2,p3,n3,c3,rfl,h0.below hbx,h1.below hbx,h2.below hbx,h3.below hbx⟩⟩
 obtain⟨q0,m0,d0,rfl,hu0⟩:=hu;obtain⟨q1,m1,d1,rfl,ht0⟩:=ht;have HC:=Ac (Oj (Ak.of (hu0.below hbx)) (Ak.of (ht0.below hbx)) (Ak.of (h0.below hbx)) lA lE lP hP);have g0:=HBX.out.cells.1;clear h h0 h1 h2 h3 hbx hbo hu0 ht0 lA lE lP hP;go_enter Tryz.func85,Tryz.ntmps85
 go_wp2_with fail
 refine HC.out.mono ?_;rintro en w1 ⟨x,rfl,hx,hb1⟩;have HX:=Ac hx;have HB1:=Ac (Ae HB.out hb1);clear hx hb1 g0;go_wp2;go_ret;exact⟨x,rfl,HX.out,HB1.out⟩
theorem Ak.kc {N B:Nat}{v:Value}{w w':World}(h:Ak N v w)(hk:KC B w w'):Ak N v w':=by
 obtain⟨q,m,d,rfl,hb⟩:=h;refine Ak.of ⟨hb.len,hb.cap,hb.max,?_⟩;rcases hb.at_ with h1|⟨b,off,h1,h2,h3⟩
 .exact .inl h1
 .exact .inr ⟨b,off,h1,Nat.lt_of_lt_of_le h2 hk.bel.size,fun i x hx=>hk.cell _ _ (h3 i x hx)⟩
theorem Jk.kc {n B:Nat}{bs:List Nat}{v:Value}{w w':World}(h:Jk n bs v w)(hk:KC B w w'):Jk n bs v w' :=
 let ⟨p,c,h1,h2,h3⟩:=h
 ⟨p,c,h1,h2.kc hk,h3⟩
theorem qZ {w:World}{v u:Value}{P Q G H N sz:Nat}(h:Cq P Q G H v w)(hu:Ak N u w)(hl:Al P<=100000)(hsz:Am P=sz)(hs:sz<=16)(hN:N<B8 sz) :
  Calls Tryz.prog 110 #[v,u] w fun e w'=>∃x,e=.returned x/\Jk sz (Au N sz) x w'/\Below w.heap.size w w':=by
 subst hsz;refine(Uc h hu hl hs hN).mono ?_;rintro en w' ⟨g,rfl,hb,_,hbel⟩;exact⟨_,rfl,⟨_,_,rfl,Ji hb (by omega),fun h=>by cases h⟩,hbel⟩
def Qx (w:World)(x:Option Addr×Nat×Nat)(N:Nat):Prop:=Bb w x.1 x.2.1 x.2.2 N
theorem Qx.below {w w':World}{x:Option Addr×Nat×Nat}{N:Nat}(h:Qx w x N)(hb:Below w.heap.size w w'):Qx w' x N:=Bb.below h hb
theorem Qx.bits {w:World}{x:Option Addr×Nat×Nat}{N:Nat}(h:Qx w x N):Ak N (.slice x.1 x.2.1 x.2.2) w:=Ak.of h
def Qw (A B Y Z:Nat)(xa xb xy xz:Option Addr×Nat×Nat)(w:World):Prop:=Qx w xa A/\Qx w xb B/\Qx w xy Y/\Qx w xz Z
theorem Qw.below {A B Y Z:Nat}{xa xb xy xz:Option Addr×Nat×Nat}{w w':World}(h:Qw A B Y Z xa xb xy xz w)(hb:Below w.heap.size w w'):Qw A B Y Z xa xb xy xz w':=⟨h.1.below hb,h.2.1.below hb,h.2.2.1.below hb,h.2.2.2.below hb⟩
def iY (B:Nat)(v:Value)(w:World):Prop:=∃g,v=.slice (some ⟨g,0,none⟩) 4 4/\w.shape? g=some (5,4)/\Ar w ⟨some ⟨g,0,none⟩,4,4,Mh⟩/\B<=g
theorem iY.kc {B C:Nat}{v:Value}{w w':World}(h:iY B v w)(hk:KC C w w'):iY B v w' :=
 let ⟨g,h1,h2,h3,h4⟩:=h
 ⟨g,h1,hk.shape _ _ h2,h3.kc hk,h4⟩
theorem gN {B:Nat}(w:World)(hB:B<=w.heap.size):iY B (.slice (some ⟨w.heap.size,0,none⟩) 4 4) (w.alloc (.cells #[.int .u8 100,.int .u8 108,.int .u8 101,.int .u8 113] 5)):=by
 have h1:(w.alloc (.cells #[.int .u8 100,.int .u8 108,.int .u8 101,.int .u8 113] 5)).heap[w.heap.size]? = some (.cells #[.int .u8 100,.int .u8 108,.int .u8 101,.int .u8 113] 5 (0,0)):=heap_alloc_new w _;exact⟨w.heap.size,rfl,by unfold World.shape?;rw[h1];rfl,⟨Ih (bs:=Mh) h1 rfl (by decide:4<=9223372036854775807),(by decide:∀x∈Mh,x<256)⟩,hB⟩
def Xv (n:Nat)(bss:List (List Nat))(v:Value)(w:World):Prop:=∃(q:Nat) (L:List Part),v=.slice (some ⟨q,0,none⟩) n n/\Bp w (some ⟨q,0,none⟩) n n L/\Iv L/\L.map (·.bs)=bss
theorem Xv.kc {n B:Nat}{bss:List (List Nat)}{v:Value}{w w':World}(h:Xv n bss v w)(hk:KC B w w'):Xv n bss v w' :=
 let ⟨q,L,h1,h2,h3,h4⟩:=h
 ⟨q,L,h1,h2.kc hk,h3,h4⟩
theorem fS (w:World)(L:List Part)(h:∀P∈L,Ar w P)(hl:L.length<=1000000):Bp (w.alloc (.cells (L.map fun P=>Value.slice P.p P.n P.c).toArray 60)) (some ⟨w.heap.size,0,none⟩) L.length L.length L:=by
 have hb:Below w.heap.size w (w.alloc (.cells (L.map fun P=>Value.slice P.p P.n P.c).toArray 60)):=Bt;have hn:=heap_alloc_new w (.cells (L.map fun P=>Value.slice P.p P.n P.c).toArray 60);refine⟨rfl,Nat.le_refl _,by omega,fun i X hX=>(h X (List.mem_of_getElem? hX)).below hb,fun _=>⟨w.heap.size,0,rfl,by simp,fun i X hX=>?_⟩⟩;rw[Nat.zero_add];unfold World.cell?
 dsimp only
 rw[hn];simp[hX]
theorem sF {w:World}{A B C D E F G H:Part}(h1:Ar w A)(h2:Ar w B)(h3:Ar w C)(h4:Ar w D)(h5:Ar w E)(h6:Ar w F)(h7:Ar w G)(h8:Ar w H):∀P∈[A,B,C,D,E,F,G,H],Ar w P:=fun P hP=>by
 simp only[List.mem_cons,List.not_mem_nil,or_false]at hP;rcases hP with rfl|rfl|rfl|rfl|rfl|rfl|rfl|rfl<;>assumption
theorem rP {A B C D E F G H:Part}(h1:A.p=none->A.c=0)(h2:B.p=none->B.c=0)(h3:C.p=none->C.c=0)(h4:D.p=none->D.c=0)(h5:E.p=none->E.c=0)(h6:F.p=none->F.c=0)(h7:G.p=none->G.c=0)(h8:H.p=none->H.c=0):Iv [A,B,C,D,E,F,G,H]:=fun P hP=>by
 simp only[List.mem_cons,List.not_mem_nil,or_false]at hP;rcases hP with rfl|rfl|rfl|rfl|rfl|rfl|rfl|rfl<;>assumption
theorem rC (sz:Nat)(A B Y Z U V:Nat)(msg:List Nat):(Bw [Mh,Au A sz,Au B sz,Au Y sz,Au Z sz,Au U sz,Au V sz,msg]).length=68+6*sz+msg.length:=by
 simp[Bw,Ee,Br,Mh];omega
theorem Ud {w:World}{v u t:Value}{P Q G H A B Y Z U V nm cm:Nat}{xa xb xy xz:Option Addr×Nat×Nat}{pm:Option Addr}{msg:List Nat}(h:Cq P Q G H v w)(hc:Qw A B Y Z xa xb xy xz w)(hu:Ak U u w)(ht:Ak V t w)(lA:A<P)(lB:B<P)(lY:Y<P)(lZ:Z<P)(lU:U<P)(lV:V<P)(lP:Al P<=100000)(lQ:Al Q<=100000)(hQ:0<Q)(hs:Am P<=16)(hm:Ar w ⟨pm,nm,cm,msg⟩)(hz:pm=none->cm=0)(hn:nm<=1000) :
  Calls Tryz.prog 62 #[v,.agg #[.slice xa.1 xa.2.1 xa.2.2,.slice xb.1 xb.2.1 xb.2.2,.slice xy.1 xy.2.1 xy.2.2,.slice xz.1 xz.2.1 xz.2.2],u,t,.slice pm nm cm] w fun e w'=>∃x,e=.returned x/\Ak (Nb P Q A B Y Z U V msg) x w'/\Below w.heap.size w w':=by
 obtain⟨p0,n0,c0,p1,n1,c1,p2,n2,c2,p3,n3,c3,rfl,h0,h1,h2,h3⟩:=h.ex;obtain⟨pu,nu,cu,rfl,hu0⟩:=hu;obtain⟨pv,nv,cv,rfl,ht0⟩:=ht;have hb1:Below w.heap.size w (w.alloc (.cells #[.slice p0 n0 c0,.slice p1 n1 c1,.slice p2 n2 c2,.slice p3 n3 c3] 30)):=Bt;have hbo:=Ce.made 30 w (.slice p0 n0 c0) (.slice p1 n1 c1) (.slice p2 n2 c2) (.slice p3 n3 c3);have hz1:(w.alloc (.cells #[.slice p0 n0 c0,.slice p1 n1 c1,.slice p2 n2 c2,.slice p3 n3 c3] 30)).heap.size=w.heap.size+1:=by simp
 obtain⟨wb,hwb⟩:∃wa,w.alloc (.cells #[.slice p0 n0 c0,.slice p1 n1 c1,.slice p2 n2 c2,.slice p3 n3 c3] 30)=wa:=⟨_,rfl⟩
 rw[hwb]at hb1 hbo hz1
 have hb2:Below wb.heap.size wb (wb.alloc (.cells #[.slice xa.1 xa.2.1 xa.2.2,.slice xb.1 xb.2.1 xb.2.2,.slice xy.1 xy.2.1 xy.2.2,.slice xz.1 xz.2.1 xz.2.2] 87)):=Bt;have hco:=Ce.made 87 wb (.slice xa.1 xa.2.1 xa.2.2) (.slice xb.1 xb.2.1 xb.2.2) (.slice xy.1 xy.2.1 xy.2.2) (.slice xz.1 xz.2.1 xz.2.2);have hz2:(wb.alloc (.cells #[.slice xa.1 xa.2.1 xa.2.2,.slice xb.1 xb.2.1 xb.2.2,.slice xy.1 xy.2.1 xy.2.2,.slice xz.1 xz.2.1 xz.2.2] 87)).heap.size=w.heap.size+1+1:=by simp[hz1]
 obtain⟨wa,hwa⟩:∃W,wb.alloc (.cells #[.slice xa.1 xa.2.1 xa.2.2,.slice xb.1 xb.2.1 xb.2.2,.slice xy.1 xy.2.1 xy.2.2,.slice xz.1 xz.2.1 xz.2.2] 87)=W:=⟨_,rfl⟩
 rw[hwa]at hb2 hco hz2
 rw[hz1]at hco
 have hbx:=Ae hb1 hb2;have HB:=Ac hbx;have HBX:=Ac (hbo.below hb2 hbo.lt);have HCX:=Ac hco;have hWA:Aa (∀ {w':World},KC (w.heap.size+1+1) wa w'->Below wa.heap.size wa w'):=⟨fun k=>by have:=k.bel;rw[<- hz2]at this;exact this⟩
 have HSB:Aa (∀ {w':World},KC (w.heap.size+1+1) wa w'->(w.heap.size+1+1)<=w'.heap.size):=⟨fun hk=>by have:=hk.bel.size;omega⟩
 have HV:Aa (Cq P Q G H (.agg #[.slice p0 n0 c0,.slice p1 n1 c1,.slice p2 n2 c2,.slice p3 n3 c3]) wa):=⟨⟨p0,n0,c0,p1,n1,c1,p2,n2,c2,p3,n3,c3,rfl,h0.below hbx,h1.below hbx,h2.below hbx,h3.below hbx⟩⟩
 have HCA:=Ac ((hc.1.below hbx).bits);have HCB:=Ac ((hc.2.1.below hbx).bits);have HCY:=Ac ((hc.2.2.1.below hbx).bits);have HCZ:=Ac ((hc.2.2.2.below hbx).bits);have HU:=Ac (Ak.of (hu0.below hbx));have HVV:=Ac (Ak.of (ht0.below hbx));have HM:=Ac (hm.below hbx);have HZM:=Ac hz;have HQB:=Ac (h1.below hbx);have HQ0:=Ac hQ;have HQl:Aa (Al Q<=900000):=⟨by omega⟩
 have HPl:=Ac lP;have hlm:=Gp P;obtain⟨sz,hsz⟩:∃s,Am P=s:=⟨_,rfl⟩
 have HCH0:Aa (be (Km (Bw [Mh,Au A sz,Au B sz,Au Y sz,Au Z sz,Au U sz,Au V sz,msg]))%Q=Nb P Q A B Y Z U V msg):=⟨by rw[<- hsz];rfl⟩
 obtain⟨CH,hCH⟩:∃C,Nb P Q A B Y Z U V msg=C:=⟨_,rfl⟩
 rw[hCH]at HCH0 ⊢
 have HCH:Aa _:=HCH0;rw[hsz]at hs hlm
 have HSZ:=Ac hsz;have HSs:=Ac hs;have HLM:Aa (A<B8 sz/\B<B8 sz/\Y<B8 sz/\Z<B8 sz/\U<B8 sz/\V<B8 sz):=⟨by omega,by omega,by omega,by omega,by omega,by omega⟩
 have HMX:Aa ((Bw [Mh,Au A sz,Au B sz,Au Y sz,Au Z sz,Au U sz,Au V sz,msg]).length<=1000000):=⟨by
  have h9:=hm.row.len
  dsimp only at h9
  rw[rC];omega⟩
 clear h h0 h1 h2 h3 hbx hbo hu0 ht0 lA lB lY lZ lU lV lP lQ hQ hs hm hz hn hCH hlm hsz HCH0 hb1 hb2 hco hz2 hc;go_enter Tryz.func62,Tryz.ntmps62;go_wp2;refine Ai (by kernel_rfl) (by kernel_rfl)
  [some (.agg #[.slice p0 n0 c0,.slice p1 n1 c1,.slice p2 n2 c2,.slice p3 n3 c3]),none,none,some (.agg #[.slice p0 n0 c0,.slice p1 n1 c1,.slice p2 n2 c2,.slice p3 n3 c3]),some (.pointer (some ⟨w.heap.size+1,0,none⟩)),some (.slice xa.1 xa.2.1 xa.2.2),none,some (.agg #[.slice p0 n0 c0,.slice p1 n1 c1,.slice p2 n2 c2,.slice p3 n3 c3]),some (.pointer (some ⟨w.heap.size+1,1,none⟩)),some (.slice xb.1 xb.2.1 xb.2.2),none,some (.agg #[.slice p0 n0 c0,.slice p1 n1 c1,.slice p2 n2 c2,.slice p3 n3 c3]),some (.pointer (some ⟨w.heap.size+1,2,none⟩)),some (.slice xy.1 xy.2.1 xy.2.2),none,some (.agg #[.slice p0 n0 c0,.slice p1 n1 c1,.slice p2 n2 c2,.slice p3 n3 c3]),some (.pointer (some ⟨w.heap.size+1,3,none⟩)),some (.slice xz.1 xz.2.1 xz.2.2),none,some (.agg #[.slice p0 n0 c0,.slice p1 n1 c1,.slice p2 n2 c2,.slice p3 n3 c3]),some (.slice pu nu cu),none,some (.agg #[.slice p0 n0 c0,.slice p1 n1 c1,.slice p2 n2 c2,.slice p3 n3 c3]),some (.slice pv nv cv),none,some (.slice pm nm cm),none,none,none]
  [false,true,true,false,false,false,true,false,false,false,true,false,false,false,true,false,false,false,true,false,false,true,false,false,true,false,true,true,true] rfl
  (fun w1 w2=>KC (w.heap.size+1+1) w1 w2)
  (fun D w'=>KC (w.heap.size+1+1) wa w')
  (fun i v w'=>match i with
   | 1=>iY (w.heap.size+1+1) v w'
   | 2=>iY (w.heap.size+1+1) v w'
   | 6=>Jk sz (Au A sz) v w'
   | 10=>Jk sz (Au B sz) v w'
   | 14=>Jk sz (Au Y sz) v w'
   | 18=>Jk sz (Au Z sz) v w'
   | 21=>Jk sz (Au U sz) v w'
   | 24=>Jk sz (Au V sz) v w'
   | 26=>Xv 8 [Mh,Au A sz,Au B sz,Au Y sz,Au Z sz,Au U sz,Au V sz,msg] v w'
   | 27=>Ak CH v w'
   | 28=>Ak CH v w'
   | _=>True)
  ?_ (KC.drew _ _) ?_ ?_
 .intro i v w1 w2 hf hb;split at hf
  .exact hf.kc hb
  .exact hf.kc hb
  .exact hf.kc hb
  .exact hf.kc hb
  .exact hf.kc hb
  .exact hf.kc hb
  .exact hf.kc hb
  .exact hf.kc hb
  .exact hf.kc hb
  .exact hf.kc hb
  .exact hf.kc hb
  .trivial
 .simp only[Ba,Nat.reduceAdd];refine⟨?_,?_,?_,?_,?_,?_,?_,?_,?_,?_,?_,?_,?_,?_,?_,?_,?_,?_,?_,?_,?_,?_,?_,?_,?_,?_,?_,?_,?_,trivial⟩
  all_goals intro D sp w' hD hW hdp hbx'
  case refine_1|refine_4|refine_8|refine_12|refine_16|refine_20|refine_23 =>
   have g4:=(cells4 (HBX.out.below (hbx'.bel.mono (by omega)) (Nat.lt_succ_self _)).at_).1
   with_reducible refine Ad ?_ ?_
   all_goals simp[Region.wanted,yielded,execOp,Act.eval,Act.put,go_sem,g4.1,g4.2.1,g4.2.2.1,g4.2.2.2]
  case refine_2 =>
   (with_reducible refine Ag (w1:=w'.alloc (.cells #[.int .u8 100,.int .u8 108,.int .u8 101,.int .u8 113] 5)) (v:=.slice (some ⟨w'.heap.size,0,none⟩) 4 4) ?_ ?_ ?_)
   .simp only[Region.wanted]
   .simp[execOp,Act.eval,go_sem]
   .have hbl:Below w'.heap.size w' (w'.alloc (.cells #[.int .u8 100,.int .u8 108,.int .u8 101,.int .u8 113] 5)):=Bt;exact⟨KC.of hbl (HSB.out hbx'),gN w' (HSB.out hbx'),hbx'.trans (KC.of hbl (HSB.out hbx'))⟩
  case refine_3 =>
   have hx1:∃g,sp 1=.slice (some ⟨g,0,none⟩) 4 4/\w'.shape? g=some (5,4)/\Ar w' ⟨some ⟨g,0,none⟩,4,4,Mh⟩/\(w.heap.size+1+1)<=g:=(hdp 1 (mq (by kernel_rfl))).2
   (with_reducible refine Exists.elim hx1 fun g e10=>?_)
   have h1:=e10.1;have h7:=run_mark (w:=w') (n:=4) (c:=4) e10.2.1
   (with_reducible refine Ag (w1:=w'.freeze ⟨g,4,none⟩ 1) (v:=.slice (some ⟨g,0,none⟩) 4 4) ?_ ?_ ?_)
   .simp only[Region.wanted]
   .simp[execOp,Act.eval,Act.put,go_sem,h1,h7]
   .have hkc:=KC.mark (w:=w') (g:=g) (B:=(w.heap.size+1+1)) 4 e10.2.2.2;exact⟨hkc,⟨g,rfl,hkc.shape _ _ e10.2.1,e10.2.2.1.kc hkc,e10.2.2.2⟩,hbx'.trans hkc⟩
  case refine_6 =>
   have g4:=(cells4 (HCX.out.below hbx'.bel (Nat.lt_succ_self _)).at_).1
   with_reducible refine Ad ?_ ?_
   all_goals simp[Region.wanted,yielded,execOp,Act.eval,Act.put,go_sem,g4.1]
  case refine_7 =>
   (with_reducible refine Ab (w1:=w') (f := 110) (args:=#[.agg #[.slice p0 n0 c0,.slice p1 n1 c1,.slice p2 n2 c2,.slice p3 n3 c3],.slice xa.1 xa.2.1 xa.2.2]) ?_ ?_ ?_)
   .simp[Region.wanted,yielded,Act.put,go_sem]
   .simp[Act.eval,Act.put,go_sem]
   .refine(qZ (HV.out.below (hWA.out hbx')) (HCA.out.below (hWA.out hbx')) HPl.out HSZ.out HSs.out HLM.out.1).mono ?_;rintro en w9 ⟨u,rfl,hu,hb⟩;exact⟨u,rfl,KC.of hb (HSB.out hbx'),hu,hbx'.trans (KC.of hb (HSB.out hbx'))⟩
  case refine_10 =>
   have g4:=(cells4 (HCX.out.below hbx'.bel (Nat.lt_succ_self _)).at_).1
   with_reducible refine Ad ?_ ?_
   all_goals simp[Region.wanted,yielded,execOp,Act.eval,Act.put,go_sem,g4.2.1]
  case refine_11 =>
   (with_reducible refine Ab (w1:=w') (f := 110) (args:=#[.agg #[.slice p0 n0 c0,.slice p1 n1 c1,.slice p2 n2 c2,.slice p3 n3 c3],.slice xb.1 xb.2.1 xb.2.2]) ?_ ?_ ?_)
   .simp[Region.wanted,yielded,Act.put,go_sem]
   .simp[Act.eval,Act.put,go_sem]
   .refine(qZ (HV.out.below (hWA.out hbx')) (HCB.out.below (hWA.out hbx')) HPl.out HSZ.out HSs.out HLM.out.2.1).mono ?_;rintro en w9 ⟨u,rfl,hu,hb⟩;exact⟨u,rfl,KC.of hb (HSB.out hbx'),hu,hbx'.trans (KC.of hb (HSB.out hbx'))⟩
  case refine_14 =>
   have g4:=(cells4 (HCX.out.below hbx'.bel (Nat.lt_succ_self _)).at_).1
   with_reducible refine Ad ?_ ?_
   all_goals simp[Region.wanted,yielded,execOp,Act.eval,Act.put,go_sem,g4.2.2.1]
  case refine_15 =>
   (with_reducible refine Ab (w1:=w') (f := 110) (args:=#[.agg #[.slice p0 n0 c0,.slice p1 n1 c1,.slice p2 n2 c2,.slice p3 n3 c3],.slice xy.1 xy.2.1 xy.2.2]) ?_ ?_ ?_)
   .simp[Region.wanted,yielded,Act.put,go_sem]
   .simp[Act.eval,Act.put,go_sem]
   .refine(qZ (HV.out.below (hWA.out hbx')) (HCY.out.below (hWA.out hbx')) HPl.out HSZ.out HSs.out HLM.out.2.2.1).mono ?_;rintro en w9 ⟨u,rfl,hu,hb⟩;exact⟨u,rfl,KC.of hb (HSB.out hbx'),hu,hbx'.trans (KC.of hb (HSB.out hbx'))⟩
  case refine_18 =>
   have g4:=(cells4 (HCX.out.below hbx'.bel (Nat.lt_succ_self _)).at_).1
   with_reducible refine Ad ?_ ?_
   all_goals simp[Region.wanted,yielded,execOp,Act.eval,Act.put,go_sem,g4.2.2.2]
  case refine_19 =>
   (with_reducible refine Ab (w1:=w') (f := 110) (args:=#[.agg #[.slice p0 n0 c0,.slice p1 n1 c1,.slice p2 n2 c2,.slice p3 n3 c3],.slice xz.1 xz.2.1 xz.2.2]) ?_ ?_ ?_)
   .simp[Region.wanted,yielded,Act.put,go_sem]
   .simp[Act.eval,Act.put,go_sem]
   .refine(qZ (HV.out.below (hWA.out hbx')) (HCZ.out.below (hWA.out hbx')) HPl.out HSZ.out HSs.out HLM.out.2.2.2.1).mono ?_;rintro en w9 ⟨u,rfl,hu,hb⟩;exact⟨u,rfl,KC.of hb (HSB.out hbx'),hu,hbx'.trans (KC.of hb (HSB.out hbx'))⟩
  case refine_22 =>
   (with_reducible refine Ab (w1:=w') (f := 110) (args:=#[.agg #[.slice p0 n0 c0,.slice p1 n1 c1,.slice p2 n2 c2,.slice p3 n3 c3],.slice pu nu cu]) ?_ ?_ ?_)
   .simp[Region.wanted,yielded,Act.put,go_sem]
   .simp[Act.eval,Act.put,go_sem]
   .refine(qZ (HV.out.below (hWA.out hbx')) (HU.out.below (hWA.out hbx')) HPl.out HSZ.out HSs.out HLM.out.2.2.2.2.1).mono ?_;rintro en w9 ⟨u,rfl,hu,hb⟩;exact⟨u,rfl,KC.of hb (HSB.out hbx'),hu,hbx'.trans (KC.of hb (HSB.out hbx'))⟩
  case refine_25 =>
   (with_reducible refine Ab (w1:=w') (f := 110) (args:=#[.agg #[.slice p0 n0 c0,.slice p1 n1 c1,.slice p2 n2 c2,.slice p3 n3 c3],.slice pv nv cv]) ?_ ?_ ?_)
   .simp[Region.wanted,yielded,Act.put,go_sem]
   .simp[Act.eval,Act.put,go_sem]
   .refine(qZ (HV.out.below (hWA.out hbx')) (HVV.out.below (hWA.out hbx')) HPl.out HSZ.out HSs.out HLM.out.2.2.2.2.2).mono ?_;rintro en w9 ⟨u,rfl,hu,hb⟩;exact⟨u,rfl,KC.of hb (HSB.out hbx'),hu,hbx'.trans (KC.of hb (HSB.out hbx'))⟩
  case refine_27 =>
   have hx2:∃g,sp 2=.slice (some ⟨g,0,none⟩) 4 4/\w'.shape? g=some (5,4)/\Ar w' ⟨some ⟨g,0,none⟩,4,4,Mh⟩/\(w.heap.size+1+1)<=g:=(hdp 2 (mq (by kernel_rfl))).2
   (with_reducible refine Exists.elim hx2 fun g e20=>?_)
   have hx6:∃p c,sp 6=.slice p sz c/\Ar w' ⟨p,sz,c,Au A sz⟩/\(p=none->c=0):=(hdp 6 (mq (by kernel_rfl))).2
   (with_reducible refine Exists.elim hx6 fun p6 e60=>Exists.elim e60 fun c6 e61=>?_)
   have hx10:∃p c,sp 10=.slice p sz c/\Ar w' ⟨p,sz,c,Au B sz⟩/\(p=none->c=0):=(hdp 10 (mq (by kernel_rfl))).2
   (with_reducible refine Exists.elim hx10 fun p10 e100=>Exists.elim e100 fun c10 e101=>?_)
   have hx14:∃p c,sp 14=.slice p sz c/\Ar w' ⟨p,sz,c,Au Y sz⟩/\(p=none->c=0):=(hdp 14 (mq (by kernel_rfl))).2
   (with_reducible refine Exists.elim hx14 fun p14 e140=>Exists.elim e140 fun c14 e141=>?_)
   have hx18:∃p c,sp 18=.slice p sz c/\Ar w' ⟨p,sz,c,Au Z sz⟩/\(p=none->c=0):=(hdp 18 (mq (by kernel_rfl))).2
   (with_reducible refine Exists.elim hx18 fun p18 e180=>Exists.elim e180 fun c18 e181=>?_)
   have hx21:∃p c,sp 21=.slice p sz c/\Ar w' ⟨p,sz,c,Au U sz⟩/\(p=none->c=0):=(hdp 21 (mq (by kernel_rfl))).2
   (with_reducible refine Exists.elim hx21 fun p21 e210=>Exists.elim e210 fun c21 e211=>?_)
   have hx24:∃p c,sp 24=.slice p sz c/\Ar w' ⟨p,sz,c,Au V sz⟩/\(p=none->c=0):=(hdp 24 (mq (by kernel_rfl))).2
   (with_reducible refine Exists.elim hx24 fun p24 e240=>Exists.elim e240 fun c24 e241=>?_)
   have ez:=e20.1;have eA:=e61.1;have eB:=e101.1;have eY:=e141.1;have eZ:=e181.1;have eU:=e211.1;have eV:=e241.1
   (with_reducible refine Ag (w1:=w'.alloc (.cells #[.slice (some ⟨g,0,none⟩) 4 4,.slice p6 sz c6,.slice p10 sz c10,.slice p14 sz c14,.slice p18 sz c18,.slice p21 sz c21,.slice p24 sz c24,.slice pm nm cm] 60)) (v:=.slice (some ⟨w'.heap.size,0,none⟩) 8 8) ?_ ?_ ?_)
   .simp only[Region.wanted]
   .simp[execOp,Act.eval,Act.put,go_sem,ez,eA,eB,eY,eZ,eU,eV]
   .have hbl:Below w'.heap.size w' (w'.alloc (.cells #[.slice (some ⟨g,0,none⟩) 4 4,.slice p6 sz c6,.slice p10 sz c10,.slice p14 sz c14,.slice p18 sz c18,.slice p21 sz c21,.slice p24 sz c24,.slice pm nm cm] 60)):=Bt;have hp:=fS w' ([⟨some ⟨g,0,none⟩,4,4,Mh⟩,⟨p6,sz,c6,Au A sz⟩,⟨p10,sz,c10,Au B sz⟩,⟨p14,sz,c14,Au Y sz⟩,⟨p18,sz,c18,Au Z sz⟩,⟨p21,sz,c21,Au U sz⟩,⟨p24,sz,c24,Au V sz⟩,⟨pm,nm,cm,msg⟩]:List Part) (sF e20.2.2.1 e61.2.1 e101.2.1 e141.2.1 e181.2.1 e211.2.1 e241.2.1 (HM.out.below (hWA.out hbx'))) (show 8<=1000000 by decide);exact⟨KC.of hbl (HSB.out hbx'),⟨w'.heap.size,_,rfl,hp,rP (fun h=>by cases h) e61.2.2 e101.2.2 e141.2.2 e181.2.2 e211.2.2 e241.2.2 HZM.out,rfl⟩,hbx'.trans (KC.of hbl (HSB.out hbx'))⟩
  case refine_28 =>
   have hx26:∃(q:Nat) (L:List Part),sp 26=.slice (some ⟨q,0,none⟩) 8 8/\Bp w' (some ⟨q,0,none⟩) 8 8 L/\Iv L/\L.map (·.bs)=[Mh,Au A sz,Au B sz,Au Y sz,Au Z sz,Au U sz,Au V sz,msg]:=(hdp 26 (mq (by kernel_rfl))).2
   (with_reducible refine Exists.elim hx26 fun q e260=>Exists.elim e260 fun L e261=>?_)
   have h1:=e261.1
   (with_reducible refine Ab (w1:=w') (f := 109) (args:=#[.agg #[.slice p0 n0 c0,.slice p1 n1 c1,.slice p2 n2 c2,.slice p3 n3 c3],.slice (some ⟨q,0,none⟩) 8 8]) ?_ ?_ ?_)
   .simp only[Region.wanted]
   .simp[Act.eval,Act.put,go_sem,h1]
   .refine(aJ w' p0 n0 c0 p1 n1 c1 Q p2 n2 c2 p3 n3 c3 (HQB.out.below (hWA.out hbx')) HQ0.out HQl.out _ 8 8 L e261.2.1 e261.2.2.1 (by rw[e261.2.2.2];exact HMX.out)).mono ?_;rintro en w9 ⟨u,rfl,hu,hb⟩;rw[e261.2.2.2,HCH.out]at hu
    exact⟨u,rfl,KC.of hb (HSB.out hbx'),hu,hbx'.trans (KC.of hb (HSB.out hbx'))⟩
  case refine_29 =>
   have k27:Ak CH (sp 27) w':=(hdp 27 (mq (by kernel_rfl))).2
   (with_reducible refine Ag (w1:=w') (v:=sp 27) ?_ ?_ ?_)
   .simp[Region.wanted,yielded,Act.put,go_sem]
   .simp[execOp,Act.eval,Act.put,go_sem]
   .exact⟨KC.same _ _,k27,hbx'⟩
  all_goals ((with_reducible refine Ad ?_ ?_);all_goals first|(simp only[Region.wanted];done)|simp[Region.wanted,yielded,execOp,Act.eval,Act.put,go_sem])
 .intro sp w8 hsp hk;have HX:Aa (Ak CH (sp 28) w8):=⟨hsp 28 rfl⟩
  have HBf:Aa (Below w.heap.size w w8):=⟨HB.out.trans (hk.bel.mono (by omega))⟩
  clear hsp hk;simp only[An,Nat.reduceAdd];generalize sp 1=y1,sp 2=y2,sp 6=y6,sp 10=y10,sp 14=y14,sp 18=y18,sp 21=y21,sp 24=y24,sp 26=y26,sp 27=y27,sp 28=y28 at *
  go_simp
  go_wp2;go_ret;exact⟨_,rfl,HX.out,HBf.out⟩
end Go.Proofs.YthgoeiegdhphjaaGreatDoor
