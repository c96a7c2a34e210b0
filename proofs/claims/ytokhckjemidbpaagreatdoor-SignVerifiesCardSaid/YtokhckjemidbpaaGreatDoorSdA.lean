/- The document's side of signatures: its group, its bytes, its challenge. -/
import Derived.Test.YtokhckjemidbpaaGreatDoorAnsw
set_option maxRecDepth 1000000
set_option maxHeartbeats 16000000
set_option linter.all false
namespace Go.Proofs.YtokhckjemidbpaaGreatDoor
open Go Go.RowKit Go.Proofs.YtokhckjemidbpaaGreatDoor.Flow
theorem cE (w:World)(p:Option Addr)(n c N s:Nat)(h:Bi w p n c N)(hs:s<=1000000)(hN:Ao N<=1000000000)(h2:¬s<Ak N) :
  Calls Tryz.prog 96 #[.slice p n c,.int .i64 s] w fun e w'=>e=.returned (.tuple #[.slice (some ⟨w.heap.size,0,none⟩) s s,.bool true])/\Bm w' w.heap.size 5 .u8 (Az N s)/\Below w.heap.size w w':=by
 have hl:n=Ao N:=by have:=h.len;rwa [Bh]at this
 have hmk:=Sc s (by omega);have hsn:n<=8*s:=by unfold Ak at h2;omega
 have h3:¬(s:Int)<((n:Int)+7)/8:=by omega
 have hw7:IntKind.i64.wrap ((n:Int)+7)=(n:Int)+7:=IntWalk.i64_in _ (by omega);have hw8:IntKind.i64.wrap (((n:Int)+7)/8)=((n:Int)+7)/8:=IntWalk.i64_in _ (by omega);have HL:=Ag hl;have hn9:n<=1000000000:=by omega
 clear hl h2;go_enter Tryz.func96,Tryz.ntmps96;go_wp2
 go_loopw [19] (fun i wr=>∃k:Nat,k<=n/\i=.int .i64 k/\w.heap.size<wr.heap.size/\Below w.heap.size w wr/\Bm wr w.heap.size 5 .u8 (Az (N%2^k) s)) (fun i _=>n-(intOf i).toNat)
 case atStart=>
  refine⟨0,by omega,rfl,by simp,(Bb _ _).alloc (As _) _,?_⟩;have:=Bm.zeros w 5 .u8 s;rw[Nat.pow_zero,Nat.mod_one,iR];exact this
 case round=>
  obtain⟨k,hk,rfl,hsz,hbw,hblk⟩:=hrel
  by_cases hkn:k<n
  .obtain⟨b,off,rfl,hb,hc⟩:=h.pos (by omega);obtain⟨x,hx⟩:∃x,bit N k=x:=⟨_,rfl⟩
   have hci:wr.cell? ⟨b,off+k,none⟩=some (.bool x):=by
    rw[(Ca hbw).1 _ _ hb];exact hc k x (by rw[Dq (by rw[<-HL.out];exact hkn),hx])
   have HX:=Ag hx;clear hc hx;go_wp2
   .have hxt:x=true:=by assumption
    have HB:Hid (N%2^(k+1)=N%2^k+2^k):=Ag (by rw[Nk,HX.out,if_pos hxt]);have hMk:N%2^k<2^k:=Nat.mod_lt _ (Nat.pow_pos (by omega));obtain⟨q,hq⟩:∃q,k/8=q:=⟨_,rfl⟩
    obtain⟨r,hr⟩:∃r,k%8=r:=⟨_,rfl⟩
    have hqs:q<s:=by omega
    obtain⟨j,hj⟩:∃j,s-1-q=j:=⟨_,rfl⟩
    obtain⟨z,hz⟩:∃z,2^r=z:=⟨_,rfl⟩
    have hset:=mM (n:=s) hMk (by omega) (j:=j) (by omega);have hget:=mL (M:=N%2^k) hqs hj.symm;have hlt:=(Zu (n:=s) hMk (by omega)).1;rw[hq,hr]at hset hlt
    obtain⟨d,hd⟩:∃d,N%2^k/B8 q%256=d:=⟨_,rfl⟩
    rw[hd]at hset hget hlt
    rw[hz]at hset hlt
    have hr8:r<8:=by omega
    have hz8:z<=128:=by rw[<-hz];exact Nat.pow_le_pow_right (show 0<2 by omega) (show r<=7 by omega)
    have t1:IntKind.i64.wrap ((k:Int)/8)=(q:Int):=by rw[IntWalk.i64_in _ (by omega)];omega
    have t2:(k:Int).tmod 8=(r:Int):=by rw[Int.tmod_eq_emod_of_nonneg (by omega)];omega
    have t4:IntKind.i64.wrap ((s:Int)-1)=(s:Int)-1:=IntWalk.i64_in _ (by omega);have t5:IntKind.i64.wrap ((s:Int)-1-q)=(j:Nat):=by
     rw[IntWalk.i64_in _ (by omega)];omega
    have t6:(j:Int)<s:=by omega
    have t7:j<s:=by omega
    have t8:IntKind.u8.wrap ((d:Int)+z)=(d:Int)+z:=IntWalk.u8_in _ (by omega);have t9:IntKind.u8.wrap ((2:Int)^r)=z:=by
     rw[show ((2:Int)^r)=(z:Nat) by rw[<-hz,Int.natCast_pow];rfl];exact IntWalk.u8_in _ (by omega)
    clear hq hr hd hj hMk;have HJ:=Ag hz;clear hz;refine Ah (by kernel_rfl) (by kernel_rfl)
     [some (.slice (some ⟨w.heap.size,0,none⟩) s s),some (.int .i64 s),some (.int .i64 ((s:Int)-1)),some (.int .i64 k),some (.int .i64 (q:Nat)),some (.int .i64 (j:Nat)),some (.pointer (some ⟨w.heap.size,j,none⟩)),some (.int .u8 (d:Nat)),
      some (.int .i64 k),some (.int .i64 (r:Nat)),some (.int .u8 (z:Nat)),some (.int .u8 (d+z:Nat)),some (.pointer (some ⟨w.heap.size,j,none⟩)),none]
     [false,false,false,false,false,false,false,false,false,false,false,false,false,true] rfl
     (fun _ _=>True)
     (fun D w'=>Below w.heap.size w w'/\w.heap.size<w'.heap.size/\Bm w' w.heap.size 5 .u8 (if D 13 then Az (N%2^k+2^k) s else Az (N%2^k) s))
     (fun _ _ _=>True)
     (fun _ _ _ _ h _=>h) ⟨hbw.trans ((Bb _ _).drew.mono (As _)),hsz,hblk⟩ ?_ ?_
    .simp only[Ba,Nat.reduceAdd];refine⟨?_,?_,?_,?_,?_,?_,?_,?_,?_,?_,?_,?_,?_,?_,trivial⟩
     case refine_8=>
      intro D sp w' hD hW hdp ⟨hb',hsz',hblk'⟩;have h13:D 13=false:=hW 13 (mq (by kernel_rfl));rw[h13]at hblk'
      simp only[Bool.false_eq_true,if_false]at hblk';have hcl:w'.cell? ⟨w.heap.size,j,none⟩=some (.int .u8 (d:Nat)):=hblk'.cell hget;simp[asked,Region.wanted,Oper.gives,execOp,Act.eval,Act.put,go_sem,hcl]
     case refine_14=>
      intro D sp w' hD hW hdp ⟨hb',hsz',hblk'⟩;rw[hD]at hblk'
      simp only[Bool.false_eq_true,if_false]at hblk';have hcl:w'.cell? ⟨w.heap.size,j,none⟩=some (.int .u8 (d:Nat)):=hblk'.cell hget;have hfr:=hblk'.free j
      (with_reducible refine Aq (w1:=w'.setCell ⟨w.heap.size,j,none⟩ (.int .u8 (d+z:Nat))) ?_ ?_ ?_)
      .simp only[Region.wanted]
      .simp[execOp,Act.eval,Act.put,go_sem,hcl,hfr]
      .refine⟨trivial,trivial,hb'.setCell (As _) _,by simpa using hsz',?_⟩;simp only[decide_true,Bool.or_true,if_true];rw[<-hset];exact hblk'.set _ _
     all_goals
      intro D sp w' hD hW hdp ⟨hb',hsz',hblk'⟩;simp[asked,Region.wanted,Oper.gives,execOp,Act.eval,Act.put,go_sem,t1,t2,t4,t5,t6,t8,t9]
    .intro sp w' hsp ⟨hb',hsz',hblk'⟩;have hblk2:Bm w' w.heap.size 5 .u8 (Az (N%2^k+2^k) s):=hblk';clear hblk' hsp t1 t2 t4 t5 t6 t8 t9;simp only[An,Nat.reduceAdd]
     go_simp
     go_wp2;go_roundw
     case rel=>exact⟨k+1,by omega,by go_num,hsz',hb',by rw[HB.out];exact hblk2⟩
     case measure=>simp[intOf];omega
   .have hxt:x=false:=by assumption
    have HB:Hid (N%2^(k+1)=N%2^k):=Ag (by rw[Nk,HX.out,if_neg (by simp[hxt]),Nat.add_zero]);go_roundw
    case rel=>exact⟨k+1,by omega,by go_num,hsz,hbw,by rw[HB.out];exact hblk⟩
    case measure=>simp[intOf];omega
  .have HK:Hid (k=n):=Ag (by omega);go_wp2
   go_ret2
   have e:N%2^k=N:=Nat.mod_eq_of_lt ((Bg N k).1 (by rw[HK.out,HL.out];exact As _));rw[e]at hblk
   exact⟨rfl,hblk,hbw⟩
theorem Gl {N:Nat}(h:Ak N<=16):Ao N<=100000:=by unfold Ak at h;omega
theorem By {N M:Nat}(h:N<M)(hM:Ak M<=16):Ao N<=100000:=Dn (Ee (Nat.le_of_lt h)) (Gl hM)
theorem aB {w:World}{b P Q G H:Nat}(h:Bc w b P Q G H) :
  Calls Tryz.prog 30 #[.pointer (some ⟨b,0,none⟩)] w fun e w'=>∃x,e=.returned x/\nE Q x w'/\Below w.heap.size w w':=by
 refine(Ja h).mono ?_;rintro en w' ⟨r,rfl,hr,hb⟩;exact⟨_,rfl,⟨r,rfl,hr⟩,hb⟩
theorem Jp {w:World}{b P Q G H:Nat}(hg:Bc w b P Q G H) :
  Calls Tryz.prog 15 #[.pointer (some ⟨b,0,none⟩)] w fun e w'=>∃x,e=.returned x/\Cb P Q G H x w'/\Below w.heap.size w w':=by
 have hbx:Below w.heap.size w (w.alloc (.cells #[.slice none 0 0,.slice none 0 0,.slice none 0 0,.slice none 0 0] 30)):=Bx;have HBX:=Ab (Cu.made 30 w (.slice none 0 0) (.slice none 0 0) (.slice none 0 0) (.slice none 0 0));obtain⟨wa,hwa⟩:∃wa,w.alloc (.cells #[.slice none 0 0,.slice none 0 0,.slice none 0 0,.slice none 0 0] 30)=wa:=⟨_,rfl⟩
 rw[hwa]at hbx HBX
 have HG:=Ab (hg.below hbx);have HB:=Ab hbx;clear hg hbx;go_enter Tryz.func15,Tryz.ntmps15
 go_wp2_with fail
 refine(Xt HG.out).mono ?_;rintro en w1 ⟨x1,rfl,h1,b1⟩;have H1:=Ab h1;have HG1:=Ab (HG.out.below b1);have HB1:=Ab b1;clear h1 b1
 go_wp2_with fail
 refine(Dp H1.out (by decide)).mono ?_;rintro en w2 ⟨_,rfl,⟨p0,n0,c0,rfl,h2⟩,b2⟩;have H2:=Ab h2;have HG2:=Ab (HG1.out.below b2);have HB2:=Ab (Ae HB1.out b2);clear h2 b2
 go_wp2_with fail
 refine(aB HG2.out).mono ?_;rintro en w3 ⟨x3,rfl,h3,b3⟩;have H23:=Ab (H2.out.below b3);have HG3:=Ab (HG2.out.below b3);have HB3:=Ab (Ae HB2.out b3);obtain⟨r,rfl,hr3⟩:=h3.ex;have H3:Aa (Ring w3 r Q 33):=⟨hr3⟩
 clear h3 hr3 b3
 go_wp2_with fail
 refine(Fd H3.out).mono ?_;rintro en w4 ⟨x4,rfl,h4,b4⟩;have H24:=Ab (H23.out.below b4);have H4:=Ab h4;have HG4:=Ab (HG3.out.below b4);have HB4:=Ab (Ae HB3.out b4);clear h4 b4
 go_wp2_with fail
 refine(Dp H4.out (by decide)).mono ?_;rintro en w5 ⟨_,rfl,⟨p1,n1,c1,rfl,h5⟩,b5⟩;have H25:=Ab (H24.out.below b5);have H5:=Ab h5;have HG5:=Ab (HG4.out.below b5);have HB5:=Ab (Ae HB4.out b5);clear h5 b5
 go_wp2_with fail
 refine(Mm HG5.out).mono ?_;rintro en w6 ⟨x6,rfl,h6,b6⟩;have H26:=Ab (H25.out.below b6);have H56:=Ab (H5.out.below b6);have H6:=Ab h6;have HG6:=Ab (HG5.out.below b6);have HB6:=Ab (Ae HB5.out b6);clear h6 b6
 go_wp2_with fail
 refine(Dp H6.out (by decide)).mono ?_;rintro en w7 ⟨_,rfl,⟨p2,n2,c2,rfl,h7⟩,b7⟩;have H27:=Ab (H26.out.below b7);have H57:=Ab (H56.out.below b7);have H7:=Ab h7;have HG7:=Ab (HG6.out.below b7);have HB7:=Ab (Ae HB6.out b7);clear h7 b7
 go_wp2_with fail
 refine(qD HG7.out).mono ?_;rintro en w8 ⟨x8,rfl,h8,b8⟩;have H28:=Ab (H27.out.below b8);have H58:=Ab (H57.out.below b8);have H78:=Ab (H7.out.below b8);have H8:=Ab h8;have HB8:=Ab (Ae HB7.out b8);clear h8 b8
 go_wp2_with fail
 refine(Dp H8.out (by decide)).mono ?_;rintro en w9 ⟨_,rfl,⟨p3,n3,c3,rfl,h9⟩,b9⟩;have H29:=Ab (H28.out.below b9);have H59:=Ab (H58.out.below b9);have H79:=Ab (H78.out.below b9);have H9:=Ab h9;have HB9:=Ab (Ae HB8.out b9);have hbx9:=HBX.out.below HB9.out HBX.out.lt;have g0:=hbx9.cells.1;have g1:=hbx9.cells.2.1;have g2:=hbx9.cells.2.2.1;have g3:=hbx9.cells.2.2.2;have f0:=hbx9.free;clear h9 b9;go_wp2;obtain⟨wf,hwf⟩:∃wf,wf=(((w9.setCell ⟨w.heap.size,0,none⟩ (.slice p0 n0 c0)).setCell ⟨w.heap.size,1,none⟩ (.slice p1 n1 c1)).setCell ⟨w.heap.size,2,none⟩ (.slice p2 n2 c2)).setCell ⟨w.heap.size,3,none⟩ (.slice p3 n3 c3):=⟨_,rfl⟩
 have hkp:Ij w9 wf:=by rw[hwf];exact gU (x0:=(none,0,0)) (x1:=(none,0,0)) (x2:=(none,0,0)) (x3:=(none,0,0)) hbx9 _ _ _ _
 have hst:=Jr hbx9 hwf;have e0:=hst.1.cells.1;have e1:=hst.1.cells.2.1;have e2:=hst.1.cells.2.2.1;have e3:=hst.1.cells.2.2.2;have hbf:=hst.2.2 w.heap.size w (Ae HB.out HB9.out) (As _);rw[<-hwf];refine bodyPost_ret (v:=.agg #[.slice p0 n0 c0,.slice p1 n1 c1,.slice p2 n2 c2,.slice p3 n3 c3]) (by simp[results,Tryz.results15,go_sem,e0,e1,e2,e3]) rfl ⟨_,rfl,⟨p0,n0,c0,p1,n1,c1,p2,n2,c2,p3,n3,c3,rfl,Pr.kept H29.out hkp,Pr.kept H59.out hkp,Pr.kept H79.out hkp,Pr.kept H9.out hkp⟩,hbf⟩
def Pu (n:Nat)(bs:List Nat)(v:Value)(w:World):Prop:=∃p c,v=.slice p n c/\Ax w ⟨p,n,c,bs⟩/\(p=none->c=0)
theorem Pu.below {n:Nat}{bs:List Nat}{v:Value}{w w':World}(h:Pu n bs v w)(hb:Below w.heap.size w w'):Pu n bs v w' :=
 let ⟨p,c,h1,h2,h3⟩:=h
 ⟨p,c,h1,h2.below hb,h3⟩
theorem Td {w:World}{N s:Nat}{v:Value}(h:Al N v w)(hs:s<=1000)(hN:N<B8 s) :
  Calls Tryz.prog 96 #[v,.int .i64 (s:Nat)] w fun en w'=>∃g,en=.returned (.tuple #[.slice (some ⟨g,0,none⟩) s s,.bool true])/\Bm w' g 5 .u8 (Az N s)/\w.heap.size<=g/\Below w.heap.size w w':=by
 obtain⟨p,n,c,rfl,h1⟩:=h;have hb:=Jf.2 hN;have hl:Ao N<=8*s:=by have:=hb;unfold Ak at this;omega
 refine(cE w p n c N s h1 (by omega) (by omega) (by omega)).mono ?_;rintro en w' ⟨rfl,hv,hbel⟩;exact⟨_,rfl,hv,As _,hbel⟩
theorem Pn {w:World}{v:Value}{P Q G H:Nat}(h:Cb P Q G H v w)(hl:Ao Q<=100000) :
  Calls Tryz.prog 87 #[v] w fun e w'=>e=.returned (.int .i64 (Ak Q:Nat))/\Below w.heap.size w w':=by
 obtain⟨p0,n0,c0,p1,n1,c1,p2,n2,c2,p3,n3,c3,rfl,h0,h1,h2,h3⟩:=h.ex;have hbx:Below w.heap.size w (w.alloc (.cells #[.slice p0 n0 c0,.slice p1 n1 c1,.slice p2 n2 c2,.slice p3 n3 c3] 30)):=Bx;have hbo:=Cu.made 30 w (.slice p0 n0 c0) (.slice p1 n1 c1) (.slice p2 n2 c2) (.slice p3 n3 c3);obtain⟨wa,hwa⟩:∃wa,w.alloc (.cells #[.slice p0 n0 c0,.slice p1 n1 c1,.slice p2 n2 c2,.slice p3 n3 c3] 30)=wa:=⟨_,rfl⟩
 rw[hwa]at hbx hbo
 have HB:=Ab hbx;have HBX:=Ab hbo;have HV:Aa (Cb P Q G H (.agg #[.slice p0 n0 c0,.slice p1 n1 c1,.slice p2 n2 c2,.slice p3 n3 c3]) wa):=⟨⟨p0,n0,c0,p1,n1,c1,p2,n2,c2,p3,n3,c3,rfl,h0.below hbx,h1.below hbx,h2.below hbx,h3.below hbx⟩⟩
 have hn:=Ch h1;have HS:Aa (Ak Q=(n1+7)/8):=⟨by unfold Ak;rw[hn]⟩
 have hn0:n1<=100000:=by omega
 have hdiv:((n1:Int)+7).tdiv 8=(((n1+7)/8:Nat):Int):=by rw[Int.tdiv_eq_ediv_of_nonneg (by omega)];omega
 have c1':=HBX.out.cells.2.1;clear h h0 h1 h2 h3 hn hbx hl hbo;go_enter Tryz.func87,Tryz.ntmps87;go_wp2;go_ret;exact⟨by rw[HS.out];simp,HB.out⟩
theorem Ep {w:World}{v u:Value}{P Q G H N:Nat}(h:Cb P Q G H v w)(hu:Al N u w)(hl:Ao Q<=100000)(hs:Ak Q<=16)(hN:N<B8 (Ak Q)) :
  Calls Tryz.prog 34 #[v,u] w fun e w'=>∃g,e=.returned (.slice (some ⟨g,0,none⟩) (Ak Q) (Ak Q))/\Bm w' g 5 .u8 (Az N (Ak Q))/\w.heap.size<=g/\Below w.heap.size w w':=by
 obtain⟨p0,n0,c0,p1,n1,c1,p2,n2,c2,p3,n3,c3,rfl,h0,h1,h2,h3⟩:=h.ex;have hbx:Below w.heap.size w (w.alloc (.cells #[.slice p0 n0 c0,.slice p1 n1 c1,.slice p2 n2 c2,.slice p3 n3 c3] 30)):=Bx;have hbo:=Cu.made 30 w (.slice p0 n0 c0) (.slice p1 n1 c1) (.slice p2 n2 c2) (.slice p3 n3 c3);obtain⟨wa,hwa⟩:∃wa,w.alloc (.cells #[.slice p0 n0 c0,.slice p1 n1 c1,.slice p2 n2 c2,.slice p3 n3 c3] 30)=wa:=⟨_,rfl⟩
 rw[hwa]at hbx hbo
 have HB:=Ab hbx;have HBX:=Ab hbo;have HV:Aa (Cb P Q G H (.agg #[.slice p0 n0 c0,.slice p1 n1 c1,.slice p2 n2 c2,.slice p3 n3 c3]) wa):=⟨⟨p0,n0,c0,p1,n1,c1,p2,n2,c2,p3,n3,c3,rfl,h0.below hbx,h1.below hbx,h2.below hbx,h3.below hbx⟩⟩
 obtain⟨q0,m0,d0,rfl,hu0⟩:=hu;have HU:=Ab (Al.of (hu0.below hbx));have HN:=Ab hN;have HSl:=Ab hs;have g0:=HBX.out.cells.1;have g1:=HBX.out.cells.2.1;have g2:=HBX.out.cells.2.2.1;have g3:=HBX.out.cells.2.2.2;have HW:=Ab (Pn HV.out hl);clear h h0 h1 h2 h3 hbx hl hbo hu0 hN hs;go_enter Tryz.func34,Tryz.ntmps34
 go_wp2_with fail
 refine HW.out.mono ?_;rintro en w1 ⟨rfl,hb1⟩;have HU1:=Ab (HU.out.below hb1);have HB1:=Ab (Ae HB.out hb1);clear hb1 g0 g1 g2 g3
 go_wp2_with fail
 refine(Td HU1.out (by have:=HSl.out;omega) HN.out).mono ?_;rintro en w2 ⟨x,rfl,hx,hg,hb2⟩;have HX:=Ab hx;have HXG:Aa (w.heap.size<=x):=⟨Dn HB1.out.size hg⟩
 have HB2:=Ab (Ae HB1.out hb2);clear hx hb2 hg;go_wp2;go_ret;exact⟨x,rfl,HX.out,HXG.out,HB2.out⟩
theorem Vc {w:World}{v u:Value}{P Q G H N:Nat}(h:Cb P Q G H v w)(hu:Al N u w)(hl:Ao P<=100000)(hs:Ak P<=16)(hN:N<B8 (Ak P)) :
  Calls Tryz.prog 98 #[v,u] w fun e w'=>∃g,e=.returned (.slice (some ⟨g,0,none⟩) (Ak P) (Ak P))/\Bm w' g 5 .u8 (Az N (Ak P))/\w.heap.size<=g/\Below w.heap.size w w':=by
 obtain⟨p0,n0,c0,p1,n1,c1,p2,n2,c2,p3,n3,c3,rfl,h0,h1,h2,h3⟩:=h.ex;have hbx:Below w.heap.size w (w.alloc (.cells #[.slice p0 n0 c0,.slice p1 n1 c1,.slice p2 n2 c2,.slice p3 n3 c3] 30)):=Bx;have hbo:=Cu.made 30 w (.slice p0 n0 c0) (.slice p1 n1 c1) (.slice p2 n2 c2) (.slice p3 n3 c3);obtain⟨wa,hwa⟩:∃wa,w.alloc (.cells #[.slice p0 n0 c0,.slice p1 n1 c1,.slice p2 n2 c2,.slice p3 n3 c3] 30)=wa:=⟨_,rfl⟩
 rw[hwa]at hbx hbo
 have HB:=Ab hbx;have HBX:=Ab hbo;have HV:Aa (Cb P Q G H (.agg #[.slice p0 n0 c0,.slice p1 n1 c1,.slice p2 n2 c2,.slice p3 n3 c3]) wa):=⟨⟨p0,n0,c0,p1,n1,c1,p2,n2,c2,p3,n3,c3,rfl,h0.below hbx,h1.below hbx,h2.below hbx,h3.below hbx⟩⟩
 obtain⟨q0,m0,d0,rfl,hu0⟩:=hu;have HU:=Ab (Al.of (hu0.below hbx));have HN:=Ab hN;have HSl:=Ab hs;have g0:=HBX.out.cells.1;have g1:=HBX.out.cells.2.1;have g2:=HBX.out.cells.2.2.1;have g3:=HBX.out.cells.2.2.2;have HW:=Ab (aH HV.out hl);clear h h0 h1 h2 h3 hbx hl hbo hu0 hN hs;go_enter Tryz.func98,Tryz.ntmps98
 go_wp2_with fail
 refine HW.out.mono ?_;rintro en w1 ⟨rfl,hb1⟩;have HU1:=Ab (HU.out.below hb1);have HB1:=Ab (Ae HB.out hb1);clear hb1 g0 g1 g2 g3
 go_wp2_with fail
 refine(Td HU1.out (by have:=HSl.out;omega) HN.out).mono ?_;rintro en w2 ⟨x,rfl,hx,hg,hb2⟩;have HX:=Ab hx;have HXG:Aa (w.heap.size<=x):=⟨Dn HB1.out.size hg⟩
 have HB2:=Ab (Ae HB1.out hb2);clear hx hb2 hg;go_wp2;go_ret;exact⟨x,rfl,HX.out,HXG.out,HB2.out⟩
theorem Gn {w:World}{v u t:Value}{P Q G H A E:Nat}(h:Cb P Q G H v w)(hu:Al A u w)(ht:Al E t w)(lA:Ao A<=100000)(lE:Ao E<=100000)(lP:Ao P<=100000)(hP:0<P) :
  Calls Tryz.prog 74 #[v,u,t] w fun e w'=>∃x,e=.returned x/\Al (A^E%P) x w'/\Below w.heap.size w w':=by
 obtain⟨p0,n0,c0,p1,n1,c1,p2,n2,c2,p3,n3,c3,rfl,h0,h1,h2,h3⟩:=h.ex;have hbx:Below w.heap.size w (w.alloc (.cells #[.slice p0 n0 c0,.slice p1 n1 c1,.slice p2 n2 c2,.slice p3 n3 c3] 30)):=Bx;have hbo:=Cu.made 30 w (.slice p0 n0 c0) (.slice p1 n1 c1) (.slice p2 n2 c2) (.slice p3 n3 c3);obtain⟨wa,hwa⟩:∃wa,w.alloc (.cells #[.slice p0 n0 c0,.slice p1 n1 c1,.slice p2 n2 c2,.slice p3 n3 c3] 30)=wa:=⟨_,rfl⟩
 rw[hwa]at hbx hbo
 have HB:=Ab hbx;have HBX:=Ab hbo;have HV:Aa (Cb P Q G H (.agg #[.slice p0 n0 c0,.slice p1 n1 c1,.slice p2 n2 c2,.slice p3 n3 c3]) wa):=⟨⟨p0,n0,c0,p1,n1,c1,p2,n2,c2,p3,n3,c3,rfl,h0.below hbx,h1.below hbx,h2.below hbx,h3.below hbx⟩⟩
 obtain⟨q0,m0,d0,rfl,hu0⟩:=hu;obtain⟨q1,m1,d1,rfl,ht0⟩:=ht;have HC:=Ab (aQ (Al.of (hu0.below hbx)) (Al.of (ht0.below hbx)) (Al.of (h0.below hbx)) lA lE lP hP);have g0:=HBX.out.cells.1;clear h h0 h1 h2 h3 hbx hbo hu0 ht0 lA lE lP hP;go_enter Tryz.func74,Tryz.ntmps74
 go_wp2_with fail
 refine HC.out.mono ?_;rintro en w1 ⟨x,rfl,hx,hb1⟩;have HX:=Ab hx;have HB1:=Ab (Ae HB.out hb1);clear hx hb1 g0;go_wp2;go_ret;exact⟨x,rfl,HX.out,HB1.out⟩
theorem aO {w:World}{v u t:Value}{P Q G H A E:Nat}(h:Cb P Q G H v w)(hu:Al A u w)(ht:Al E t w)(lA:Ao A<=100000)(lE:Ao E<=100000)(lP:Ao P<=100000)(hP:0<P) :
  Calls Tryz.prog 89 #[v,u,t] w fun e w'=>∃x,e=.returned x/\Al (A*E%P) x w'/\Below w.heap.size w w':=by
 obtain⟨p0,n0,c0,p1,n1,c1,p2,n2,c2,p3,n3,c3,rfl,h0,h1,h2,h3⟩:=h.ex;have hbx:Below w.heap.size w (w.alloc (.cells #[.slice p0 n0 c0,.slice p1 n1 c1,.slice p2 n2 c2,.slice p3 n3 c3] 30)):=Bx;have hbo:=Cu.made 30 w (.slice p0 n0 c0) (.slice p1 n1 c1) (.slice p2 n2 c2) (.slice p3 n3 c3);obtain⟨wa,hwa⟩:∃wa,w.alloc (.cells #[.slice p0 n0 c0,.slice p1 n1 c1,.slice p2 n2 c2,.slice p3 n3 c3] 30)=wa:=⟨_,rfl⟩
 rw[hwa]at hbx hbo
 have HB:=Ab hbx;have HBX:=Ab hbo;have HV:Aa (Cb P Q G H (.agg #[.slice p0 n0 c0,.slice p1 n1 c1,.slice p2 n2 c2,.slice p3 n3 c3]) wa):=⟨⟨p0,n0,c0,p1,n1,c1,p2,n2,c2,p3,n3,c3,rfl,h0.below hbx,h1.below hbx,h2.below hbx,h3.below hbx⟩⟩
 obtain⟨q0,m0,d0,rfl,hu0⟩:=hu;obtain⟨q1,m1,d1,rfl,ht0⟩:=ht;have HC:=Ab (Kp (Al.of (hu0.below hbx)) (Al.of (ht0.below hbx)) (Al.of (h0.below hbx)) lA lE lP hP);have g0:=HBX.out.cells.1;clear h h0 h1 h2 h3 hbx hbo hu0 ht0 lA lE lP hP;go_enter Tryz.func89,Tryz.ntmps89
 go_wp2_with fail
 refine HC.out.mono ?_;rintro en w1 ⟨x,rfl,hx,hb1⟩;have HX:=Ab hx;have HB1:=Ab (Ae HB.out hb1);clear hx hb1 g0;go_wp2;go_ret;exact⟨x,rfl,HX.out,HB1.out⟩
theorem Al.kc {N B:Nat}{v:Value}{w w':World}(h:Al N v w)(hk:KC B w w'):Al N v w':=by
 obtain⟨q,m,d,rfl,hb⟩:=h;refine Al.of ⟨hb.len,hb.cap,hb.max,?_⟩;rcases hb.at_ with h1|⟨b,off,h1,h2,h3⟩
 .exact .inl h1
 .exact .inr ⟨b,off,h1,Ej h2 hk.bel.size,fun i x hx=>hk.cell _ _ (h3 i x hx)⟩
theorem Pu.kc {n B:Nat}{bs:List Nat}{v:Value}{w w':World}(h:Pu n bs v w)(hk:KC B w w'):Pu n bs v w' :=
 let ⟨p,c,h1,h2,h3⟩:=h
 ⟨p,c,h1,h2.kc hk,h3⟩
def iW (B:Nat)(v:Value)(w:World):Prop:=∃g,v=.slice (some ⟨g,0,none⟩) 4 4/\w.shape? g=some (5,4)/\Ax w ⟨some ⟨g,0,none⟩,4,4,Fs⟩/\B<=g
theorem iW.kc {B C:Nat}{v:Value}{w w':World}(h:iW B v w)(hk:KC C w w'):iW B v w' :=
 let ⟨g,h1,h2,h3,h4⟩:=h
 ⟨g,h1,hk.shape _ _ h2,h3.kc hk,h4⟩
theorem gM {B:Nat}(w:World)(hB:B<=w.heap.size):iW B (.slice (some ⟨w.heap.size,0,none⟩) 4 4) (w.alloc (.cells #[.int .u8 115,.int .u8 105,.int .u8 103,.int .u8 110] 5)):=by
 have h1:(w.alloc (.cells #[.int .u8 115,.int .u8 105,.int .u8 103,.int .u8 110] 5)).heap[w.heap.size]? = some (.cells #[.int .u8 115,.int .u8 105,.int .u8 103,.int .u8 110] 5 (0,0)):=heap_alloc_new w _;exact⟨w.heap.size,rfl,by unfold World.shape?;rw[h1];rfl,⟨Mf (bs:=Fs) h1 rfl (by decide:4<=9223372036854775807),(by decide:∀x∈Fs,x<256)⟩,hB⟩
def Yk (A Y sz:Nat)(msg:List Nat)(v:Value)(w:World):Prop:=∃(q:Nat) (L:List Part),v=.slice (some ⟨q,0,none⟩) 4 4/\Ck w (some ⟨q,0,none⟩) 4 4 L/\Kd L/\L.map (·.bs)=[Fs,Az A sz,Az Y sz,msg]
theorem Yk.kc {A Y sz B:Nat}{msg:List Nat}{v:Value}{w w':World}(h:Yk A Y sz msg v w)(hk:KC B w w'):Yk A Y sz msg v w' :=
 let ⟨q,L,h1,h2,h3,h4⟩:=h
 ⟨q,L,h1,h2.kc hk,h3,h4⟩
theorem rJ {w:World}{v u:Value}{P Q G H N sz:Nat}(h:Cb P Q G H v w)(hu:Al N u w)(hl:Ao P<=100000)(hsz:Ak P=sz)(hs:sz<=16)(hN:N<B8 sz) :
  Calls Tryz.prog 98 #[v,u] w fun e w'=>∃x,e=.returned x/\Pu sz (Az N sz) x w'/\Below w.heap.size w w':=by
 subst hsz;refine(Vc h hu hl hs hN).mono ?_;rintro en w' ⟨g,rfl,hb,_,hbel⟩;exact⟨_,rfl,⟨_,_,rfl,Gw hb (by omega),fun h=>by cases h⟩,hbel⟩
theorem qM (sz:Nat)(A Y:Nat)(msg:List Nat):(Cg [Fs,Az A sz,Az Y sz,msg]).length=36+2*sz+msg.length:=by
 simp[Cg,Fe,Bq,Fs];omega
theorem Ll {w:World}{v u t:Value}{P Q G H A Y nm cm:Nat}{pm:Option Addr}{msg:List Nat}(h:Cb P Q G H v w)(hu:Al A u w)(ht:Al Y t w)(hA:A<P)(hY:Y<P)(lP:Ao P<=100000)(lQ:Ao Q<=100000)(hQ:0<Q)(hs:Ak P<=16)(hm:Ax w ⟨pm,nm,cm,msg⟩)(hz:pm=none->cm=0)(hn:nm<=1000) :
  Calls Tryz.prog 35 #[v,u,t,.slice pm nm cm] w fun e w'=>∃x,e=.returned x/\Al (Hd P Q A Y msg) x w'/\Below w.heap.size w w':=by
 obtain⟨p0,n0,c0,p1,n1,c1,p2,n2,c2,p3,n3,c3,rfl,h0,h1,h2,h3⟩:=h.ex;have hbx:Below w.heap.size w (w.alloc (.cells #[.slice p0 n0 c0,.slice p1 n1 c1,.slice p2 n2 c2,.slice p3 n3 c3] 30)):=Bx;have hbo:=Cu.made 30 w (.slice p0 n0 c0) (.slice p1 n1 c1) (.slice p2 n2 c2) (.slice p3 n3 c3);obtain⟨wa,hwa⟩:∃wa,w.alloc (.cells #[.slice p0 n0 c0,.slice p1 n1 c1,.slice p2 n2 c2,.slice p3 n3 c3] 30)=wa:=⟨_,rfl⟩
 rw[hwa]at hbx hbo
 have HB:=Ab hbx;have HBX:=Ab hbo;have HV:Aa (Cb P Q G H (.agg #[.slice p0 n0 c0,.slice p1 n1 c1,.slice p2 n2 c2,.slice p3 n3 c3]) wa):=⟨⟨p0,n0,c0,p1,n1,c1,p2,n2,c2,p3,n3,c3,rfl,h0.below hbx,h1.below hbx,h2.below hbx,h3.below hbx⟩⟩
 obtain⟨pa,na,ca,rfl,hu0⟩:=hu;obtain⟨py,ny,cy,rfl,ht0⟩:=ht;have hsz1:wa.heap.size=w.heap.size+1:=by rw[<-hwa];simp
 have HSB:Aa (∀ {w':World},KC (w.heap.size+1) wa w'->w.heap.size+1<=w'.heap.size):=⟨fun hk=>by have:=hk.bel.size;omega⟩
 have HV:Aa (Cb P Q G H (.agg #[.slice p0 n0 c0,.slice p1 n1 c1,.slice p2 n2 c2,.slice p3 n3 c3]) wa):=HV;have HA:=Ab (Al.of (hu0.below hbx));have HY:=Ab (Al.of (ht0.below hbx));have HM:=Ab (hm.below hbx);have HZM:=Ab hz;have HQB:=Ab (h1.below hbx);have HQ0:=Ab hQ;have HQl:Aa (Ao Q<=900000):=⟨by omega⟩
 have HPl:=Ab lP;have hlm:=Dj P;obtain⟨sz,hsz⟩:∃s,Ak P=s:=⟨_,rfl⟩
 have HCH0:Aa (be (Ie (Cg [Fs,Az A sz,Az Y sz,msg]))%Q=Hd P Q A Y msg):=⟨by rw[<-hsz];rfl⟩
 obtain⟨CH,hCH⟩:∃C,Hd P Q A Y msg=C:=⟨_,rfl⟩
 rw[hCH]at HCH0 ⊢
 have HCH:Aa _:=HCH0;rw[hsz]at hs hlm
 have HSZ:=Ab hsz;have HSs:=Ab hs;have HLM:Aa (A<B8 sz/\Y<B8 sz):=⟨by omega,by omega⟩
 have HMX:Aa ((Cg [Fs,Az A sz,Az Y sz,msg]).length<=1000000):=⟨by
  have h9:=hm.row.len
  dsimp only at h9
  rw[qM];omega⟩
 clear h h0 h1 h2 h3 hbx hbo hu0 ht0 hA hY lP lQ hQ hs hm hz hn hCH hlm hsz HCH0;go_enter Tryz.func35,Tryz.ntmps35;go_wp2;refine Ah (by kernel_rfl) (by kernel_rfl)
  [some (.agg #[.slice p0 n0 c0,.slice p1 n1 c1,.slice p2 n2 c2,.slice p3 n3 c3]),none,none,some (.agg #[.slice p0 n0 c0,.slice p1 n1 c1,.slice p2 n2 c2,.slice p3 n3 c3]),some (.slice pa na ca),none,some (.agg #[.slice p0 n0 c0,.slice p1 n1 c1,.slice p2 n2 c2,.slice p3 n3 c3]),some (.slice py ny cy),none,some (.slice pm nm cm),none,none,none]
  [false,true,true,false,false,true,false,false,true,false,true,true,true] rfl
  (fun w1 w2=>KC (w.heap.size+1) w1 w2)
  (fun D w'=>KC (w.heap.size+1) wa w')
  (fun i v w'=>match i with
   | 1=>iW (w.heap.size+1) v w'
   | 2=>iW (w.heap.size+1) v w'
   | 5=>Pu sz (Az A sz) v w'
   | 8=>Pu sz (Az Y sz) v w'
   | 10=>Yk A Y sz msg v w'
   | 11=>Al CH v w'
   | 12=>Al CH v w'
   | _=>True)
  ?_ (KC.drew _ _) ?_ ?_
 .intro i v w1 w2 hf hb;split at hf
  .exact hf.kc hb
  .exact hf.kc hb
  .exact hf.kc hb
  .exact hf.kc hb
  .exact hf.kc hb
  .exact hf.kc hb
  .exact hf.kc hb
  .trivial
 .simp only[Ba,Nat.reduceAdd];refine⟨?_,?_,?_,?_,?_,?_,?_,?_,?_,?_,?_,?_,?_,trivial⟩
  all_goals intro D sp w' hD hW hdp hbx'
  case refine_1|refine_4|refine_7=>
   have hB4:=HBX.out.below (hsz1 ▸ hbx'.bel) HBX.out.lt;have g0:=hB4.cells.1;have g1:=hB4.cells.2.1;have g2:=hB4.cells.2.2.1;have g3:=hB4.cells.2.2.2
   with_reducible refine Ad ?_ ?_
   all_goals simp[Region.wanted,yielded,execOp,Act.eval,Act.put,go_sem,g0,g1,g2,g3]
  case refine_2=>
   (with_reducible refine Ai (w1:=w'.alloc (.cells #[.int .u8 115,.int .u8 105,.int .u8 103,.int .u8 110] 5)) (v:=.slice (some ⟨w'.heap.size,0,none⟩) 4 4) ?_ ?_ ?_)
   .simp only[Region.wanted]
   .simp[execOp,Act.eval,go_sem]
   .have hbl:Below w'.heap.size w' (w'.alloc (.cells #[.int .u8 115,.int .u8 105,.int .u8 103,.int .u8 110] 5)):=Bx;exact⟨KC.of hbl (HSB.out hbx'),gM w' (HSB.out hbx'),hbx'.trans (KC.of hbl (HSB.out hbx'))⟩
  case refine_3=>
   have hx1:∃g,sp 1=.slice (some ⟨g,0,none⟩) 4 4/\w'.shape? g=some (5,4)/\Ax w' ⟨some ⟨g,0,none⟩,4,4,Fs⟩/\w.heap.size+1<=g:=(hdp 1 (mq (by kernel_rfl))).2
   (with_reducible refine Ay hx1 fun g e10=>?_)
   have h1:=e10.1;have h7:=run_mark (w:=w') (n:=4) (c:=4) e10.2.1
   (with_reducible refine Ai (w1:=w'.freeze ⟨g,4,none⟩ 1) (v:=.slice (some ⟨g,0,none⟩) 4 4) ?_ ?_ ?_)
   .simp only[Region.wanted]
   .simp[execOp,Act.eval,Act.put,go_sem,h1,h7]
   .have hkc:=KC.mark (w:=w') (g:=g) (B:=w.heap.size+1) 4 e10.2.2.2;exact⟨hkc,⟨g,rfl,hkc.shape _ _ e10.2.1,e10.2.2.1.kc hkc,e10.2.2.2⟩,hbx'.trans hkc⟩
  case refine_6=>
   (with_reducible refine Ac (w1:=w') (f := 98) (args:=#[.agg #[.slice p0 n0 c0,.slice p1 n1 c1,.slice p2 n2 c2,.slice p3 n3 c3],.slice pa na ca]) ?_ ?_ ?_)
   .simp[Region.wanted,yielded,Act.put,go_sem]
   .simp[Act.eval,Act.put,go_sem]
   .refine(rJ (HV.out.below (hsz1 ▸ hbx'.bel)) (HA.out.below (hsz1 ▸ hbx'.bel)) HPl.out HSZ.out HSs.out HLM.out.1).mono ?_;rintro en w9 ⟨u,rfl,hu,hb⟩;exact⟨u,rfl,KC.of hb (HSB.out hbx'),hu,hbx'.trans (KC.of hb (HSB.out hbx'))⟩
  case refine_9=>
   (with_reducible refine Ac (w1:=w') (f := 98) (args:=#[.agg #[.slice p0 n0 c0,.slice p1 n1 c1,.slice p2 n2 c2,.slice p3 n3 c3],.slice py ny cy]) ?_ ?_ ?_)
   .simp[Region.wanted,yielded,Act.put,go_sem]
   .simp[Act.eval,Act.put,go_sem]
   .refine(rJ (HV.out.below (hsz1 ▸ hbx'.bel)) (HY.out.below (hsz1 ▸ hbx'.bel)) HPl.out HSZ.out HSs.out HLM.out.2).mono ?_;rintro en w9 ⟨u,rfl,hu,hb⟩;exact⟨u,rfl,KC.of hb (HSB.out hbx'),hu,hbx'.trans (KC.of hb (HSB.out hbx'))⟩
  case refine_11=>
   have hx2:∃g,sp 2=.slice (some ⟨g,0,none⟩) 4 4/\w'.shape? g=some (5,4)/\Ax w' ⟨some ⟨g,0,none⟩,4,4,Fs⟩/\w.heap.size+1<=g:=(hdp 2 (mq (by kernel_rfl))).2
   (with_reducible refine Ay hx2 fun g e20=>?_)
   have hx5:∃p c,sp 5=.slice p sz c/\Ax w' ⟨p,sz,c,Az A sz⟩/\(p=none->c=0):=(hdp 5 (mq (by kernel_rfl))).2
   (with_reducible refine Ay hx5 fun p5 e50=>Ay e50 fun c5 e51=>?_)
   have hx8:∃p c,sp 8=.slice p sz c/\Ax w' ⟨p,sz,c,Az Y sz⟩/\(p=none->c=0):=(hdp 8 (mq (by kernel_rfl))).2
   (with_reducible refine Ay hx8 fun p8 e80=>Ay e80 fun c8 e81=>?_)
   have ea:=e20.1;have eb:=e51.1;have ec:=e81.1
   (with_reducible refine Ai (w1:=w'.alloc (.cells #[.slice (some ⟨g,0,none⟩) 4 4,.slice p5 sz c5,.slice p8 sz c8,.slice pm nm cm] 23)) (v:=.slice (some ⟨w'.heap.size,0,none⟩) 4 4) ?_ ?_ ?_)
   .simp only[Region.wanted]
   .simp[execOp,Act.eval,Act.put,go_sem,ea,eb,ec]
   .have hbl:Below w'.heap.size w' (w'.alloc (.cells #[.slice (some ⟨g,0,none⟩) 4 4,.slice p5 sz c5,.slice p8 sz c8,.slice pm nm cm] 23)):=Bx;have hp:=kE w' ⟨some ⟨g,0,none⟩,4,4,Fs⟩ ⟨p5,sz,c5,Az A sz⟩ ⟨p8,sz,c8,Az Y sz⟩ ⟨pm,nm,cm,msg⟩ e20.2.2.1 e51.2.1 e81.2.1 (HM.out.below (hsz1 ▸ hbx'.bel));exact⟨KC.of hbl (HSB.out hbx'),⟨w'.heap.size,_,rfl,hp,jG (fun h=>by cases h) e51.2.2 e81.2.2 HZM.out,rfl⟩,hbx'.trans (KC.of hbl (HSB.out hbx'))⟩
  case refine_12=>
   have hx10:∃(q:Nat) (L:List Part),sp 10=.slice (some ⟨q,0,none⟩) 4 4/\Ck w' (some ⟨q,0,none⟩) 4 4 L/\Kd L/\L.map (·.bs)=[Fs,Az A sz,Az Y sz,msg]:=(hdp 10 (mq (by kernel_rfl))).2
   (with_reducible refine Ay hx10 fun q e100=>Ay e100 fun L e101=>?_)
   have h1:=e101.1
   (with_reducible refine Ac (w1:=w') (f := 97) (args:=#[.agg #[.slice p0 n0 c0,.slice p1 n1 c1,.slice p2 n2 c2,.slice p3 n3 c3],.slice (some ⟨q,0,none⟩) 4 4]) ?_ ?_ ?_)
   .simp only[Region.wanted]
   .simp[Act.eval,Act.put,go_sem,h1]
   .refine(aS w' p0 n0 c0 p1 n1 c1 Q p2 n2 c2 p3 n3 c3 (HQB.out.below (hsz1 ▸ hbx'.bel)) HQ0.out HQl.out _ 4 4 L e101.2.1 e101.2.2.1 (by rw[e101.2.2.2];exact HMX.out)).mono ?_;rintro en w9 ⟨u,rfl,hu,hb⟩;rw[e101.2.2.2,HCH.out]at hu
    exact⟨u,rfl,KC.of hb (HSB.out hbx'),hu,hbx'.trans (KC.of hb (HSB.out hbx'))⟩
  case refine_13=>
   have k11:Al CH (sp 11) w':=(hdp 11 (mq (by kernel_rfl))).2
   (with_reducible refine Ai (w1:=w') (v:=sp 11) ?_ ?_ ?_)
   .simp[Region.wanted,yielded,Act.put,go_sem]
   .simp[execOp,Act.eval,Act.put,go_sem]
   .exact⟨KC.same _ _,k11,hbx'⟩
  all_goals ((with_reducible refine Ad ?_ ?_);all_goals first|(simp only[Region.wanted];done)|simp[Region.wanted,yielded,execOp,Act.eval,Act.put,go_sem])
 .intro sp w8 hsp hk;have HX:Aa (Al CH (sp 12) w8):=⟨hsp 12 rfl⟩
  have HBf:Aa (Below w.heap.size w w8):=⟨HB.out.trans (hk.bel.mono (by omega))⟩
  clear hsp hk;simp only[An,Nat.reduceAdd];generalize sp 1=y1,sp 2=y2,sp 5=y5,sp 8=y8,sp 10=y10,sp 11=y11,sp 12=y12 at *
  go_simp
  go_wp2;go_ret;exact⟨_,rfl,HX.out,HBf.out⟩
end Go.Proofs.YtokhckjemidbpaaGreatDoor
