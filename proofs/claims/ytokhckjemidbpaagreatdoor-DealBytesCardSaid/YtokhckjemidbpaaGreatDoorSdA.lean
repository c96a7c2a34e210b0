/- The document's side of signatures: its group, its bytes, its challenge. -/
import Derived.Test.YtokhckjemidbpaaGreatDoorSgA
import Derived.Lib.SmallJoins
import Derived.Deep.LoopGhost
set_option maxRecDepth 1000000
set_option maxHeartbeats 16000000
set_option linter.all false
namespace Go.Proofs.YtokhckjemidbpaaGreatDoor
open Go Go.RowKit Go.Proofs.YtokhckjemidbpaaGreatDoor.Flow
theorem Wo (w:World)(p:Option Addr)(n c N s:Nat)(h:Bj w p n c N)(hs:s<=1000000)(hN:Ay N<=1000000000)(h2:¬s<Ao N) :
  Calls Tryz.prog 96 #[.slice p n c,.int .i64 s] w fun e w'=>e=.returned (.tuple #[.slice (some ⟨w.heap.size,0,none⟩) s s,.bool true])/\Bi w' w.heap.size 5 .u8 (Bf N s)/\Below w.heap.size w w':=by
 have hl:n=Ay N:=by have:=h.len;rwa [Km]at this
 have hmk:=Sg s (by omega);have hsn:n<=8*s:=by unfold Ao at h2;omega
 have h3:¬(s:Int)<((n:Int)+7)/8:=by omega
 have hw7:IntKind.i64.wrap ((n:Int)+7)=(n:Int)+7:=IntWalk.i64_in _ (by omega);have hw8:IntKind.i64.wrap (((n:Int)+7)/8)=((n:Int)+7)/8:=IntWalk.i64_in _ (by omega);have HL:=Af hl;have hn9:n<=1000000000:=by omega
 clear hl h2;go_enter Tryz.func96,Tryz.ntmps96;go_wp2
 go_loopw [19] (fun i wr=>∃k:Nat,k<=n/\i=.int .i64 k/\w.heap.size<wr.heap.size/\Below w.heap.size w wr/\Bi wr w.heap.size 5 .u8 (Bf (N%2^k) s)) (fun i _=>n-(intOf i).toNat)
 case atStart=>
  refine⟨0,by omega,rfl,by simp,(Bd _ _).alloc (Av _) _,?_⟩;have:=Bi.zeros w 5 .u8 s;rw[Nat.pow_zero,Nat.mod_one,aP];exact this
 case round=>
  obtain⟨k,hk,rfl,hsz,hbw,hblk⟩:=hrel
  by_cases hkn:k<n
  .obtain⟨b,off,rfl,hb,hc⟩:=h.pos (by omega);obtain⟨x,hx⟩:∃x,bit N k=x:=⟨_,rfl⟩
   have hci:wr.cell? ⟨b,off+k,none⟩=some (.bool x):=by
    rw[(Cd hbw).1 _ _ hb];exact hc k x (by rw[Xs (by rw[<-HL.out];exact hkn),hx])
   have HX:=Af hx;clear hc hx;go_wp2
   .have hxt:x=true:=by assumption
    have HB:Hid (N%2^(k+1)=N%2^k+2^k):=Af (by rw[Oc,HX.out,if_pos hxt]);have hMk:N%2^k<2^k:=Nat.mod_lt _ (Nat.pow_pos (by omega));obtain⟨q,hq⟩:∃q,k/8=q:=⟨_,rfl⟩
    obtain⟨r,hr⟩:∃r,k%8=r:=⟨_,rfl⟩
    have hqs:q<s:=by omega
    obtain⟨j,hj⟩:∃j,s-1-q=j:=⟨_,rfl⟩
    obtain⟨z,hz⟩:∃z,2^r=z:=⟨_,rfl⟩
    have hset:=dN (n:=s) hMk (by omega) (j:=j) (by omega);have hget:=dM (M:=N%2^k) hqs hj.symm;have hlt:=(Um (n:=s) hMk (by omega)).1;rw[hq,hr]at hset hlt
    obtain⟨d,hd⟩:∃d,N%2^k/B8 q%256=d:=⟨_,rfl⟩
    rw[hd]at hset hget hlt
    rw[hz]at hset hlt
    have hr8:r<8:=by omega
    have hz8:z<=128:=by rw[<-hz];exact Nat.pow_le_pow_right (show 0<2 by omega) (show r<=7 by omega)
    have t1:IntKind.i64.wrap ((k:Int)/8)=(q:Int):=by rw[IntWalk.i64_in _ (by omega)];omega
    have t2:(k:Int).tmod 8=(r:Int):=by rw[Int.tmod_eq_emod_of_nonneg (by omega)];omega
    have t4:IntKind.i64.wrap ((s:Int)-1)=(s:Int)-1:=IntWalk.i64_in _ (by omega);have t5:IntKind.i64.wrap ((s:Int)-1-q)=(j:Nat):=by
     rw[IntWalk.i64_in _ (by omega)];omega
    have t6:(j:Int)<s:=by omega
    have t7:j<s:=by omega
    have t8:IntKind.u8.wrap ((d:Int)+z)=(d:Int)+z:=IntWalk.u8_in _ (by omega);have t9:IntKind.u8.wrap ((2:Int)^r)=z:=by
     rw[show ((2:Int)^r)=(z:Nat) by rw[<-hz,Int.natCast_pow];rfl];exact IntWalk.u8_in _ (by omega)
    clear hq hr hd hj hMk;have HJ:=Af hz;clear hz;refine Aj (by kernel_rfl) (by kernel_rfl)
     [some (.slice (some ⟨w.heap.size,0,none⟩) s s),some (.int .i64 s),some (.int .i64 ((s:Int)-1)),some (.int .i64 k),some (.int .i64 (q:Nat)),some (.int .i64 (j:Nat)),some (.pointer (some ⟨w.heap.size,j,none⟩)),some (.int .u8 (d:Nat)),
      some (.int .i64 k),some (.int .i64 (r:Nat)),some (.int .u8 (z:Nat)),some (.int .u8 (d+z:Nat)),some (.pointer (some ⟨w.heap.size,j,none⟩)),none]
     [false,false,false,false,false,false,false,false,false,false,false,false,false,true] rfl
     (fun _ _=>True)
     (fun D w'=>Below w.heap.size w w'/\w.heap.size<w'.heap.size/\Bi w' w.heap.size 5 .u8 (if D 13 then Bf (N%2^k+2^k) s else Bf (N%2^k) s))
     (fun _ _ _=>True)
     (fun _ _ _ _ h _=>h) ⟨hbw.trans ((Bd _ _).drew.mono (Av _)),hsz,hblk⟩ ?_ ?_
    .simp only[Bh,Nat.reduceAdd];refine⟨?_,?_,?_,?_,?_,?_,?_,?_,?_,?_,?_,?_,?_,?_,trivial⟩
     case refine_8=>
      intro D sp w' hD hW hdp ⟨hb',hsz',hblk'⟩;have h13:D 13=false:=hW 13 (mq (by kernel_rfl));rw[h13]at hblk'
      simp only[Bool.false_eq_true,if_false]at hblk';have hcl:w'.cell? ⟨w.heap.size,j,none⟩=some (.int .u8 (d:Nat)):=hblk'.cell hget;simp[asked,Region.wanted,Oper.gives,execOp,Act.eval,Act.put,go_sem,hcl]
     case refine_14=>
      intro D sp w' hD hW hdp ⟨hb',hsz',hblk'⟩;rw[hD]at hblk'
      simp only[Bool.false_eq_true,if_false]at hblk';have hcl:w'.cell? ⟨w.heap.size,j,none⟩=some (.int .u8 (d:Nat)):=hblk'.cell hget;have hfr:=hblk'.free j
      (with_reducible refine Aq (w1:=w'.setCell ⟨w.heap.size,j,none⟩ (.int .u8 (d+z:Nat))) ?_ ?_ ?_)
      .simp only[Region.wanted]
      .simp[execOp,Act.eval,Act.put,go_sem,hcl,hfr]
      .refine⟨trivial,trivial,hb'.setCell (Av _) _,by simpa using hsz',?_⟩;simp only[decide_true,Bool.or_true,if_true];rw[<-hset];exact hblk'.set _ _
     all_goals
      intro D sp w' hD hW hdp ⟨hb',hsz',hblk'⟩;simp[asked,Region.wanted,Oper.gives,execOp,Act.eval,Act.put,go_sem,t1,t2,t4,t5,t6,t8,t9]
    .intro sp w' hsp ⟨hb',hsz',hblk'⟩;have hblk2:Bi w' w.heap.size 5 .u8 (Bf (N%2^k+2^k) s):=hblk';clear hblk' hsp t1 t2 t4 t5 t6 t8 t9;simp only[Ak,Nat.reduceAdd]
     go_simp
     go_wp2;go_roundw
     case rel=>exact⟨k+1,by omega,by go_num,hsz',hb',by rw[HB.out];exact hblk2⟩
     case measure=>simp[intOf];omega
   .have hxt:x=false:=by assumption
    have HB:Hid (N%2^(k+1)=N%2^k):=Af (by rw[Oc,HX.out,if_neg (by simp[hxt]),Nat.add_zero]);go_roundw
    case rel=>exact⟨k+1,by omega,by go_num,hsz,hbw,by rw[HB.out];exact hblk⟩
    case measure=>simp[intOf];omega
  .have HK:Hid (k=n):=Af (by omega);go_wp2
   go_ret2
   have e:N%2^k=N:=Nat.mod_eq_of_lt ((Cj N k).1 (by rw[HK.out,HL.out];exact Av _));rw[e]at hblk
   exact⟨rfl,hblk,hbw⟩
theorem Vo {w:World}{g n N:Nat}(h:Bi w g 5 .u8 (Bf N n))(hn:n<=1000):Bu w ⟨some ⟨g,0,none⟩,n,n,Bf N n⟩ :=
 ⟨⟨(Cl N n).symm,Av _,Eo hn (by decide),fun _=>h.row (Cl N n).symm (Av _) (Eo hn (by decide))⟩,(Ga N n).reverse⟩
theorem Pp {w:World}{e N s:Nat}{v:Value}(h:Fit e N v w)(he:e<=30000)(hs:s<=1000)(hl:N<B8 s) :
  Calls Tryz.prog 122 #[v,.int .i64 (s:Nat)] w fun en w'=>∃g,en=.returned (.tuple #[.slice (some ⟨g,0,none⟩) s s,.int .i64 0])/\Bi w' g 5 .u8 (Bf N s)/\w.heap.size<=g/\Below w.heap.size w w':=by
 obtain⟨p,n,c,rfl,h1,h2⟩:=h;have l1:=h1.len_le h2;have l2:=Hf h2;have l3:=Hj.2 hl;refine(Rk w p n c N s h1 (by omega) (by omega) (by omega) (by omega)).mono ?_;rintro en w' ⟨g,rfl,hb,hbel,hn⟩;exact⟨g,rfl,hb,hn,hbel⟩
theorem Own.ofBlk {w:World}{B g n:Nat}{bs:List Nat}(h:Bi w g 5 .u8 bs)(hB:B<=g)(hn:n=bs.length)(hm:n<=1000):Own w B (.slice (some ⟨g,0,none⟩) n n) bs:=by
 subst hn;refine⟨⟨by simp,.inr ⟨g,bs.length,_,rfl,hB,h,Av _,by simp only[maxLen];omega,by simp,?_⟩⟩⟩;rw[List.take_of_length_le (by simp)]
def Hk (p:Option Addr)(c W:Nat):Option Addr:=if c-W=0 then p else p.map (·.add W)
theorem Bb.back {w:World}{p:Option Addr}{n c W:Nat}{bs:List Nat}(h:Bb w .u8 p n c bs)(hW:W<=n):Bb w .u8 (Hk p c W) (n-W) (c-W) (bs.drop W):=by
 have h1:=h.len;have h2:=h.cap;have h3:=h.max;refine⟨by simp;omega,by omega,by omega,fun h0=>?_⟩;obtain⟨b,off,rfl,hb,hc⟩:=(h.row (by omega)).pos (by omega);have e:Hk (some ⟨b,off,none⟩) c W=some ⟨b,off+W,none⟩:=by
  unfold Hk;rw[if_neg (by omega),Option.map_some,add_plain]
 rw[e];refine⟨by simp;omega,by omega,by omega,.inr ⟨b,off+W,rfl,hb,fun i x hx=>?_⟩⟩;rw[List.getElem?_drop]at hx
 rw[Nat.add_assoc];exact hc _ x hx
theorem Te {bs:List Nat}{W:Nat}(h8:Au bs)(hl:bs.length<=W)(hW:W<=16):be bs<Al 4:=by
 have h1:=h8.reverse.lt;rw[List.length_reverse]at h1
 exact Dk h1 (Eo (Fr (Eo hl hW)) (by decide))
theorem aA {N:Nat}(h:Ao N<=16):Ay N<=100000:=by unfold Ao at h;omega
theorem Ut {w:World}{b P Q G H:Nat}(h:Bq w b P Q G H) :
  Calls Tryz.prog 30 #[.pointer (some ⟨b,0,none⟩)] w fun e w'=>∃x,e=.returned x/\eB Q x w'/\Below w.heap.size w w':=by
 refine(Gb h).mono ?_;rintro en w' ⟨r,rfl,hr,hb⟩;exact⟨_,rfl,⟨r,rfl,hr⟩,hb⟩
theorem Ty {w:World}{b P Q G H:Nat}(hg:Bq w b P Q G H) :
  Calls Tryz.prog 15 #[.pointer (some ⟨b,0,none⟩)] w fun e w'=>∃x,e=.returned x/\If P Q G H x w'/\Below w.heap.size w w':=by
 have hbx:Below w.heap.size w (w.alloc (.cells #[.slice none 0 0,.slice none 0 0,.slice none 0 0,.slice none 0 0] 30)):=By;have HBX:=Ac (Cr.made 30 w (.slice none 0 0) (.slice none 0 0) (.slice none 0 0) (.slice none 0 0));obtain⟨wa,hwa⟩:∃wa,w.alloc (.cells #[.slice none 0 0,.slice none 0 0,.slice none 0 0,.slice none 0 0] 30)=wa:=⟨_,rfl⟩
 rw[hwa]at hbx HBX
 have HG:=Ac (hg.below hbx);have HB:=Ac hbx;clear hg hbx;go_enter Tryz.func15,Tryz.ntmps15
 go_wp2_with fail
 refine(gJ HG.out).mono ?_;rintro en w1 ⟨x1,rfl,h1,b1⟩;have H1:=Ac h1;have HG1:=Ac (HG.out.below b1);have HB1:=Ac b1;clear h1 b1
 go_wp2_with fail
 refine(Es H1.out (by decide)).mono ?_;rintro en w2 ⟨_,rfl,⟨p0,n0,c0,rfl,h2⟩,b2⟩;have H2:=Ac h2;have HG2:=Ac (HG1.out.below b2);have HB2:=Ac (Ab HB1.out b2);clear h2 b2
 go_wp2_with fail
 refine(Ut HG2.out).mono ?_;rintro en w3 ⟨x3,rfl,h3,b3⟩;have H23:=Ac (H2.out.below b3);have HG3:=Ac (HG2.out.below b3);have HB3:=Ac (Ab HB2.out b3);obtain⟨r,rfl,hr3⟩:=h3.ex;have H3:Aa (Ring w3 r Q 33):=⟨hr3⟩
 clear h3 hr3 b3
 go_wp2_with fail
 refine(Dj H3.out).mono ?_;rintro en w4 ⟨x4,rfl,h4,b4⟩;have H24:=Ac (H23.out.below b4);have H4:=Ac h4;have HG4:=Ac (HG3.out.below b4);have HB4:=Ac (Ab HB3.out b4);clear h4 b4
 go_wp2_with fail
 refine(Es H4.out (by decide)).mono ?_;rintro en w5 ⟨_,rfl,⟨p1,n1,c1,rfl,h5⟩,b5⟩;have H25:=Ac (H24.out.below b5);have H5:=Ac h5;have HG5:=Ac (HG4.out.below b5);have HB5:=Ac (Ab HB4.out b5);clear h5 b5
 go_wp2_with fail
 refine(gM HG5.out).mono ?_;rintro en w6 ⟨x6,rfl,h6,b6⟩;have H26:=Ac (H25.out.below b6);have H56:=Ac (H5.out.below b6);have H6:=Ac h6;have HG6:=Ac (HG5.out.below b6);have HB6:=Ac (Ab HB5.out b6);clear h6 b6
 go_wp2_with fail
 refine(Es H6.out (by decide)).mono ?_;rintro en w7 ⟨_,rfl,⟨p2,n2,c2,rfl,h7⟩,b7⟩;have H27:=Ac (H26.out.below b7);have H57:=Ac (H56.out.below b7);have H7:=Ac h7;have HG7:=Ac (HG6.out.below b7);have HB7:=Ac (Ab HB6.out b7);clear h7 b7
 go_wp2_with fail
 refine(gL HG7.out).mono ?_;rintro en w8 ⟨x8,rfl,h8,b8⟩;have H28:=Ac (H27.out.below b8);have H58:=Ac (H57.out.below b8);have H78:=Ac (H7.out.below b8);have H8:=Ac h8;have HB8:=Ac (Ab HB7.out b8);clear h8 b8
 go_wp2_with fail
 refine(Es H8.out (by decide)).mono ?_;rintro en w9 ⟨_,rfl,⟨p3,n3,c3,rfl,h9⟩,b9⟩;have H29:=Ac (H28.out.below b9);have H59:=Ac (H58.out.below b9);have H79:=Ac (H78.out.below b9);have H9:=Ac h9;have HB9:=Ac (Ab HB8.out b9);have hbx9:=HBX.out.below HB9.out HBX.out.lt;have g0:=hbx9.cells.1;have g1:=hbx9.cells.2.1;have g2:=hbx9.cells.2.2.1;have g3:=hbx9.cells.2.2.2;have f0:=hbx9.free;clear h9 b9;go_wp2;obtain⟨wf,hwf⟩:∃wf,wf=(((w9.setCell ⟨w.heap.size,0,none⟩ (.slice p0 n0 c0)).setCell ⟨w.heap.size,1,none⟩ (.slice p1 n1 c1)).setCell ⟨w.heap.size,2,none⟩ (.slice p2 n2 c2)).setCell ⟨w.heap.size,3,none⟩ (.slice p3 n3 c3):=⟨_,rfl⟩
 have hkp:Fl w9 wf:=by rw[hwf];exact Zw (x0:=(none,0,0)) (x1:=(none,0,0)) (x2:=(none,0,0)) (x3:=(none,0,0)) hbx9 _ _ _ _
 have hst:=Gn hbx9 hwf;have e0:=hst.1.cells.1;have e1:=hst.1.cells.2.1;have e2:=hst.1.cells.2.2.1;have e3:=hst.1.cells.2.2.2;have hbf:=hst.2.2 w.heap.size w (Ab HB.out HB9.out) (Av _);rw[<-hwf];refine bodyPost_ret (v:=.agg #[.slice p0 n0 c0,.slice p1 n1 c1,.slice p2 n2 c2,.slice p3 n3 c3]) (by simp[results,Tryz.results15,go_sem,e0,e1,e2,e3]) rfl ⟨_,rfl,⟨p0,n0,c0,p1,n1,c1,p2,n2,c2,p3,n3,c3,rfl,Lz.kept H29.out hkp,Lz.kept H59.out hkp,Lz.kept H79.out hkp,Lz.kept H9.out hkp⟩,hbf⟩
theorem Wm {w:World}{N s:Nat}{v:Value}(h:Il N v w)(hs:s<=1000)(hN:N<B8 s) :
  Calls Tryz.prog 96 #[v,.int .i64 (s:Nat)] w fun en w'=>∃g,en=.returned (.tuple #[.slice (some ⟨g,0,none⟩) s s,.bool true])/\Bi w' g 5 .u8 (Bf N s)/\w.heap.size<=g/\Below w.heap.size w w':=by
 obtain⟨p,n,c,rfl,h1⟩:=h;have hb:=Hj.2 hN;have hl:Ay N<=8*s:=by have:=hb;unfold Ao at this;omega
 refine(Wo w p n c N s h1 (by omega) (by omega) (by omega)).mono ?_;rintro en w' ⟨rfl,hv,hbel⟩;exact⟨_,rfl,hv,Av _,hbel⟩
theorem Sp {w:World}{v:Value}{P Q G H:Nat}(h:If P Q G H v w)(hl:Ay Q<=100000) :
  Calls Tryz.prog 87 #[v] w fun e w'=>e=.returned (.int .i64 (Ao Q:Nat))/\Below w.heap.size w w':=by
 obtain⟨p0,n0,c0,p1,n1,c1,p2,n2,c2,p3,n3,c3,rfl,h0,h1,h2,h3⟩:=h.ex;have hbx:Below w.heap.size w (w.alloc (.cells #[.slice p0 n0 c0,.slice p1 n1 c1,.slice p2 n2 c2,.slice p3 n3 c3] 30)):=By;have hbo:=Cr.made 30 w (.slice p0 n0 c0) (.slice p1 n1 c1) (.slice p2 n2 c2) (.slice p3 n3 c3);obtain⟨wa,hwa⟩:∃wa,w.alloc (.cells #[.slice p0 n0 c0,.slice p1 n1 c1,.slice p2 n2 c2,.slice p3 n3 c3] 30)=wa:=⟨_,rfl⟩
 rw[hwa]at hbx hbo
 have HB:=Ac hbx;have HBX:=Ac hbo;have HV:Aa (If P Q G H (.agg #[.slice p0 n0 c0,.slice p1 n1 c1,.slice p2 n2 c2,.slice p3 n3 c3]) wa):=⟨⟨p0,n0,c0,p1,n1,c1,p2,n2,c2,p3,n3,c3,rfl,h0.below hbx,h1.below hbx,h2.below hbx,h3.below hbx⟩⟩
 have hn:=dI h1;have HS:Aa (Ao Q=(n1+7)/8):=⟨by unfold Ao;rw[hn]⟩
 have hn0:n1<=100000:=by omega
 have hdiv:((n1:Int)+7).tdiv 8=(((n1+7)/8:Nat):Int):=by rw[Int.tdiv_eq_ediv_of_nonneg (by omega)];omega
 have c1':=HBX.out.cells.2.1;clear h h0 h1 h2 h3 hn hbx hl hbo;go_enter Tryz.func87,Tryz.ntmps87;go_wp2;go_ret;exact⟨by rw[HS.out];simp,HB.out⟩
theorem Lu {w:World}{v u:Value}{P Q G H N:Nat}(h:If P Q G H v w)(hu:Il N u w)(hl:Ay Q<=100000)(hs:Ao Q<=16)(hN:N<B8 (Ao Q)) :
  Calls Tryz.prog 34 #[v,u] w fun e w'=>∃g,e=.returned (.slice (some ⟨g,0,none⟩) (Ao Q) (Ao Q))/\Bi w' g 5 .u8 (Bf N (Ao Q))/\w.heap.size<=g/\Below w.heap.size w w':=by
 obtain⟨p0,n0,c0,p1,n1,c1,p2,n2,c2,p3,n3,c3,rfl,h0,h1,h2,h3⟩:=h.ex;have hbx:Below w.heap.size w (w.alloc (.cells #[.slice p0 n0 c0,.slice p1 n1 c1,.slice p2 n2 c2,.slice p3 n3 c3] 30)):=By;have hbo:=Cr.made 30 w (.slice p0 n0 c0) (.slice p1 n1 c1) (.slice p2 n2 c2) (.slice p3 n3 c3);obtain⟨wa,hwa⟩:∃wa,w.alloc (.cells #[.slice p0 n0 c0,.slice p1 n1 c1,.slice p2 n2 c2,.slice p3 n3 c3] 30)=wa:=⟨_,rfl⟩
 rw[hwa]at hbx hbo
 have HB:=Ac hbx;have HBX:=Ac hbo;have HV:Aa (If P Q G H (.agg #[.slice p0 n0 c0,.slice p1 n1 c1,.slice p2 n2 c2,.slice p3 n3 c3]) wa):=⟨⟨p0,n0,c0,p1,n1,c1,p2,n2,c2,p3,n3,c3,rfl,h0.below hbx,h1.below hbx,h2.below hbx,h3.below hbx⟩⟩
 obtain⟨q0,m0,d0,rfl,hu0⟩:=hu;have HU:=Ac (Il.of (hu0.below hbx));have HN:=Ac hN;have HSl:=Ac hs;have g0:=HBX.out.cells.1;have g1:=HBX.out.cells.2.1;have g2:=HBX.out.cells.2.2.1;have g3:=HBX.out.cells.2.2.2;have HW:=Ac (Sp HV.out hl);clear h h0 h1 h2 h3 hbx hl hbo hu0 hN hs;go_enter Tryz.func34,Tryz.ntmps34
 go_wp2_with fail
 refine HW.out.mono ?_;rintro en w1 ⟨rfl,hb1⟩;have HU1:=Ac (HU.out.below hb1);have HB1:=Ac (Ab HB.out hb1);clear hb1 g0 g1 g2 g3
 go_wp2_with fail
 refine(Wm HU1.out (by have:=HSl.out;omega) HN.out).mono ?_;rintro en w2 ⟨x,rfl,hx,hg,hb2⟩;have HX:=Ac hx;have HXG:Aa (w.heap.size<=x):=⟨Eo HB1.out.size hg⟩
 have HB2:=Ac (Ab HB1.out hb2);clear hx hb2 hg;go_wp2;go_ret;exact⟨x,rfl,HX.out,HXG.out,HB2.out⟩
end Go.Proofs.YtokhckjemidbpaaGreatDoor
