/- The document's side of signatures: its group, its bytes, its challenge. -/
import Derived.Lib.SmallJoins
import Derived.Deep.LoopGhost
import Derived.Test.YtokhckjemidbpaaGreatDoorGqG
set_option maxRecDepth 1000000
set_option maxHeartbeats 16000000
set_option linter.all false
namespace Go.Proofs.YtokhckjemidbpaaGreatDoor
open Go Go.RowKit Go.Proofs.YtokhckjemidbpaaGreatDoor.Flow
theorem Xo (w:World)(p:Option Addr)(n c N s:Nat)(h:Bk w p n c N)(hs:s<=1000000)(hN:Az N<=1000000000)(h2:¬s<Aq N) :
  Calls Tryz.prog 96 #[.slice p n c,.int .i64 s] w fun e w'=>e=.returned (.tuple #[.slice (some ⟨w.heap.size,0,none⟩) s s,.bool true])/\Bj w' w.heap.size 5 .u8 (Bh N s)/\Below w.heap.size w w':=by
 have hl:n=Az N:=by have:=h.len;rwa [Kw]at this
 have hmk:=Sz s (by omega);have hsn:n<=8*s:=by unfold Aq at h2;omega
 have h3:¬(s:Int)<((n:Int)+7)/8:=by omega
 have hw7:IntKind.i64.wrap ((n:Int)+7)=(n:Int)+7:=IntWalk.i64_in _ (by omega);have hw8:IntKind.i64.wrap (((n:Int)+7)/8)=((n:Int)+7)/8:=IntWalk.i64_in _ (by omega);have HL:=Ag hl;have hn9:n<=1000000000:=by omega
 clear hl h2;go_enter Tryz.func96,Tryz.ntmps96;go_wp2
 go_loopw [19] (fun i wr=>∃k:Nat,k<=n/\i=.int .i64 k/\w.heap.size<wr.heap.size/\Below w.heap.size w wr/\Bj wr w.heap.size 5 .u8 (Bh (N%2^k) s)) (fun i _=>n-(intOf i).toNat)
 case atStart=>
  refine⟨0,by omega,rfl,by simp,(Bf _ _).alloc (Ar _) _,?_⟩;have:=Bj.zeros w 5 .u8 s;rw[Nat.pow_zero,Nat.mod_one,cD];exact this
 case round=>
  obtain⟨k,hk,rfl,hsz,hbw,hblk⟩:=hrel
  by_cases hkn:k<n
  .obtain⟨b,off,rfl,hb,hc⟩:=h.pos (by omega);obtain⟨x,hx⟩:∃x,bit N k=x:=⟨_,rfl⟩
   have hci:wr.cell? ⟨b,off+k,none⟩=some (.bool x):=by
    rw[(Ce hbw).1 _ _ hb];exact hc k x (by rw[Yt (by rw[<-HL.out];exact hkn),hx])
   have HX:=Ag hx;clear hc hx;go_wp2
   .have hxt:x=true:=by assumption
    have HB:Hid (N%2^(k+1)=N%2^k+2^k):=Ag (by rw[Ot,HX.out,if_pos hxt]);have hMk:N%2^k<2^k:=Nat.mod_lt _ (Nat.pow_pos (by omega));obtain⟨q,hq⟩:∃q,k/8=q:=⟨_,rfl⟩
    obtain⟨r,hr⟩:∃r,k%8=r:=⟨_,rfl⟩
    have hqs:q<s:=by omega
    obtain⟨j,hj⟩:∃j,s-1-q=j:=⟨_,rfl⟩
    obtain⟨z,hz⟩:∃z,2^r=z:=⟨_,rfl⟩
    have hset:=fE (n:=s) hMk (by omega) (j:=j) (by omega);have hget:=fD (M:=N%2^k) hqs hj.symm;have hlt:=(Vi (n:=s) hMk (by omega)).1;rw[hq,hr]at hset hlt
    obtain⟨d,hd⟩:∃d,N%2^k/B8 q%256=d:=⟨_,rfl⟩
    rw[hd]at hset hget hlt
    rw[hz]at hset hlt
    have hr8:r<8:=by omega
    have hz8:z<=128:=by rw[<-hz];exact Nat.pow_le_pow_right (show 0<2 by omega) (show r<=7 by omega)
    have t1:IntKind.i64.wrap ((k:Int)/8)=(q:Int):=by rw[IntWalk.i64_in _ (by omega)];omega
    have t2:(k:Int).tmod 8=(r:Int):=by rw[Int.tmod_eq_emod_of_nonneg (by omega)];omega
    have t4:IntKind.i64.wrap ((s:Int)-1)=(s:Int)-1:=IntWalk.i64_in _ (by omega);have t5:IntKind.i64.wrap ((s:Int)-1-q)=(j:Nat):=by
     rw[IntWalk.i64_in _ (by omega)];omega
    have t6:(j:Int)<s:=by omega
    have t7:j<s:=by omega
    have t8:IntKind.u8.wrap ((d:Int)+z)=(d:Int)+z:=IntWalk.u8_in _ (by omega);have t9:IntKind.u8.wrap ((2:Int)^r)=z:=by
     rw[show ((2:Int)^r)=(z:Nat) by rw[<-hz,Int.natCast_pow];rfl];exact IntWalk.u8_in _ (by omega)
    clear hq hr hd hj hMk;have HJ:=Ag hz;clear hz;refine Aj (by kernel_rfl) (by kernel_rfl)
     [some (.slice (some ⟨w.heap.size,0,none⟩) s s),some (.int .i64 s),some (.int .i64 ((s:Int)-1)),some (.int .i64 k),some (.int .i64 (q:Nat)),some (.int .i64 (j:Nat)),some (.pointer (some ⟨w.heap.size,j,none⟩)),some (.int .u8 (d:Nat)),
      some (.int .i64 k),some (.int .i64 (r:Nat)),some (.int .u8 (z:Nat)),some (.int .u8 (d+z:Nat)),some (.pointer (some ⟨w.heap.size,j,none⟩)),none]
     [false,false,false,false,false,false,false,false,false,false,false,false,false,true] rfl
     (fun _ _=>True)
     (fun D w'=>Below w.heap.size w w'/\w.heap.size<w'.heap.size/\Bj w' w.heap.size 5 .u8 (if D 13 then Bh (N%2^k+2^k) s else Bh (N%2^k) s))
     (fun _ _ _=>True)
     (fun _ _ _ _ h _=>h) ⟨hbw.trans ((Bf _ _).drew.mono (Ar _)),hsz,hblk⟩ ?_ ?_
    .simp only[Bi,Nat.reduceAdd];refine⟨?_,?_,?_,?_,?_,?_,?_,?_,?_,?_,?_,?_,?_,?_,trivial⟩
     case refine_8=>
      intro D sp w' hD hW hdp ⟨hb',hsz',hblk'⟩;have h13:D 13=false:=hW 13 (mq (by kernel_rfl));rw[h13]at hblk'
      simp only[Bool.false_eq_true,if_false]at hblk';have hcl:w'.cell? ⟨w.heap.size,j,none⟩=some (.int .u8 (d:Nat)):=hblk'.cell hget;simp[asked,Region.wanted,Oper.gives,execOp,Act.eval,Act.put,go_sem,hcl]
     case refine_14=>
      intro D sp w' hD hW hdp ⟨hb',hsz',hblk'⟩;rw[hD]at hblk'
      simp only[Bool.false_eq_true,if_false]at hblk';have hcl:w'.cell? ⟨w.heap.size,j,none⟩=some (.int .u8 (d:Nat)):=hblk'.cell hget;have hfr:=hblk'.free j
      (with_reducible refine Ap (w1:=w'.setCell ⟨w.heap.size,j,none⟩ (.int .u8 (d+z:Nat))) ?_ ?_ ?_)
      .simp only[Region.wanted]
      .simp[execOp,Act.eval,Act.put,go_sem,hcl,hfr]
      .refine⟨trivial,trivial,hb'.setCell (Ar _) _,by simpa using hsz',?_⟩;simp only[decide_true,Bool.or_true,if_true];rw[<-hset];exact hblk'.set _ _
     all_goals
      intro D sp w' hD hW hdp ⟨hb',hsz',hblk'⟩;simp[asked,Region.wanted,Oper.gives,execOp,Act.eval,Act.put,go_sem,t1,t2,t4,t5,t6,t8,t9]
    .intro sp w' hsp ⟨hb',hsz',hblk'⟩;have hblk2:Bj w' w.heap.size 5 .u8 (Bh (N%2^k+2^k) s):=hblk';clear hblk' hsp t1 t2 t4 t5 t6 t8 t9;simp only[Am,Nat.reduceAdd]
     go_simp
     go_wp2;go_roundw
     case rel=>exact⟨k+1,by omega,by go_num,hsz',hb',by rw[HB.out];exact hblk2⟩
     case measure=>simp[intOf];omega
   .have hxt:x=false:=by assumption
    have HB:Hid (N%2^(k+1)=N%2^k):=Ag (by rw[Ot,HX.out,if_neg (by simp[hxt]),Nat.add_zero]);go_roundw
    case rel=>exact⟨k+1,by omega,by go_num,hsz,hbw,by rw[HB.out];exact hblk⟩
    case measure=>simp[intOf];omega
  .have HK:Hid (k=n):=Ag (by omega);go_wp2
   go_ret2
   have e:N%2^k=N:=Nat.mod_eq_of_lt ((Ck N k).1 (by rw[HK.out,HL.out];exact Ar _));rw[e]at hblk
   exact⟨rfl,hblk,hbw⟩
structure KN (B:Nat) (w w':World):Prop where
 k:Ao B w w'
 blk:∀(g:Nat) (o:Obj),w.heap[g]? = some o->(∀q m d,o≠.cells #[.slice q m d] 37 (0,0))->w'.heap[g]? = some o
theorem KN.of {B:Nat}{w w':World}(h:Below w.heap.size w w')(hB:B<=w.heap.size):KN B w w':=⟨Ao.of h hB,fun g o ho _=>by rw[h.block g (Hu ho).1];exact ho⟩
theorem KN.same (B:Nat)(w:World):KN B w w:=⟨Ao.same _ _,fun _ _ h _=>h⟩
theorem KN.store {B b m d:Nat}{q:Option Addr}{w:World}(hb:Ae w b (.slice q m d))(hB:B<=b)(v:Value):KN B w (w.setCell ⟨b,0,none⟩ v):=⟨Ao.store hb hB v,fun g o ho hn=>by
 have hne:g≠b:=fun e=>by
  subst e;unfold Ae at hb;rw[hb]at ho
  cases ho;exact hn _ _ _ rfl
 simp[World.setCell,Array.getElem?_modify,hne.symm];exact ho⟩
def Rc (Q:Nat)(v:Value)(w:World):Prop:=(∃b P G H,v=.pointer (some ⟨b,0,none⟩)/\Be w b P Q G H) ∨ (v=.pointer none/\Q=0)
theorem Rc.below {Q:Nat}{v:Value}{w w':World}(h:Rc Q v w)(hb:Below w.heap.size w w'):Rc Q v w':=by
 rcases h with ⟨b,P,G,H,h1,h2⟩|h
 .exact .inl ⟨b,P,G,H,h1,h2.below hb⟩
 .exact .inr h
theorem Rc.of {w:World}{b P Q G H:Nat}(h:Be w b P Q G H):Rc Q (.pointer (some ⟨b,0,none⟩)) w:=.inl ⟨b,P,G,H,rfl,h⟩
def RQ (Q:Nat)(v:Value)(w:World):Prop:=(∃r,v=.pointer (some ⟨r,0,none⟩)/\Ring w r Q 33) ∨ (v=.pointer none/\Q=0)
theorem Pj {w:World}{Q:Nat}{g0:Value}(h:Rc Q g0 w) :
  Calls Tryz.prog 30 #[g0] w fun en w'=>∃x,en=.returned x/\RQ Q x w'/\Below w.heap.size w w':=by
 rcases h with ⟨b,P,G,H,rfl,h2⟩|⟨rfl,rfl⟩
 .refine(Fb h2).mono ?_;rintro en w' ⟨r,rfl,hr,hb⟩;exact⟨_,rfl,.inl ⟨r,rfl,hr⟩,hb⟩
 .refine(Yg w).mono ?_;rintro en w' ⟨rfl,hb⟩;exact⟨_,rfl,.inr ⟨rfl,rfl⟩,hb⟩
theorem Up {w:World}{Q:Nat}{r0:Value}(h:RQ Q r0 w) :
  Calls Tryz.prog 57 #[r0] w fun en w'=>∃x,en=.returned x/\Fit 33 Q x w'/\Below w.heap.size w w':=by
 rcases h with ⟨r,rfl,h2⟩|⟨rfl,rfl⟩
 .exact Dm h2
 .refine(Nw w).mono ?_;rintro en w' ⟨rfl,hb⟩;exact⟨_,rfl,Fit.of (Ah.nil _) (by decide),hb⟩
theorem Fm {N M:Nat}:Br N M<0 ↔ N<M:=by
 unfold Br;split
 .simp_all
 .split<;>simp_all<;>omega
theorem jL {N:Nat}(h:N<Al 33):Az N<=1056:=by
 have:=Fk h;omega
theorem Pu {w:World}{Q:Nat}{g0:Value}(h:Rc Q g0 w) :
  Calls Tryz.prog 130 #[g0] w fun en w'=>en=.returned (.int .i64 (Aq Q:Nat))/\Below w.heap.size w w':=by
 have HQ:=Ac h;clear h;go_enter Tryz.func130,Tryz.ntmps130
 go_wp2_with fail
 refine(Pj HQ.out).mono ?_;rintro en w1 ⟨r0,rfl,hr,hb1⟩;have HR:=Ac hr;have HB1:=Ac hb1;clear hr hb1
 go_wp2_with fail
 refine(Up HR.out).mono ?_;rintro en w2 ⟨_,rfl,⟨p,n,c,rfl,h1,h2⟩,hb2⟩;have HN:=Ac h1;have hn:n<1000000:=by have:=h1.len_le h2;omega
 have hl:Az Q<=1056:=jL h2;have HB2:=Ac (Ab HB1.out hb2);have HS:Aa (Aq Q=(Az Q+7)/8):=⟨rfl⟩
 clear h1 h2 hb2
 go_wp2_with fail
 refine(Dp _ p n c Q HN.out hn).mono ?_;rintro en w3 ⟨rfl,hb3⟩;have HB3:=Ac (Ab HB2.out hb3);clear hb3;obtain⟨L,hL⟩:∃L,Az Q=L:=⟨_,rfl⟩
 rw[hL]at hl HS
 simp only[hL];clear hL;go_wp2;go_ret;refine⟨?_,HB3.out⟩;rw[HS.out];exact congrArg (fun z=>Ending.returned (.int .i64 z)) (by omega)
theorem cX {w:World}{Q:Nat}{g0:Value}(h:Rc Q g0 w)(hq:Aq Q<=16) :
  Calls Tryz.prog 77 #[g0] w fun en w'=>en=.returned (.int .i64 (2*Aq Q:Nat))/\Below w.heap.size w w':=by
 have HQ:=Ac h;clear h;go_enter Tryz.func77,Tryz.ntmps77
 go_wp2_with fail
 refine(Pu HQ.out).mono ?_;rintro en w1 ⟨rfl,hb1⟩;have HB1:=Ac hb1;clear hb1;obtain⟨L,hL⟩:∃L,Aq Q=L:=⟨_,rfl⟩
 have HL:=Ac hL;rw[hL]at hq
 simp only[hL];clear hL HQ;go_wp2;go_ret;refine⟨?_,HB1.out⟩;rw[HL.out];show Ending.returned (.int .i64 (2*(L:Int)))=Ending.returned (.int .i64 ((2*L:Nat):Int));rw[Int.natCast_mul];rfl
theorem Zx {w:World}{Q:Nat}{g0:Value}(h:Rc Q g0 w)(hq:Aq Q<=16) :
  Calls Tryz.prog 23 #[g0] w fun en w'=>en=.returned (.int .i64 (2*Aq Q:Nat))/\Below w.heap.size w w':=by
 have HS:=Ac (cX h hq);obtain⟨L,hL⟩:∃L,2*Aq Q=L:=⟨_,rfl⟩
 rw[hL]at HS ⊢
 clear h hL hq;go_enter Tryz.func23,Tryz.ntmps23
 go_wp2_with fail
 refine HS.out.mono ?_;rintro en w1 ⟨rfl,hb1⟩;have HB1:=Ac hb1;clear hb1;go_wp2;go_ret;exact⟨rfl,HB1.out⟩
theorem Wo {w:World}{g n N:Nat}(h:Bj w g 5 .u8 (Bh N n))(hn:n<=1000):Bw w ⟨some ⟨g,0,none⟩,n,n,Bh N n⟩ :=
 ⟨⟨(Cm N n).symm,Ar _,Ep hn (by decide),fun _=>h.row (Cm N n).symm (Ar _) (Ep hn (by decide))⟩,(Gk N n).reverse⟩
theorem Qd {w:World}{e N s:Nat}{v:Value}(h:Fit e N v w)(he:e<=30000)(hs:s<=1000)(hl:N<B8 s) :
  Calls Tryz.prog 122 #[v,.int .i64 (s:Nat)] w fun en w'=>∃g,en=.returned (.tuple #[.slice (some ⟨g,0,none⟩) s s,.int .i64 0])/\Bj w' g 5 .u8 (Bh N s)/\w.heap.size<=g/\Below w.heap.size w w':=by
 obtain⟨p,n,c,rfl,h1,h2⟩:=h;have l1:=h1.len_le h2;have l2:=Fk h2;have l3:=Hp.2 hl;refine(Rz w p n c N s h1 (by omega) (by omega) (by omega) (by omega)).mono ?_;rintro en w' ⟨g,rfl,hb,hbel,hn⟩;exact⟨g,rfl,hb,hn,hbel⟩
theorem jD (i:Nat)(hi:i<3):gP i<Al 3/\gQ i<Al 3/\gG i<Al 3:=by
 have h:=Mb i hi;have h1:gP i<Al 3:=De h.2.2.2.2.2 (by decide);have h2:=Rv i hi;refine⟨h1,?_,by omega⟩;rcases Nat.eq_zero_or_pos (Ld i) with h0|h0
 .rw[h0,Nat.mul_zero]at h2;omega
 .have:=Nat.le_mul_of_pos_right (gQ i) h0;omega
theorem Yi:∀i,i<3->(Dx i).length<=60
 | 0,_=>by decide
 | 1,_=>by decide
 | 2,_=>by decide
 | _+3,h=>by omega
theorem Own.ofBlk {w:World}{B g n:Nat}{bs:List Nat}(h:Bj w g 5 .u8 bs)(hB:B<=g)(hn:n=bs.length)(hm:n<=1000):Own w B (.slice (some ⟨g,0,none⟩) n n) bs:=by
 subst hn;refine⟨⟨by simp,.inr ⟨g,bs.length,_,rfl,hB,h,Ar _,by simp only[maxLen];omega,by simp,?_⟩⟩⟩;rw[List.take_of_length_le (by simp)]
def fK (N M:Nat)(v:Value)(w:World):Prop:=∃(g:Nat) (x y:Option Addr×Nat×Nat),v=.slice (some ⟨g,0,none⟩) 2 2/\w.heap[g]? = some (.cells #[.slice x.1 x.2.1 x.2.2,.slice y.1 y.2.1 y.2.2] 37 (0,0))/\Bq w x N/\Bq w y M/\N<Al 33/\M<Al 33
theorem fK.plist {N M g:Nat}{x y:Option Addr×Nat×Nat}{w:World}(h2:w.heap[g]? = some (.cells #[.slice x.1 x.2.1 x.2.2,.slice y.1 y.2.1 y.2.2] 37 (0,0)))(h3:Bq w x N)(h4:Bq w y M)(h5:N<Al 33)(h6:M<Al 33):Aw w 33 (some ⟨g,0,none⟩) 2 2 [N,M]:=by
 refine⟨rfl,Ar _,by decide,(fun e=>by cases e),fun _=>⟨g,0,rfl,(Hu h2).1,fun i K hK=>?_⟩⟩
 match i,hK with
 | 0,hK=>cases hK;exact⟨x.1,x.2.1,x.2.2,by simp[World.cell?,h2],h3,h5⟩
 | 1,hK=>cases hK;exact⟨y.1,y.2.1,y.2.2,by simp[World.cell?,h2],h4,h6⟩
theorem bJ {N:Nat}(h:Aq N<=16):Az N<=100000:=by unfold Aq at h;omega
theorem Vq {w:World}{b P Q G H:Nat}(h:Be w b P Q G H) :
  Calls Tryz.prog 30 #[.pointer (some ⟨b,0,none⟩)] w fun e w'=>∃x,e=.returned x/\fT Q x w'/\Below w.heap.size w w':=by
 refine(Fb h).mono ?_;rintro en w' ⟨r,rfl,hr,hb⟩;exact⟨_,rfl,⟨r,rfl,hr⟩,hb⟩
theorem Uo {w:World}{b P Q G H:Nat}(hg:Be w b P Q G H) :
  Calls Tryz.prog 15 #[.pointer (some ⟨b,0,none⟩)] w fun e w'=>∃x,e=.returned x/\In P Q G H x w'/\Below w.heap.size w w':=by
 have hbx:Below w.heap.size w (w.alloc (.cells #[.slice none 0 0,.slice none 0 0,.slice none 0 0,.slice none 0 0] 30)):=Bt;have HBX:=Ac (Cs.made 30 w (.slice none 0 0) (.slice none 0 0) (.slice none 0 0) (.slice none 0 0));obtain⟨wa,hwa⟩:∃wa,w.alloc (.cells #[.slice none 0 0,.slice none 0 0,.slice none 0 0,.slice none 0 0] 30)=wa:=⟨_,rfl⟩
 rw[hwa]at hbx HBX
 have HG:=Ac (hg.below hbx);have HB:=Ac hbx;clear hg hbx;go_enter Tryz.func15,Tryz.ntmps15
 go_wp2_with fail
 refine(jF HG.out).mono ?_;rintro en w1 ⟨x1,rfl,h1,b1⟩;have H1:=Ac h1;have HG1:=Ac (HG.out.below b1);have HB1:=Ac b1;clear h1 b1
 go_wp2_with fail
 refine(Ez H1.out (by decide)).mono ?_;rintro en w2 ⟨_,rfl,⟨p0,n0,c0,rfl,h2⟩,b2⟩;have H2:=Ac h2;have HG2:=Ac (HG1.out.below b2);have HB2:=Ac (Ab HB1.out b2);clear h2 b2
 go_wp2_with fail
 refine(Vq HG2.out).mono ?_;rintro en w3 ⟨x3,rfl,h3,b3⟩;have H23:=Ac (H2.out.below b3);have HG3:=Ac (HG2.out.below b3);have HB3:=Ac (Ab HB2.out b3);obtain⟨r,rfl,hr3⟩:=h3.ex;have H3:Aa (Ring w3 r Q 33):=⟨hr3⟩
 clear h3 hr3 b3
 go_wp2_with fail
 refine(Dm H3.out).mono ?_;rintro en w4 ⟨x4,rfl,h4,b4⟩;have H24:=Ac (H23.out.below b4);have H4:=Ac h4;have HG4:=Ac (HG3.out.below b4);have HB4:=Ac (Ab HB3.out b4);clear h4 b4
 go_wp2_with fail
 refine(Ez H4.out (by decide)).mono ?_;rintro en w5 ⟨_,rfl,⟨p1,n1,c1,rfl,h5⟩,b5⟩;have H25:=Ac (H24.out.below b5);have H5:=Ac h5;have HG5:=Ac (HG4.out.below b5);have HB5:=Ac (Ab HB4.out b5);clear h5 b5
 go_wp2_with fail
 refine(eI HG5.out).mono ?_;rintro en w6 ⟨x6,rfl,h6,b6⟩;have H26:=Ac (H25.out.below b6);have H56:=Ac (H5.out.below b6);have H6:=Ac h6;have HG6:=Ac (HG5.out.below b6);have HB6:=Ac (Ab HB5.out b6);clear h6 b6
 go_wp2_with fail
 refine(Ez H6.out (by decide)).mono ?_;rintro en w7 ⟨_,rfl,⟨p2,n2,c2,rfl,h7⟩,b7⟩;have H27:=Ac (H26.out.below b7);have H57:=Ac (H56.out.below b7);have H7:=Ac h7;have HG7:=Ac (HG6.out.below b7);have HB7:=Ac (Ab HB6.out b7);clear h7 b7
 go_wp2_with fail
 refine(eH HG7.out).mono ?_;rintro en w8 ⟨x8,rfl,h8,b8⟩;have H28:=Ac (H27.out.below b8);have H58:=Ac (H57.out.below b8);have H78:=Ac (H7.out.below b8);have H8:=Ac h8;have HB8:=Ac (Ab HB7.out b8);clear h8 b8
 go_wp2_with fail
 refine(Ez H8.out (by decide)).mono ?_;rintro en w9 ⟨_,rfl,⟨p3,n3,c3,rfl,h9⟩,b9⟩;have H29:=Ac (H28.out.below b9);have H59:=Ac (H58.out.below b9);have H79:=Ac (H78.out.below b9);have H9:=Ac h9;have HB9:=Ac (Ab HB8.out b9);have hbx9:=HBX.out.below HB9.out HBX.out.lt;have g0:=hbx9.cells.1;have g1:=hbx9.cells.2.1;have g2:=hbx9.cells.2.2.1;have g3:=hbx9.cells.2.2.2;have f0:=hbx9.free;clear h9 b9;go_wp2;obtain⟨wf,hwf⟩:∃wf,wf=(((w9.setCell ⟨w.heap.size,0,none⟩ (.slice p0 n0 c0)).setCell ⟨w.heap.size,1,none⟩ (.slice p1 n1 c1)).setCell ⟨w.heap.size,2,none⟩ (.slice p2 n2 c2)).setCell ⟨w.heap.size,3,none⟩ (.slice p3 n3 c3):=⟨_,rfl⟩
 have hkp:Ft w9 wf:=by rw[hwf];exact bF (x0:=(none,0,0)) (x1:=(none,0,0)) (x2:=(none,0,0)) (x3:=(none,0,0)) hbx9 _ _ _ _
 have hst:=Gw hbx9 hwf;have e0:=hst.1.cells.1;have e1:=hst.1.cells.2.1;have e2:=hst.1.cells.2.2.1;have e3:=hst.1.cells.2.2.2;have hbf:=hst.2.2 w.heap.size w (Ab HB.out HB9.out) (Ar _);rw[<-hwf];refine bodyPost_ret (v:=.agg #[.slice p0 n0 c0,.slice p1 n1 c1,.slice p2 n2 c2,.slice p3 n3 c3]) (by simp[results,Tryz.results15,go_sem,e0,e1,e2,e3]) rfl ⟨_,rfl,⟨p0,n0,c0,p1,n1,c1,p2,n2,c2,p3,n3,c3,rfl,Mk.kept H29.out hkp,Mk.kept H59.out hkp,Mk.kept H79.out hkp,Mk.kept H9.out hkp⟩,hbf⟩
theorem Xn {w:World}{N s:Nat}{v:Value}(h:Is N v w)(hs:s<=1000)(hN:N<B8 s) :
  Calls Tryz.prog 96 #[v,.int .i64 (s:Nat)] w fun en w'=>∃g,en=.returned (.tuple #[.slice (some ⟨g,0,none⟩) s s,.bool true])/\Bj w' g 5 .u8 (Bh N s)/\w.heap.size<=g/\Below w.heap.size w w':=by
 obtain⟨p,n,c,rfl,h1⟩:=h;have hb:=Hp.2 hN;have hl:Az N<=8*s:=by have:=hb;unfold Aq at this;omega
 refine(Xo w p n c N s h1 (by omega) (by omega) (by omega)).mono ?_;rintro en w' ⟨rfl,hv,hbel⟩;exact⟨_,rfl,hv,Ar _,hbel⟩
theorem Th {w:World}{v:Value}{P Q G H:Nat}(h:In P Q G H v w)(hl:Az Q<=100000) :
  Calls Tryz.prog 87 #[v] w fun e w'=>e=.returned (.int .i64 (Aq Q:Nat))/\Below w.heap.size w w':=by
 obtain⟨p0,n0,c0,p1,n1,c1,p2,n2,c2,p3,n3,c3,rfl,h0,h1,h2,h3⟩:=h.ex;have hbx:Below w.heap.size w (w.alloc (.cells #[.slice p0 n0 c0,.slice p1 n1 c1,.slice p2 n2 c2,.slice p3 n3 c3] 30)):=Bt;have hbo:=Cs.made 30 w (.slice p0 n0 c0) (.slice p1 n1 c1) (.slice p2 n2 c2) (.slice p3 n3 c3);obtain⟨wa,hwa⟩:∃wa,w.alloc (.cells #[.slice p0 n0 c0,.slice p1 n1 c1,.slice p2 n2 c2,.slice p3 n3 c3] 30)=wa:=⟨_,rfl⟩
 rw[hwa]at hbx hbo
 have HB:=Ac hbx;have HBX:=Ac hbo;have HV:Aa (In P Q G H (.agg #[.slice p0 n0 c0,.slice p1 n1 c1,.slice p2 n2 c2,.slice p3 n3 c3]) wa):=⟨⟨p0,n0,c0,p1,n1,c1,p2,n2,c2,p3,n3,c3,rfl,h0.below hbx,h1.below hbx,h2.below hbx,h3.below hbx⟩⟩
 have hn:=eZ h1;have HS:Aa (Aq Q=(n1+7)/8):=⟨by unfold Aq;rw[hn]⟩
 have hn0:n1<=100000:=by omega
 have hdiv:((n1:Int)+7).tdiv 8=(((n1+7)/8:Nat):Int):=by rw[Int.tdiv_eq_ediv_of_nonneg (by omega)];omega
 have c1':=HBX.out.cells.2.1;clear h h0 h1 h2 h3 hn hbx hl hbo;go_enter Tryz.func87,Tryz.ntmps87;go_wp2;go_ret;exact⟨by rw[HS.out];simp,HB.out⟩
theorem Me {w:World}{v u:Value}{P Q G H N:Nat}(h:In P Q G H v w)(hu:Is N u w)(hl:Az Q<=100000)(hs:Aq Q<=16)(hN:N<B8 (Aq Q)) :
  Calls Tryz.prog 34 #[v,u] w fun e w'=>∃g,e=.returned (.slice (some ⟨g,0,none⟩) (Aq Q) (Aq Q))/\Bj w' g 5 .u8 (Bh N (Aq Q))/\w.heap.size<=g/\Below w.heap.size w w':=by
 obtain⟨p0,n0,c0,p1,n1,c1,p2,n2,c2,p3,n3,c3,rfl,h0,h1,h2,h3⟩:=h.ex;have hbx:Below w.heap.size w (w.alloc (.cells #[.slice p0 n0 c0,.slice p1 n1 c1,.slice p2 n2 c2,.slice p3 n3 c3] 30)):=Bt;have hbo:=Cs.made 30 w (.slice p0 n0 c0) (.slice p1 n1 c1) (.slice p2 n2 c2) (.slice p3 n3 c3);obtain⟨wa,hwa⟩:∃wa,w.alloc (.cells #[.slice p0 n0 c0,.slice p1 n1 c1,.slice p2 n2 c2,.slice p3 n3 c3] 30)=wa:=⟨_,rfl⟩
 rw[hwa]at hbx hbo
 have HB:=Ac hbx;have HBX:=Ac hbo;have HV:Aa (In P Q G H (.agg #[.slice p0 n0 c0,.slice p1 n1 c1,.slice p2 n2 c2,.slice p3 n3 c3]) wa):=⟨⟨p0,n0,c0,p1,n1,c1,p2,n2,c2,p3,n3,c3,rfl,h0.below hbx,h1.below hbx,h2.below hbx,h3.below hbx⟩⟩
 obtain⟨q0,m0,d0,rfl,hu0⟩:=hu;have HU:=Ac (Is.of (hu0.below hbx));have HN:=Ac hN;have HSl:=Ac hs;have g0:=HBX.out.cells.1;have g1:=HBX.out.cells.2.1;have g2:=HBX.out.cells.2.2.1;have g3:=HBX.out.cells.2.2.2;have HW:=Ac (Th HV.out hl);clear h h0 h1 h2 h3 hbx hl hbo hu0 hN hs;go_enter Tryz.func34,Tryz.ntmps34
 go_wp2_with fail
 refine HW.out.mono ?_;rintro en w1 ⟨rfl,hb1⟩;have HU1:=Ac (HU.out.below hb1);have HB1:=Ac (Ab HB.out hb1);clear hb1 g0 g1 g2 g3
 go_wp2_with fail
 refine(Xn HU1.out (by have:=HSl.out;omega) HN.out).mono ?_;rintro en w2 ⟨x,rfl,hx,hg,hb2⟩;have HX:=Ac hx;have HXG:Aa (w.heap.size<=x):=⟨Ep HB1.out.size hg⟩
 have HB2:=Ac (Ab HB1.out hb2);clear hx hb2 hg;go_wp2;go_ret;exact⟨x,rfl,HX.out,HXG.out,HB2.out⟩
end Go.Proofs.YtokhckjemidbpaaGreatDoor
