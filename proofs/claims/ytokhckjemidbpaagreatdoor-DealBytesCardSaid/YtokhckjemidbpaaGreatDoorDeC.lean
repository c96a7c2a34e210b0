/- A share's bytes, and the share of bytes (deal.Bytes, deal.Of). -/
import Derived.Test.YtokhckjemidbpaaGreatDoorDeB
import Derived.Lib.AppendZeros
import Derived.Lib.Walk
import Derived.BigRegion
import Derived.Laws.Rows
import Derived.Laws.OwnMore
set_option maxRecDepth 1000000
set_option maxHeartbeats 16000000
set_option linter.all false
namespace Go.Proofs.YtokhckjemidbpaaGreatDoor
open Go Go.RowKit Go.Proofs.YtokhckjemidbpaaGreatDoor.Flow
theorem Kd {bs:List Nat}(h:Au bs):Bf (be bs) bs.length=bs:=by
 unfold Bf be;have:=Sj bs.reverse h.reverse;rw[List.length_reverse]at this
 rw[this,List.reverse_reverse]
def aX (bs:List Nat)(w:World)(e:Ending)(w':World):Prop:=∃v,e=.returned (.tuple #[v,.int .i64 0])/\Db w.heap.size bs v w'/\Below w.heap.size w w'
theorem Hw {w:World}{Q S R L:Nat}{x y:P3}{g0:Value}(hq:Qp Q g0 w)(hg0:g0≠.pointer none)(hL:Ao Q=L)(hs:L<=16)(hx:Br w x S)(hy:Br w y R)(lS:S<Q)(lR:R<Q)(lQ:Q<Al 33) :
  Calls Tryz.prog 58 #[g0,.agg #[.slice x.1 x.2.1 x.2.2,.slice y.1 y.2.1 y.2.2]] w (aX (Bf S L++Bf R L) w):=by
 obtain⟨b,rfl⟩:∃b,g0=.pointer (some ⟨b,0,none⟩):=by
  rcases hq with ⟨b,P,G,H,e,_⟩|⟨e,_⟩
  .exact⟨b,e⟩
  .exact absurd e hg0
 have hx2:=Bo.made 75 w (.slice x.1 x.2.1 x.2.2) (.slice y.1 y.2.1 y.2.2);have hb0:Below w.heap.size w (w.alloc (.cells #[.slice x.1 x.2.1 x.2.2,.slice y.1 y.2.1 y.2.2] 75)):=By;obtain⟨wa,hwa⟩:∃zz,w.alloc (.cells #[.slice x.1 x.2.1 x.2.2,.slice y.1 y.2.1 y.2.2] 75)=zz:=⟨_,rfl⟩
 rw[hwa]at hx2 hb0
 have HX:=Ac hx2;have HB:=Ac hb0;have HQ:=Ac (hq.below hb0);have HS:=Ac ((Fit.of (e:=33) hx (Nat.lt_trans lS lQ)).below hb0);have HR:=Ac ((Fit.of (e:=33) hy (Nat.lt_trans lR lQ)).below hb0);have hlq:=Jm Q;rw[hL]at hlq
 have HSl:Aa (S<B8 L/\S<Al 33):=⟨by omega,Nat.lt_trans lS lQ⟩
 have HRl:Aa (R<B8 L/\R<Al 33):=⟨by omega,Nat.lt_trans lR lQ⟩
 have HLQ:Aa (S<Q/\R<Q):=⟨lS,lR⟩
 have HL:=Ac hL;clear hx2 hb0 hq hg0 hx hy lS lR lQ hlq hL;obtain⟨d0,d1⟩:=HX.out.cells;go_enter Tryz.func58,Tryz.ntmps58
 go_wp2_with fail
 refine(Gm (B:=true) HQ.out (Fp HS.out) HSl.out.2 (Fp HR.out) HRl.out.2 (by decide) (by decide) (by rw[decide_eq_true HLQ.out.1,decide_eq_true HLQ.out.2];rfl)).mono ?_;rintro en w1 ⟨rfl,b1⟩;replace HX:Aa _:=⟨HX.out.later b1⟩
 replace HQ:Aa _:=⟨HQ.out.below b1⟩
 replace HS:Aa _:=⟨HS.out.below b1⟩
 replace HR:Aa _:=⟨HR.out.below b1⟩
 replace HB:Aa _:=⟨Ab HB.out b1⟩
 clear b1 d0 d1 hwa
 go_wp2_with fail
 refine(Gl HQ.out (by rw[HL.out];exact hs)).mono ?_;rintro en w2 ⟨rfl,b2⟩;rw[HL.out];replace HX:Aa _:=⟨HX.out.later b2⟩
 replace HS:Aa _:=⟨HS.out.below b2⟩
 replace HR:Aa _:=⟨HR.out.below b2⟩
 replace HB:Aa _:=⟨Ab HB.out b2⟩
 clear b2 HQ;obtain⟨d0,d1⟩:=HX.out.cells
 go_wp2_with fail
 refine(Pp HS.out (by decide) (by omega) HSl.out.1).mono ?_;rintro en w3 ⟨gc,rfl,hk3,hg3,b3⟩;have HKC:=Ac hk3;have HGC:Aa (w.heap.size<=gc):=⟨Eo HB.out.size hg3⟩
 replace HX:Aa _:=⟨HX.out.later b3⟩
 replace HR:Aa _:=⟨HR.out.below b3⟩
 replace HB:Aa _:=⟨Ab HB.out b3⟩
 clear b3 hk3 hg3 d0 d1 HS;obtain⟨d0,d1⟩:=HX.out.cells
 go_wp2_with fail
 refine(Pp HR.out (by decide) (by omega) HRl.out.1).mono ?_;rintro en w4 ⟨gs,rfl,hk4,hg4,b4⟩;have HO:=Ac (Own.ofBlk (HKC.out.below b4 HKC.out.lt) HGC.out (Cl S L).symm (by omega));have HRW:Aa (Bb w4 .u8 (some ⟨gs,0,none⟩) L L (Bf R L)):=⟨(Vo hk4 (by omega)).row⟩
 replace HB:Aa _:=⟨Ab HB.out b4⟩
 clear b4 hk4 hg4 d0 d1 HR HX HKC;have hmx:(Bf S L).length+L<=140737488355328:=by rw[Cl];omega
 have HMX:=Ac hmx;clear hmx
 go_wp2_with (at_builtin;refine Ok rfl _ _ rfl rfl HO.out rfl HRW.out (fun h=>by cases h) HMX.out HB.out.size ?_;intro v1 w5 ho1 hg1;refine Pv.out ?_)
 refine⟨?_⟩;have HOW:=Ac (Db.mk ho1);have HBf:Aa (Below w.heap.size w w5):=⟨HB.out.trans (grown_below hg1 HB.out.size HO.out.ge)⟩
 clear ho1 hg1 HO HRW;go_wp2;exact bodyPost_ret (v:=.tuple #[v1,.int .i64 0]) (by simp[results,Tryz.results58,go_sem]) rfl ⟨v1,rfl,HOW.out,HBf.out⟩
theorem Qj {w:World}{Q es er S R:Nat}{x y:P3}{b:Nat}(hq:Qp Q (.pointer (some ⟨b,0,none⟩)) w)(hx:Br w x S)(lx:S<Al es)(hy:Br w y R)(ly:R<Al er)(hes:es<=200)(her:er<=200)(hlt:¬(S<Q/\R<Q)) :
  Calls Tryz.prog 58 #[.pointer (some ⟨b,0,none⟩),.agg #[.slice x.1 x.2.1 x.2.2,.slice y.1 y.2.1 y.2.2]] w fun en w'=>en=.returned (.tuple #[.slice none 0 0,.int .i64 2])/\Below w.heap.size w w':=by
 have hx2:=Bo.made 75 w (.slice x.1 x.2.1 x.2.2) (.slice y.1 y.2.1 y.2.2);have hb0:Below w.heap.size w (w.alloc (.cells #[.slice x.1 x.2.1 x.2.2,.slice y.1 y.2.1 y.2.2] 75)):=By;obtain⟨wa,hwa⟩:∃zz,w.alloc (.cells #[.slice x.1 x.2.1 x.2.2,.slice y.1 y.2.1 y.2.2] 75)=zz:=⟨_,rfl⟩
 rw[hwa]at hx2 hb0
 have HX:=Ac hx2;have HB:=Ac hb0;have HIF:Aa _:=⟨Gm (B:=false) (hq.below hb0) (hx.below hb0) lx (hy.below hb0) ly hes her (by
  by_cases h1:S<Q
  .rw[decide_eq_false (fun h2=>hlt ⟨h1,h2⟩),Bool.and_false]
  .rw[decide_eq_false h1,Bool.false_and])⟩
 obtain⟨d0,d1⟩:=HX.out.cells;clear hx2 hb0 hq hx hy lx ly hlt;go_enter Tryz.func58,Tryz.ntmps58
 go_wp2_with fail
 refine(HIF.out).mono ?_;rintro en w1 ⟨rfl,b1⟩;replace HB:Aa _:=⟨Ab HB.out b1⟩
 clear b1 d0 d1 hwa HIF;go_wp2;exact bodyPost_ret (v:=.tuple #[.slice none 0 0,.int .i64 2]) (by simp[results,Tryz.results58,go_sem]) rfl ⟨rfl,HB.out⟩
theorem Ed {w:World}{x y:P3}:Calls Tryz.prog 58 #[.pointer none,.agg #[.slice x.1 x.2.1 x.2.2,.slice y.1 y.2.1 y.2.2]] w fun en w'=>en=.returned (.tuple #[.slice none 0 0,.int .i64 1])/\Below w.heap.size w w':=by
 have hx2:=Bo.made 75 w (.slice x.1 x.2.1 x.2.2) (.slice y.1 y.2.1 y.2.2);have hb0:Below w.heap.size w (w.alloc (.cells #[.slice x.1 x.2.1 x.2.2,.slice y.1 y.2.1 y.2.2] 75)):=By;obtain⟨wa,hwa⟩:∃zz,w.alloc (.cells #[.slice x.1 x.2.1 x.2.2,.slice y.1 y.2.1 y.2.2] 75)=zz:=⟨_,rfl⟩
 rw[hwa]at hx2 hb0
 have HX:=Ac hx2;have HB:=Ac hb0;clear hx2 hb0 HX;go_enter Tryz.func58,Tryz.ntmps58;go_wp2;exact bodyPost_ret (v:=.tuple #[.slice none 0 0,.int .i64 1]) (by simp[results,Tryz.results58,go_sem]) rfl ⟨rfl,HB.out⟩
theorem Yk {w:World}{b P Q GG HH n c L S R:Nat}{p:Option Addr}{bs:List Nat}(hg:Bq w b P Q GG HH)(hL:Ao Q=L)(hs:L<=16)(hs1:1<=L)(hr:Bu w ⟨p,n,c,bs⟩)(hn:n=2*L)(hS:be (bs.take L)=S)(hR:be (bs.drop L)=R)(hlt:(S<Q/\R<Q)) :
  Calls Tryz.prog 59 #[.pointer (some ⟨b,0,none⟩),.slice p n c] w (Tg S R w):=by
 have hx2:=Bo.made 75 w (.slice none 0 0) (.slice none 0 0);have hb0:Below w.heap.size w (w.alloc (.cells #[.slice none 0 0,.slice none 0 0] 75)):=By;obtain⟨wa,hwa⟩:∃zz,w.alloc (.cells #[.slice none 0 0,.slice none 0 0] 75)=zz:=⟨_,rfl⟩
 rw[hwa]at hx2 hb0
 have HX:=Ac hx2;have HB:=Ac hb0;have HQ:=Ac (Qp.of (hg.below hb0));have HL:=Ac hL;have hlen:n=bs.length:=hr.row.len;have hcap:n<=c:=hr.row.cap;have hmax:c<=9223372036854775807:=hr.row.max;obtain⟨bb,off,e,-,-⟩:=(hr.row.row (show 0<n by omega)).pos (show 0<n by omega);replace e:p=some ⟨bb,off,none⟩:=e;subst e;have hbk:Hk (some ⟨bb,off,none⟩) c L=some ⟨bb,off+L,none⟩:=by
  unfold Hk;rw[if_neg (by omega),Option.map_some,add_plain]
 have hnL:n-L=L:=by omega
 obtain⟨c2,hc2⟩:∃z,c-L=z:=⟨_,rfl⟩
 have HR1:Aa (Bb wa .u8 (some ⟨bb,off,none⟩) L c (bs.take L)):=⟨((hr.row).take L (show L<=n by omega)).below hb0⟩
 have HR2:Aa (Bb wa .u8 (some ⟨bb,off+L,none⟩) L c2 (bs.drop L)):=⟨by
  have h:=(hr.row.back (W:=L) (by show L<=n;omega)).below hb0
  dsimp only at h
  rw[hbk,hnL,hc2]at h
  exact h⟩
 have HB1:Aa (Au (bs.take L)/\Au (bs.drop L)):=⟨hr.bytes.take L,fun x hx=>hr.bytes x (List.mem_of_mem_drop hx)⟩
 have HSl:Aa (S<Al 4/\R<Al 4):=⟨by rw[<-hS];exact Te HB1.out.1 (by rw[List.length_take];omega) hs,by rw[<-hR];exact Te HB1.out.2 (by rw[List.length_drop];omega) hs⟩
 have HS:=Ac hS;have HR:=Ac hR;have HLT:=Ac hlt;have r2:2*(L:Int)=n:=by omega
 have hnn:n<=32:=by omega
 have hLc:¬c=L:=by omega
 have hLn:L<=n:=by omega
 clear hx2 hb0 hg hL hr hlen hS hR hlt hn hbk;go_enter Tryz.func59,Tryz.ntmps59
 go_wp2_with fail
 refine(Gl HQ.out (by rw[HL.out];exact hs)).mono ?_;rintro en w1 ⟨rfl,b1⟩;rw[HL.out];replace HX:Aa _:=⟨HX.out.later b1⟩
 replace HQ:Aa _:=⟨HQ.out.below b1⟩
 replace HR1:Aa _:=⟨HR1.out.below b1⟩
 replace HR2:Aa _:=⟨HR2.out.below b1⟩
 replace HB:Aa _:=⟨Ab HB.out b1⟩
 clear b1 hwa
 go_wp2_with fail
 refine(Cq w1 _ L c (bs.take L) HR1.out HB1.out.1 (by omega)).mono ?_;rintro en w2 ⟨px,nx,cx,rfl,hqx,b2,-⟩;rw[HS.out]at hqx
 have HNX:Aa (Br w2 (px,nx,cx) S):=⟨hqx⟩
 replace HX:Aa _:=⟨HX.out.later b2⟩
 replace HQ:Aa _:=⟨HQ.out.below b2⟩
 replace HR2:Aa _:=⟨HR2.out.below b2⟩
 replace HB:Aa _:=⟨Ab HB.out b2⟩
 clear b2 hqx r2 HR1;have hb3:Below w2.heap.size w2 (w2.alloc (.cells #[.slice px nx cx] 37)):=By;have hx3:=Ae.made w2 (.slice px nx cx);obtain⟨bx,hbx⟩:∃zz,w2.heap.size=zz:=⟨_,rfl⟩
 obtain⟨w3,hw3⟩:∃zz,w2.alloc (.cells #[.slice px nx cx] 37)=zz:=⟨_,rfl⟩
 rw[hw3]at hb3 hx3
 rw[hbx]at hx3
 have HXX:=Ac hx3;replace HX:Aa _:=⟨HX.out.later hb3⟩
 replace HQ:Aa _:=⟨HQ.out.below hb3⟩
 replace HR2:Aa _:=⟨HR2.out.below hb3⟩
 replace HB:Aa _:=⟨Ab HB.out hb3⟩
 replace HNX:Aa (Br w3 (px,nx,cx) S):=⟨HNX.out.below hb3⟩
 clear hb3 hx3
 go_wp2_with fail
 clear hw3 hbx;refine(Cq w3 _ L c2 (bs.drop L) HR2.out HB1.out.2 (by omega)).mono ?_;rintro en w4 ⟨py,ny,cy,rfl,hqy,b4,-⟩;rw[HR.out]at hqy
 have hb5:Below w4.heap.size w4 (w4.alloc (.cells #[.slice py ny cy] 37)):=By;have hx5:=Ae.made w4 (.slice py ny cy);obtain⟨bY,hbY⟩:∃zz,w4.heap.size=zz:=⟨_,rfl⟩
 obtain⟨w5,hw5⟩:∃zz,w4.alloc (.cells #[.slice py ny cy] 37)=zz:=⟨_,rfl⟩
 rw[hw5]at hb5 hx5
 rw[hbY]at hx5
 have hb45:=Ab b4 hb5;have HXY:=Ac hx5;have HNY:Aa (Br w5 (py,ny,cy) R):=⟨hqy.below hb5⟩
 replace HX:Aa _:=⟨HX.out.later hb45⟩
 replace HQ:Aa _:=⟨HQ.out.below hb45⟩
 replace HXX:Aa _:=⟨HXX.out.below hb45 HXX.out.lt⟩
 replace HB:Aa _:=⟨Ab HB.out hb45⟩
 replace HNX:Aa (Br w5 (px,nx,cx) S):=⟨HNX.out.below hb45⟩
 clear b4 hb5 hx5 hb45 hqy HR2 hnL hc2 hLc;have cx3:=HXX.out.cell;have cy3:=HXY.out.cell;have b6:Below w5.heap.size w5 (w5.alloc (.cells #[.slice px nx cx,.slice py ny cy] 75)):=By;have hbx:Bo 75 (w5.alloc (.cells #[.slice px nx cx,.slice py ny cy] 75)) w5.heap.size (.slice px nx cx) (.slice py ny cy):=Bo.made _ _ _ _;obtain⟨bs6,hbs6⟩:∃zz,w5.heap.size=zz:=⟨_,rfl⟩
 obtain⟨w6,hw6⟩:∃zz,w5.alloc (.cells #[.slice px nx cx,.slice py ny cy] 75)=zz:=⟨_,rfl⟩
 rw[hw6]at b6 hbx
 rw[hbs6]at hbx
 have HXS:=Ac hbx;clear hbx;replace HX:Aa _:=⟨HX.out.later b6⟩
 replace HQ:Aa _:=⟨HQ.out.below b6⟩
 replace HB:Aa _:=⟨Ab HB.out b6⟩
 replace HNX:Aa (Br w6 (px,nx,cx) S):=⟨HNX.out.below b6⟩
 replace HNY:Aa (Br w6 (py,ny,cy) R):=⟨HNY.out.below b6⟩
 obtain⟨d0,d1⟩:=HXS.out.cells;clear b6
 go_wp2_with fail
 refine(Gm (B:=true) (x:=(px,nx,cx)) (y:=(py,ny,cy)) HQ.out HNX.out HSl.out.1 HNY.out HSl.out.2 (by decide) (by decide) (by rw[decide_eq_true HLT.out.1,decide_eq_true HLT.out.2];rfl)).mono ?_;rintro en ww ⟨rfl,b7⟩;replace HNX:Aa (Br ww (px,nx,cx) S):=⟨HNX.out.below b7⟩
 replace HNY:Aa (Br ww (py,ny,cy) R):=⟨HNY.out.below b7⟩
 replace HX:Aa _:=⟨HX.out.later b7⟩
 replace HXS:Aa _:=⟨HXS.out.later b7⟩
 replace HB:Aa _:=⟨Ab HB.out b7⟩
 clear b7 d0 d1 cx3 cy3 HQ hw6 hbs6 hw5 hbY HXX HXY;obtain⟨k0,k5⟩:=HX.out.cells;have f0:=HX.out.free 0;have f1:=HX.out.free 1;obtain⟨d0,d1⟩:=HXS.out.cells;have hz2:=HX.out.set (.slice px nx cx) (.slice py ny cy);obtain⟨z0,z1⟩:=hz2.cells;have HN1:Aa (Br ((ww.setCell ⟨w.heap.size,0,none⟩ (.slice px nx cx)).setCell ⟨w.heap.size,1,none⟩ (.slice py ny cy)) (px,nx,cx) S):=⟨Lt (q:=(px,nx,cx)) (x:=(none,0,0)) (y:=(none,0,0)) HNX.out HX.out.at_⟩
 have HN2:Aa (Br ((ww.setCell ⟨w.heap.size,0,none⟩ (.slice px nx cx)).setCell ⟨w.heap.size,1,none⟩ (.slice py ny cy)) (py,ny,cy) R):=⟨Lt (q:=(py,ny,cy)) (x:=(none,0,0)) (y:=(none,0,0)) HNY.out HX.out.at_⟩
 have HBF:Aa (Below w.heap.size w ((ww.setCell ⟨w.heap.size,0,none⟩ (.slice px nx cx)).setCell ⟨w.heap.size,1,none⟩ (.slice py ny cy))):=⟨(HB.out.setCell (Av _) _).setCell (Av _) _⟩
 clear hz2;go_wp2;exact bodyPost_ret (v:=.tuple #[.agg #[.slice px nx cx,.slice py ny cy],.int .i64 0]) (by simp[results,Tryz.results59,go_sem,z0,z1]) rfl ⟨(px,nx,cx),(py,ny,cy),rfl,HN1.out,HN2.out,HBF.out⟩
theorem Xn {w:World}{b P Q GG HH n c L S R:Nat}{p:Option Addr}{bs:List Nat}(hg:Bq w b P Q GG HH)(hL:Ao Q=L)(hs:L<=16)(hs1:1<=L)(hr:Bu w ⟨p,n,c,bs⟩)(hn:n=2*L)(hS:be (bs.take L)=S)(hR:be (bs.drop L)=R)(hlt:¬(S<Q/\R<Q)) :
  Calls Tryz.prog 59 #[.pointer (some ⟨b,0,none⟩),.slice p n c] w fun en w'=>en=.returned (.tuple #[.agg #[.slice none 0 0,.slice none 0 0],.int .i64 3])/\Below w.heap.size w w':=by
 have hx2:=Bo.made 75 w (.slice none 0 0) (.slice none 0 0);have hb0:Below w.heap.size w (w.alloc (.cells #[.slice none 0 0,.slice none 0 0] 75)):=By;obtain⟨wa,hwa⟩:∃zz,w.alloc (.cells #[.slice none 0 0,.slice none 0 0] 75)=zz:=⟨_,rfl⟩
 rw[hwa]at hx2 hb0
 have HX:=Ac hx2;have HB:=Ac hb0;have HQ:=Ac (Qp.of (hg.below hb0));have HL:=Ac hL;have hlen:n=bs.length:=hr.row.len;have hcap:n<=c:=hr.row.cap;have hmax:c<=9223372036854775807:=hr.row.max;obtain⟨bb,off,e,-,-⟩:=(hr.row.row (show 0<n by omega)).pos (show 0<n by omega);replace e:p=some ⟨bb,off,none⟩:=e;subst e;have hbk:Hk (some ⟨bb,off,none⟩) c L=some ⟨bb,off+L,none⟩:=by
  unfold Hk;rw[if_neg (by omega),Option.map_some,add_plain]
 have hnL:n-L=L:=by omega
 obtain⟨c2,hc2⟩:∃z,c-L=z:=⟨_,rfl⟩
 have HR1:Aa (Bb wa .u8 (some ⟨bb,off,none⟩) L c (bs.take L)):=⟨((hr.row).take L (show L<=n by omega)).below hb0⟩
 have HR2:Aa (Bb wa .u8 (some ⟨bb,off+L,none⟩) L c2 (bs.drop L)):=⟨by
  have h:=(hr.row.back (W:=L) (by show L<=n;omega)).below hb0
  dsimp only at h
  rw[hbk,hnL,hc2]at h
  exact h⟩
 have HB1:Aa (Au (bs.take L)/\Au (bs.drop L)):=⟨hr.bytes.take L,fun x hx=>hr.bytes x (List.mem_of_mem_drop hx)⟩
 have HSl:Aa (S<Al 4/\R<Al 4):=⟨by rw[<-hS];exact Te HB1.out.1 (by rw[List.length_take];omega) hs,by rw[<-hR];exact Te HB1.out.2 (by rw[List.length_drop];omega) hs⟩
 have HS:=Ac hS;have HR:=Ac hR;have HLT:=Ac hlt;have r2:2*(L:Int)=n:=by omega
 have hnn:n<=32:=by omega
 have hLc:¬c=L:=by omega
 have hLn:L<=n:=by omega
 clear hx2 hb0 hg hL hr hlen hS hR hlt hn hbk;go_enter Tryz.func59,Tryz.ntmps59
 go_wp2_with fail
 refine(Gl HQ.out (by rw[HL.out];exact hs)).mono ?_;rintro en w1 ⟨rfl,b1⟩;rw[HL.out];replace HX:Aa _:=⟨HX.out.later b1⟩
 replace HQ:Aa _:=⟨HQ.out.below b1⟩
 replace HR1:Aa _:=⟨HR1.out.below b1⟩
 replace HR2:Aa _:=⟨HR2.out.below b1⟩
 replace HB:Aa _:=⟨Ab HB.out b1⟩
 clear b1 hwa
 go_wp2_with fail
 refine(Cq w1 _ L c (bs.take L) HR1.out HB1.out.1 (by omega)).mono ?_;rintro en w2 ⟨px,nx,cx,rfl,hqx,b2,-⟩;rw[HS.out]at hqx
 have HNX:Aa (Br w2 (px,nx,cx) S):=⟨hqx⟩
 replace HX:Aa _:=⟨HX.out.later b2⟩
 replace HQ:Aa _:=⟨HQ.out.below b2⟩
 replace HR2:Aa _:=⟨HR2.out.below b2⟩
 replace HB:Aa _:=⟨Ab HB.out b2⟩
 clear b2 hqx r2 HR1;have hb3:Below w2.heap.size w2 (w2.alloc (.cells #[.slice px nx cx] 37)):=By;have hx3:=Ae.made w2 (.slice px nx cx);obtain⟨bx,hbx⟩:∃zz,w2.heap.size=zz:=⟨_,rfl⟩
 obtain⟨w3,hw3⟩:∃zz,w2.alloc (.cells #[.slice px nx cx] 37)=zz:=⟨_,rfl⟩
 rw[hw3]at hb3 hx3
 rw[hbx]at hx3
 have HXX:=Ac hx3;replace HX:Aa _:=⟨HX.out.later hb3⟩
 replace HQ:Aa _:=⟨HQ.out.below hb3⟩
 replace HR2:Aa _:=⟨HR2.out.below hb3⟩
 replace HB:Aa _:=⟨Ab HB.out hb3⟩
 replace HNX:Aa (Br w3 (px,nx,cx) S):=⟨HNX.out.below hb3⟩
 clear hb3 hx3
 go_wp2_with fail
 clear hw3 hbx;refine(Cq w3 _ L c2 (bs.drop L) HR2.out HB1.out.2 (by omega)).mono ?_;rintro en w4 ⟨py,ny,cy,rfl,hqy,b4,-⟩;rw[HR.out]at hqy
 have hb5:Below w4.heap.size w4 (w4.alloc (.cells #[.slice py ny cy] 37)):=By;have hx5:=Ae.made w4 (.slice py ny cy);obtain⟨bY,hbY⟩:∃zz,w4.heap.size=zz:=⟨_,rfl⟩
 obtain⟨w5,hw5⟩:∃zz,w4.alloc (.cells #[.slice py ny cy] 37)=zz:=⟨_,rfl⟩
 rw[hw5]at hb5 hx5
 rw[hbY]at hx5
 have hb45:=Ab b4 hb5;have HXY:=Ac hx5;have HNY:Aa (Br w5 (py,ny,cy) R):=⟨hqy.below hb5⟩
 replace HX:Aa _:=⟨HX.out.later hb45⟩
 replace HQ:Aa _:=⟨HQ.out.below hb45⟩
 replace HXX:Aa _:=⟨HXX.out.below hb45 HXX.out.lt⟩
 replace HB:Aa _:=⟨Ab HB.out hb45⟩
 replace HNX:Aa (Br w5 (px,nx,cx) S):=⟨HNX.out.below hb45⟩
 clear b4 hb5 hx5 hb45 hqy HR2 hnL hc2 hLc;have cx3:=HXX.out.cell;have cy3:=HXY.out.cell;have b6:Below w5.heap.size w5 (w5.alloc (.cells #[.slice px nx cx,.slice py ny cy] 75)):=By;have hbx:Bo 75 (w5.alloc (.cells #[.slice px nx cx,.slice py ny cy] 75)) w5.heap.size (.slice px nx cx) (.slice py ny cy):=Bo.made _ _ _ _;obtain⟨bs6,hbs6⟩:∃zz,w5.heap.size=zz:=⟨_,rfl⟩
 obtain⟨w6,hw6⟩:∃zz,w5.alloc (.cells #[.slice px nx cx,.slice py ny cy] 75)=zz:=⟨_,rfl⟩
 rw[hw6]at b6 hbx
 rw[hbs6]at hbx
 have HXS:=Ac hbx;clear hbx;replace HX:Aa _:=⟨HX.out.later b6⟩
 replace HQ:Aa _:=⟨HQ.out.below b6⟩
 replace HB:Aa _:=⟨Ab HB.out b6⟩
 replace HNX:Aa (Br w6 (px,nx,cx) S):=⟨HNX.out.below b6⟩
 replace HNY:Aa (Br w6 (py,ny,cy) R):=⟨HNY.out.below b6⟩
 obtain⟨d0,d1⟩:=HXS.out.cells;clear b6
 go_wp2_with fail
 refine(Gm (B:=false) (x:=(px,nx,cx)) (y:=(py,ny,cy)) HQ.out HNX.out HSl.out.1 HNY.out HSl.out.2 (by decide) (by decide) (by
   by_cases h1:S<Q
   .rw[decide_eq_false (fun h2=>HLT.out ⟨h1,h2⟩),Bool.and_false]
   .rw[decide_eq_false h1,Bool.false_and])).mono ?_
 rintro en ww ⟨rfl,b7⟩;replace HNX:Aa (Br ww (px,nx,cx) S):=⟨HNX.out.below b7⟩
 replace HNY:Aa (Br ww (py,ny,cy) R):=⟨HNY.out.below b7⟩
 replace HX:Aa _:=⟨HX.out.later b7⟩
 replace HXS:Aa _:=⟨HXS.out.later b7⟩
 replace HB:Aa _:=⟨Ab HB.out b7⟩
 clear b7 d0 d1 cx3 cy3 HQ hw6 hbs6 hw5 hbY HXX HXY;obtain⟨k0,k5⟩:=HX.out.cells;have f0:=HX.out.free 0;have f1:=HX.out.free 1;have hz2:=HX.out.set (.slice none 0 0) (.slice none 0 0);obtain⟨z0,z1⟩:=hz2.cells;have HBF:Aa (Below w.heap.size w ((ww.setCell ⟨w.heap.size,0,none⟩ (.slice none 0 0)).setCell ⟨w.heap.size,1,none⟩ (.slice none 0 0))):=⟨(HB.out.setCell (Av _) _).setCell (Av _) _⟩
 clear hz2;go_wp2;exact bodyPost_ret (v:=.tuple #[.agg #[.slice none 0 0,.slice none 0 0],.int .i64 3]) (by simp[results,Tryz.results59,go_sem,z0,z1]) rfl ⟨rfl,HBF.out⟩
theorem dC {w:World}{b P Q GG HH n c L:Nat}{p:Option Addr}(hg:Bq w b P Q GG HH)(hL:Ao Q=L)(hs:L<=16)(hn:n≠2*L) :
  Calls Tryz.prog 59 #[.pointer (some ⟨b,0,none⟩),.slice p n c] w fun en w'=>en=.returned (.tuple #[.agg #[.slice none 0 0,.slice none 0 0],.int .i64 3])/\Below w.heap.size w w':=by
 have hx2:=Bo.made 75 w (.slice none 0 0) (.slice none 0 0);have hb0:Below w.heap.size w (w.alloc (.cells #[.slice none 0 0,.slice none 0 0] 75)):=By;obtain⟨wa,hwa⟩:∃zz,w.alloc (.cells #[.slice none 0 0,.slice none 0 0] 75)=zz:=⟨_,rfl⟩
 rw[hwa]at hx2 hb0
 have HX:=Ac hx2;have HB:=Ac hb0;have HQ:=Ac (Qp.of (hg.below hb0));have HL:=Ac hL;obtain⟨L2,hL2⟩:∃z,2*L=z:=⟨_,rfl⟩
 have r2:2*(L:Int)=L2:=by omega
 have hne:¬(n:Int)=L2:=by omega
 clear hx2 hb0 hg hL hn hL2;go_enter Tryz.func59,Tryz.ntmps59
 go_wp2_with fail
 refine(Gl HQ.out (by rw[HL.out];exact hs)).mono ?_;rintro en ww ⟨rfl,b1⟩;rw[HL.out];replace HX:Aa _:=⟨HX.out.later b1⟩
 replace HB:Aa _:=⟨Ab HB.out b1⟩
 clear b1 hwa HQ;obtain⟨k0,k5⟩:=HX.out.cells;have f0:=HX.out.free 0;have f1:=HX.out.free 1;have hz2:=HX.out.set (.slice none 0 0) (.slice none 0 0);obtain⟨z0,z1⟩:=hz2.cells;have HBF:Aa (Below w.heap.size w ((ww.setCell ⟨w.heap.size,0,none⟩ (.slice none 0 0)).setCell ⟨w.heap.size,1,none⟩ (.slice none 0 0))):=⟨(HB.out.setCell (Av _) _).setCell (Av _) _⟩
 clear hz2;go_wp2;exact bodyPost_ret (v:=.tuple #[.agg #[.slice none 0 0,.slice none 0 0],.int .i64 3]) (by simp[results,Tryz.results59,go_sem,z0,z1]) rfl ⟨rfl,HBF.out⟩
theorem Hi {w:World}{n c:Nat}{p:Option Addr} :
  Calls Tryz.prog 59 #[.pointer none,.slice p n c] w fun en w'=>en=.returned (.tuple #[.agg #[.slice none 0 0,.slice none 0 0],.int .i64 1])/\Below w.heap.size w w':=by
 have hx2:=Bo.made 75 w (.slice none 0 0) (.slice none 0 0);have hb0:Below w.heap.size w (w.alloc (.cells #[.slice none 0 0,.slice none 0 0] 75)):=By;obtain⟨ww,hww⟩:∃zz,w.alloc (.cells #[.slice none 0 0,.slice none 0 0] 75)=zz:=⟨_,rfl⟩
 rw[hww]at hx2 hb0
 have HX:=Ac hx2;have HB:=Ac hb0;clear hx2 hb0;go_enter Tryz.func59,Tryz.ntmps59;obtain⟨k0,k5⟩:=HX.out.cells;have f0:=HX.out.free 0;have f1:=HX.out.free 1;have hz2:=HX.out.set (.slice none 0 0) (.slice none 0 0);obtain⟨z0,z1⟩:=hz2.cells;have HBF:Aa (Below w.heap.size w ((ww.setCell ⟨w.heap.size,0,none⟩ (.slice none 0 0)).setCell ⟨w.heap.size,1,none⟩ (.slice none 0 0))):=⟨(HB.out.setCell (Av _) _).setCell (Av _) _⟩
 clear hz2;go_wp2;exact bodyPost_ret (v:=.tuple #[.agg #[.slice none 0 0,.slice none 0 0],.int .i64 1]) (by simp[results,Tryz.results59,go_sem,z0,z1]) rfl ⟨rfl,HBF.out⟩
end Go.Proofs.YtokhckjemidbpaaGreatDoor
