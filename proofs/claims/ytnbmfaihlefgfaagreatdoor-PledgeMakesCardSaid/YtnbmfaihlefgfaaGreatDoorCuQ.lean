/- Rows of the call's own all of whose cells are slices: they grow, and no number is harmed. -/
import Derived.Test.YtnbmfaihlefgfaaGreatDoorGqG
import Derived.Lib.SmallJoins
import Derived.Deep.LoopGhost
import Derived.OwnWalkIn
import Derived.TacticsInMore
import Derived.LoopNIn
import Derived.LoopIn
import Derived.RangeFuncNested
import Derived.RangeFuncBound
import Derived.RangeFuncCalls
import Derived.RangeFuncLeaves
import Derived.OrdersIn
import Derived.BigRegion
set_option maxRecDepth 1000000
set_option maxHeartbeats 16000000
set_option linter.all false
namespace Go.Proofs.YtnbmfaihlefgfaaGreatDoor
open Go Go.RowKit Go.Proofs.YtnbmfaihlefgfaaGreatDoor.Flow
structure KN (B:Nat) (w w':World):Prop where
 k:Ao B w w'
 blk:∀(g:Nat) (o:Obj),w.heap[g]? = some o->(∀q m d,o≠.cells #[.slice q m d] 36 (0,0))->w'.heap[g]? = some o
theorem KN.of {B:Nat}{w w':World}(h:Below w.heap.size w w')(hB:B<=w.heap.size):KN B w w':=⟨Ao.of h hB,fun g o ho _=>by rw[h.block g (Mv ho).1];exact ho⟩
theorem KN.same (B:Nat)(w:World):KN B w w:=⟨Ao.same _ _,fun _ _ h _=>h⟩
theorem KN.store {B b m d:Nat}{q:Option Addr}{w:World}(hb:Af w b (.slice q m d))(hB:B<=b)(v:Value):KN B w (w.setCell ⟨b,0,none⟩ v):=⟨Ao.store hb hB v,fun g o ho hn=>by
 have hne:g≠b:=fun e=>by
  subst e;unfold Af at hb;rw[hb]at ho
  cases ho;exact hn _ _ _ rfl
 simp[World.setCell,Array.getElem?_modify,hne.symm];exact ho⟩
theorem Fit.kn {e N B:Nat}{v:Value}{w w':World}(h:Fit e N v w)(k:KN B w w'):Fit e N v w':=h.keep k.k
theorem Fv.kn {e N B:Nat}{t v:Value}{w w':World}(h:Fv e N t v w)(k:KN B w w'):Fv e N t v w':=h.keep k.k
def RQ (Q:Nat)(v:Value)(w:World):Prop:=(∃r,v=.pointer (some ⟨r,0,none⟩)/\Ring w r Q 33) ∨ (v=.pointer none/\Q=0)
theorem kH (i:Nat)(hi:i<3):gP i<Am 3/\gQ i<Am 3/\gG i<Am 3:=by
 have h:=Gr i hi;have h1:gP i<Am 3:=Dj h.2.2.2.2.2 (by decide);have h2:=Tb i hi;refine⟨h1,?_,by omega⟩;rcases Nat.eq_zero_or_pos (Ln i) with h0|h0
 .rw[h0,Nat.mul_zero]at h2;omega
 .have:=Nat.le_mul_of_pos_right (gQ i) h0;omega
theorem Zn:∀i,i<3->(Dw i).length<=60
 | 0,_=>by decide
 | 1,_=>by decide
 | 2,_=>by decide
 | _+3,h=>by omega
def Xx (N M:Nat)(v:Value)(w:World):Prop:=∃(g:Nat) (x y:Option Addr×Nat×Nat),v=.slice (some ⟨g,0,none⟩) 2 2/\w.heap[g]? = some (.cells #[.slice x.1 x.2.1 x.2.2,.slice y.1 y.2.1 y.2.2] 36 (0,0))/\Hq w x N/\Hq w y M/\N<Am 33/\M<Am 33
theorem Xx.kn {N M B:Nat}{v:Value}{w w':World}(h:Xx N M v w)(k:KN B w w'):Xx N M v w' :=
 let ⟨g,x,y,h1,h2,h3,h4,h5,h6⟩:=h
 ⟨g,x,y,h1,k.blk _ _ h2 (fun _ _ _=>by simp),k.k.nat _ _ _ _ h3,k.k.nat _ _ _ _ h4,h5,h6⟩
theorem Xx.plist {N M g:Nat}{x y:Option Addr×Nat×Nat}{w:World}(h2:w.heap[g]? = some (.cells #[.slice x.1 x.2.1 x.2.2,.slice y.1 y.2.1 y.2.2] 36 (0,0)))(h3:Hq w x N)(h4:Hq w y M)(h5:N<Am 33)(h6:M<Am 33):Bd w 33 (some ⟨g,0,none⟩) 2 2 [N,M]:=by
 refine⟨rfl,Av _,by decide,(fun e=>by cases e),fun _=>⟨g,0,rfl,(Mv h2).1,fun i K hK=>?_⟩⟩
 match i,hK with
 | 0,hK=>cases hK;exact⟨x.1,x.2.1,x.2.2,by simp[World.cell?,h2],h3,h5⟩
 | 1,hK=>cases hK;exact⟨y.1,y.2.1,y.2.2,by simp[World.cell?,h2],h4,h6⟩
theorem cT {N:Nat}(h:Au N<=16):Aj N<=100000:=by unfold Au at h;omega
theorem Wu {w:World}{b P Q G H:Nat}(h:Bo w b P Q G H) :
  Calls Tryz.prog 20 #[.pointer (some ⟨b,0,none⟩)] w fun e w'=>∃x,e=.returned x/\iA Q x w'/\Below w.heap.size w w':=by
 refine(Qr h).mono ?_;rintro en w' ⟨r,rfl,hr,hb⟩;exact⟨_,rfl,⟨r,rfl,hr⟩,hb⟩
theorem Vv {w:World}{b P Q G H:Nat}(hg:Bo w b P Q G H) :
  Calls Tryz.prog 17 #[.pointer (some ⟨b,0,none⟩)] w fun e w'=>∃x,e=.returned x/\Cz P Q G H x w'/\Below w.heap.size w w':=by
 have hbx:Below w.heap.size w (w.alloc (.cells #[.slice none 0 0,.slice none 0 0,.slice none 0 0,.slice none 0 0] 30)):=Co;have HBX:=Ac (Cm.made 30 w (.slice none 0 0) (.slice none 0 0) (.slice none 0 0) (.slice none 0 0));obtain⟨wa,hwa⟩:∃wa,w.alloc (.cells #[.slice none 0 0,.slice none 0 0,.slice none 0 0,.slice none 0 0] 30)=wa:=⟨_,rfl⟩
 rw[hwa]at hbx HBX
 have HG:=Ac (hg.below hbx);have HB:=Ac hbx;clear hg hbx;go_enter Tryz.func17,Tryz.ntmps17
 go_wp2_with fail
 refine(kK HG.out).mono ?_;rintro en w1 ⟨x1,rfl,h1,b1⟩;have H1:=Ac h1;have HG1:=Ac (HG.out.below b1);have HB1:=Ac b1;clear h1 b1
 go_wp2_with fail
 refine(Ij H1.out (by decide)).mono ?_;rintro en w2 ⟨_,rfl,⟨p0,n0,c0,rfl,h2⟩,b2⟩;have H2:=Ac h2;have HG2:=Ac (HG1.out.below b2);have HB2:=Ac (Ae HB1.out b2);clear h2 b2
 go_wp2_with fail
 refine(Wu HG2.out).mono ?_;rintro en w3 ⟨x3,rfl,h3,b3⟩;have H23:=Ac (H2.out.below b3);have HG3:=Ac (HG2.out.below b3);have HB3:=Ac (Ae HB2.out b3);obtain⟨r,rfl,hr3⟩:=h3.ex;have H3:Ab (Ring w3 r Q 33):=⟨hr3⟩
 clear h3 hr3 b3
 go_wp2_with fail
 refine(Fn H3.out).mono ?_;rintro en w4 ⟨x4,rfl,h4,b4⟩;have H24:=Ac (H23.out.below b4);have H4:=Ac h4;have HG4:=Ac (HG3.out.below b4);have HB4:=Ac (Ae HB3.out b4);clear h4 b4
 go_wp2_with fail
 refine(Ij H4.out (by decide)).mono ?_;rintro en w5 ⟨_,rfl,⟨p1,n1,c1,rfl,h5⟩,b5⟩;have H25:=Ac (H24.out.below b5);have H5:=Ac h5;have HG5:=Ac (HG4.out.below b5);have HB5:=Ac (Ae HB4.out b5);clear h5 b5
 go_wp2_with fail
 refine(Zm HG5.out).mono ?_;rintro en w6 ⟨x6,rfl,h6,b6⟩;have H26:=Ac (H25.out.below b6);have H56:=Ac (H5.out.below b6);have H6:=Ac h6;have HG6:=Ac (HG5.out.below b6);have HB6:=Ac (Ae HB5.out b6);clear h6 b6
 go_wp2_with fail
 refine(Ij H6.out (by decide)).mono ?_;rintro en w7 ⟨_,rfl,⟨p2,n2,c2,rfl,h7⟩,b7⟩;have H27:=Ac (H26.out.below b7);have H57:=Ac (H56.out.below b7);have H7:=Ac h7;have HG7:=Ac (HG6.out.below b7);have HB7:=Ac (Ae HB6.out b7);clear h7 b7
 go_wp2_with fail
 refine(fU HG7.out).mono ?_;rintro en w8 ⟨x8,rfl,h8,b8⟩;have H28:=Ac (H27.out.below b8);have H58:=Ac (H57.out.below b8);have H78:=Ac (H7.out.below b8);have H8:=Ac h8;have HB8:=Ac (Ae HB7.out b8);clear h8 b8
 go_wp2_with fail
 refine(Ij H8.out (by decide)).mono ?_;rintro en w9 ⟨_,rfl,⟨p3,n3,c3,rfl,h9⟩,b9⟩;have H29:=Ac (H28.out.below b9);have H59:=Ac (H58.out.below b9);have H79:=Ac (H78.out.below b9);have H9:=Ac h9;have HB9:=Ac (Ae HB8.out b9);have hbx9:=HBX.out.below HB9.out HBX.out.lt;have g0:=hbx9.cells.1;have g1:=hbx9.cells.2.1;have g2:=hbx9.cells.2.2.1;have g3:=hbx9.cells.2.2.2;have f0:=hbx9.free;clear h9 b9;go_wp2;obtain⟨wf,hwf⟩:∃wf,wf=(((w9.setCell ⟨w.heap.size,0,none⟩ (.slice p0 n0 c0)).setCell ⟨w.heap.size,1,none⟩ (.slice p1 n1 c1)).setCell ⟨w.heap.size,2,none⟩ (.slice p2 n2 c2)).setCell ⟨w.heap.size,3,none⟩ (.slice p3 n3 c3):=⟨_,rfl⟩
 have hkp:Fz w9 wf:=by rw[hwf];exact cO (x0:=(none,0,0)) (x1:=(none,0,0)) (x2:=(none,0,0)) (x3:=(none,0,0)) hbx9 _ _ _ _
 have hst:=Hd hbx9 hwf;have e0:=hst.1.cells.1;have e1:=hst.1.cells.2.1;have e2:=hst.1.cells.2.2.1;have e3:=hst.1.cells.2.2.2;have hbf:=hst.2.2 w.heap.size w (Ae HB.out HB9.out) (Av _);rw[<-hwf];refine bodyPost_ret (v:=.agg #[.slice p0 n0 c0,.slice p1 n1 c1,.slice p2 n2 c2,.slice p3 n3 c3]) (by simp[results,Tryz.results17,go_sem,e0,e1,e2,e3]) rfl ⟨_,rfl,⟨p0,n0,c0,p1,n1,c1,p2,n2,c2,p3,n3,c3,rfl,Mt.kept H29.out hkp,Mt.kept H59.out hkp,Mt.kept H79.out hkp,Mt.kept H9.out hkp⟩,hbf⟩
theorem Js {w:World}{v u t:Value}{P Q G H A E:Nat}(h:Cz P Q G H v w)(hu:Aq A u w)(ht:Aq E t w)(lA:Aj A<=100000)(lE:Aj E<=100000)(lP:Aj P<=100000)(hP:0<P) :
  Calls Tryz.prog 72 #[v,u,t] w fun e w'=>∃x,e=.returned x/\Aq (A^E%P) x w'/\Below w.heap.size w w':=by
 obtain⟨p0,n0,c0,p1,n1,c1,p2,n2,c2,p3,n3,c3,rfl,h0,h1,h2,h3⟩:=h.ex;have hbx:Below w.heap.size w (w.alloc (.cells #[.slice p0 n0 c0,.slice p1 n1 c1,.slice p2 n2 c2,.slice p3 n3 c3] 30)):=Co;have hbo:=Cm.made 30 w (.slice p0 n0 c0) (.slice p1 n1 c1) (.slice p2 n2 c2) (.slice p3 n3 c3);obtain⟨wa,hwa⟩:∃wa,w.alloc (.cells #[.slice p0 n0 c0,.slice p1 n1 c1,.slice p2 n2 c2,.slice p3 n3 c3] 30)=wa:=⟨_,rfl⟩
 rw[hwa]at hbx hbo
 have HB:=Ac hbx;have HBX:=Ac hbo;have HV:Ab (Cz P Q G H (.agg #[.slice p0 n0 c0,.slice p1 n1 c1,.slice p2 n2 c2,.slice p3 n3 c3]) wa):=⟨⟨p0,n0,c0,p1,n1,c1,p2,n2,c2,p3,n3,c3,rfl,h0.below hbx,h1.below hbx,h2.below hbx,h3.below hbx⟩⟩
 obtain⟨q0,m0,d0,rfl,hu0⟩:=hu;obtain⟨q1,m1,d1,rfl,ht0⟩:=ht;have HC:=Ac (gC (Aq.of (hu0.below hbx)) (Aq.of (ht0.below hbx)) (Aq.of (h0.below hbx)) lA lE lP hP);have g0:=HBX.out.cells.1;clear h h0 h1 h2 h3 hbx hbo hu0 ht0 lA lE lP hP;go_enter Tryz.func72,Tryz.ntmps72
 go_wp2_with fail
 refine HC.out.mono ?_;rintro en w1 ⟨x,rfl,hx,hb1⟩;have HX:=Ac hx;have HB1:=Ac (Ae HB.out hb1);clear hx hb1 g0;go_wp2;go_ret;exact⟨x,rfl,HX.out,HB1.out⟩
theorem Ox {w:World}{v u t:Value}{P Q G H A E:Nat}(h:Cz P Q G H v w)(hu:Aq A u w)(ht:Aq E t w)(lA:Aj A<=100000)(lE:Aj E<=100000)(lP:Aj P<=100000)(hP:0<P) :
  Calls Tryz.prog 100 #[v,u,t] w fun e w'=>∃x,e=.returned x/\Aq (A*E%P) x w'/\Below w.heap.size w w':=by
 obtain⟨p0,n0,c0,p1,n1,c1,p2,n2,c2,p3,n3,c3,rfl,h0,h1,h2,h3⟩:=h.ex;have hbx:Below w.heap.size w (w.alloc (.cells #[.slice p0 n0 c0,.slice p1 n1 c1,.slice p2 n2 c2,.slice p3 n3 c3] 30)):=Co;have hbo:=Cm.made 30 w (.slice p0 n0 c0) (.slice p1 n1 c1) (.slice p2 n2 c2) (.slice p3 n3 c3);obtain⟨wa,hwa⟩:∃wa,w.alloc (.cells #[.slice p0 n0 c0,.slice p1 n1 c1,.slice p2 n2 c2,.slice p3 n3 c3] 30)=wa:=⟨_,rfl⟩
 rw[hwa]at hbx hbo
 have HB:=Ac hbx;have HBX:=Ac hbo;have HV:Ab (Cz P Q G H (.agg #[.slice p0 n0 c0,.slice p1 n1 c1,.slice p2 n2 c2,.slice p3 n3 c3]) wa):=⟨⟨p0,n0,c0,p1,n1,c1,p2,n2,c2,p3,n3,c3,rfl,h0.below hbx,h1.below hbx,h2.below hbx,h3.below hbx⟩⟩
 obtain⟨q0,m0,d0,rfl,hu0⟩:=hu;obtain⟨q1,m1,d1,rfl,ht0⟩:=ht;have HC:=Ac (Qw (Aq.of (hu0.below hbx)) (Aq.of (ht0.below hbx)) (Aq.of (h0.below hbx)) lA lE lP hP);have g0:=HBX.out.cells.1;clear h h0 h1 h2 h3 hbx hbo hu0 ht0 lA lE lP hP;go_enter Tryz.func100,Tryz.ntmps100
 go_wp2_with fail
 refine HC.out.mono ?_;rintro en w1 ⟨x,rfl,hx,hb1⟩;have HX:=Ac hx;have HB1:=Ac (Ae HB.out hb1);clear hx hb1 g0;go_wp2;go_ret;exact⟨x,rfl,HX.out,HB1.out⟩
attribute [local go_sem] Oper.semAt_some
structure Fq (w:World) (e:Nat) (us:List (Option Addr×Nat×Nat)) (Ns:List Nat):Prop where
 len:us.length=Ns.length
 at_:∀(i N:Nat),Ns[i]? = some N->∃x,us[i]? = some x/\Hq w x N/\N<Am e
theorem Fq.below {w w':World}{e:Nat}{us:List (Option Addr×Nat×Nat)}{Ns:List Nat}(h:Fq w e us Ns)(hb:Below w.heap.size w w'):Fq w' e us Ns :=
 ⟨h.len,fun i N hN=>let ⟨x,h1,h2,h3⟩:=h.at_ i N hN;⟨x,h1,h2.below hb,h3⟩⟩
def Jc (w:World)(g:Nat)(us:List (Option Addr×Nat×Nat))(rest:List Value):Prop:=w.heap[g]? = some (.cells (us.map sv++rest).toArray 36 (0,0))
theorem Jc.lt {w:World}{g:Nat}{us:List (Option Addr×Nat×Nat)}{rest:List Value}(h:Jc w g us rest):g<w.heap.size:=(Mv h).1
theorem Jc.cell {w:World}{g j:Nat}{us:List (Option Addr×Nat×Nat)}{rest:List Value}{x:Option Addr×Nat×Nat}(h:Jc w g us rest)(hj:us[j]? = some x):w.cell? ⟨g,j,none⟩=some (.slice x.1 x.2.1 x.2.2):=by
 have hl:j<us.length:=(List.getElem?_eq_some_iff.1 hj).1;unfold Jc at h;have:(us.map sv++rest)[j]? = some (sv x):=by rw[List.getElem?_append_left (by simpa using hl),List.getElem?_map,hj];rfl
 simp[World.cell?,h,this,sv]
def iF (n:Nat)(Ns:List Nat)(v:Value)(w:World):Prop:=∃g,v=.slice (some ⟨g,0,none⟩) n n/\Bd w 33 (some ⟨g,0,none⟩) n n Ns
theorem iF.below {n:Nat}{Ns:List Nat}{v:Value}{w w':World}(h:iF n Ns v w)(hb:Below w.heap.size w w'):iF n Ns v w':=let ⟨g,h1,h2⟩:=h;⟨g,h1,h2.below hb⟩
theorem iJ {x:Nat}(h:jU x):x<Am 2:=by
 unfold jU at h;exact Dj h (by decide)
theorem Lg (w:World)(p:Option Addr)(n c:Nat)(xs:List Nat)(h:Bq w .u64 p n c xs)(h64:∀x∈xs,jU x)(hn:n<=1000) :
  Calls Tryz.prog 18 #[.slice p n c] w fun e w'=>∃q d,e=.returned (.slice q n d)/\Bd w' 2 q n d xs/\Below w.heap.size w w':=by
 have HX:=Ac h;have H6:=Ac h64;have HLn:=Ac h.len;clear h h64;go_enter Tryz.func18,Tryz.ntmps18;go_wp2
 go_loopw [3,5,8] (fun vv _ iv wr=>∃(k:Nat) (bad:Nat->Prop),k<=n/\iv=.int .i64 k/\Ab (Below w.heap.size w wr)/\Ab (∀g,bad g->g<wr.heap.size)/\Ab (Dy Ah 36 w.heap.size bad wr vv (xs.take k))/\Ab (∀g,vv.ownBlock=some g->bad g)) (fun _ _ iv _=>n-(intOf iv).toNat)
 case atStart=>exact⟨0,fun _=>False,by omega,rfl,⟨Be _ _⟩,⟨fun _ h=>h.elim⟩,⟨Dy.nil⟩,⟨fun g h=>by cases h⟩⟩
 case round=>
  obtain⟨k,bad,hk,rfl,HB,HLT,HO,HV⟩:=hrel
  by_cases hkn:k<n
  .obtain⟨S,hSk⟩:∃s,xs[k]? = some s:=⟨xs[k]'(by rw[<-HLn.out];exact hkn),List.getElem?_eq_getElem _⟩
   obtain⟨bb,off,rfl,hb,hc⟩:=(HX.out.row (by omega)).pos (by omega);have hx:wr.cell? ⟨bb,off+k,none⟩=some (.int .u64 (S:Nat)):=(HB.out.cell (p:=⟨bb,off+k,none⟩) hb).trans (hc k S hSk);have HTk:Ab (xs.take (k+1)=xs.take k++[S]):=⟨Cp hSk⟩
   have HTl:Ab ((xs.take k).length<=1000000):=⟨by rw[List.length_take];omega⟩
   have HSU:Ab (S<18446744073709551616):=⟨H6.out S (List.mem_of_getElem? hSk)⟩
   have hkn':(k:Int)<n:=by omega
   clear hc hSk hb
   go_wp2_with fail
   refine(Cq S wr HSU.out).mono ?_;rintro en w3 ⟨q,m,d,rfl,hn3,b3,hnew⟩;have hb4:Below w3.heap.size w3 (w3.alloc (.cells #[.slice q m d] 36)):=Co;have hx4:(w3.alloc (.cells #[.slice q m d] 36)).cell? ⟨w3.heap.size,0,none⟩=some (.slice q m d):=(Af.made w3 (.slice q m d)).cell;obtain⟨w4,hw4⟩:∃w4,w3.alloc (.cells #[.slice q m d] 36)=w4:=⟨_,rfl⟩
   rw[hw4]at hb4 hx4
   have hb34:=Ae b3 hb4;have hB4:=Ae HB.out hb34;have hfirm:Ic (fun w=>Ah w q m d S) bad w4:=Fe.fresh (hn3.below hb4) hnew HLT.out;obtain⟨i1,hi1,hz1,hs1,hbb1⟩:=info_parts Tryz.info_Nat;refine(HO.out.below hb34).app2 (x:=(q,m,d)) Tryz.underlying32 hi1 hz1 hs1 hbb1 rfl (by decide) hB4.size hx4 hfirm HV.out (fun g hg=>Dj (HLT.out g hg) hb34.size) HTl.out 32 (c:=1) ?_;intro v9 w9 bad9 happ ho9 hg9 m1 m2 m3 m4;have HO9:=Ac ho9;have HB9:Ab (Below w.heap.size w w9):=⟨hB4.grown hg9 hB4.size fun g hg=>(HO.out.block g hg).1⟩
   have HLT9:=Ac m4;have HV9:=Ac m3;clear hb4 hx4 hb34 hB4 hfirm hi1 hz1 hs1 hbb1 ho9 hg9 m1 m2 m3 m4 b3 hn3 hnew
   go_wp2_with (at_builtin;refine Lib.wpList_append_run _ rfl _ _ _ _ rfl _ _ rfl rfl _ _ happ ?_;refine Lw.out ?_)
   refine⟨?_⟩;clear happ;go_wp2;go_roundw
   case rel=>exact⟨k+1,bad9,by omega,by go_num,HB9,HLT9,⟨by rw[HTk.out];exact HO9.out⟩,HV9⟩
   case measure=>simp[intOf];omega
  .obtain rfl:k=n:=by omega
   have hkn':¬(k:Int)<k:=by omega
   have htk:xs.take k=xs:=List.take_of_length_le (by rw[<-HLn.out];exact Av _);rw[htk]at HO
   obtain⟨q,d,rfl,hp⟩:=HO.out.plist (e:=2) (fun N hN=>iJ (H6.out N hN));have HP:Ab (Bd wr 2 q k d xs):=⟨by have e:=HLn.out;rw[<-e]at hp;exact hp⟩
   have e9:xs.length=k:=HLn.out.symm;rw[e9];clear htk hp e9;go_wp2;go_ret;exact⟨q,d,rfl,HP.out,HB.out⟩
theorem fT (i:Nat)(hi:i<3):Cj (gQ i):=by
 rcases aR i hi with h|⟨h1,s,hs,h2⟩
 .exact h.prime
 .rw[<-h2];exact Jw _ [] (fun x hx=>by cases hx) h1 s hs
theorem fN (A:Int):((IntKind.u64.wrap A)%3).toNat<3:=by
 have h1:=Int.emod_nonneg (IntKind.u64.wrap A) (show (3:Int)≠0 by decide);have h2:=Int.emod_lt_of_pos (IntKind.u64.wrap A) (show (0:Int)<3 by decide);omega
theorem fQ {w:World}{i:Nat}{x y z:Option Addr×Nat×Nat}{pc:Option Addr}{nc cc:Nat}(hi:i<3)(hr:Tabs w)(hx:Hq w x (gP i))(hy:Hq w y (gQ i))(hz:Hq w z (gG i))(hc:Dx w 3 pc nc cc (Dw i)) :
  Calls Tryz.prog 80 #[.agg #[.slice x.1 x.2.1 x.2.2,.slice y.1 y.2.1 y.2.2,.slice z.1 z.2.1 z.2.2,.slice none 0 0],.slice pc nc cc] w fun e w'=>
   ∃b,e=.returned (.tuple #[.pointer (some ⟨b,0,none⟩),.int .i64 0])/\Bo w' b (gP i) (gQ i) (gG i) (gH i)/\Below w.heap.size w w':=by
 obtain⟨l1,l2,l3⟩:=kH i hi;refine(fR (e:=3) (seed:=[]) hr hx l1 hy l2 hz l3 (Wb w) hc (by rw[hc.len];exact Zn i hi) (Zo i hi) (by decide)).mono ?_;rintro en w' ⟨_,h0,_,hbl⟩;rw[bV i hi]at h0
 obtain⟨b,rfl,hg⟩:=h0 (by decide) rfl;exact⟨b,rfl,hg,hbl⟩
theorem La (w:World)(A:Int)(hr:Tabs w) :
  Calls Tryz.prog 16 #[.int .i64 A,.slice none 0 0] w fun e w'=>∃b,e=.returned (.pointer (some ⟨b,0,none⟩))/\Bo w' b (gP ((IntKind.u64.wrap A)%3).toNat) (gQ ((IntKind.u64.wrap A)%3).toNat) (gG ((IntKind.u64.wrap A)%3).toNat) (gH ((IntKind.u64.wrap A)%3).toNat)/\Below w.heap.size w w':=by
 have HR:=Ac hr;have hi:=fN A;obtain⟨i,ei⟩:∃i,((IntKind.u64.wrap A)%3).toNat=i:=⟨_,rfl⟩
 have HN:=Ac (Ro w A none 0 0);rw[ei]at hi HN ⊢
 have HI:=Ac hi;clear hr hi ei;go_enter Tryz.func16,Tryz.ntmps16
 go_wp2_with fail
 refine HN.out.mono ?_;rintro en w1 ⟨x,y,z,pc,nc,cc,rfl,h1,h2,h3,h4,b1⟩;have HH:=Ac (fQ HI.out (HR.out.below b1 HR.out.size) h1 h2 h3 h4);have B1:=Ac b1;clear h1 h2 h3 h4 b1 HN
 go_wp2_with fail
 refine HH.out.mono ?_;rintro en w2 ⟨b,rfl,hg,b2⟩;have HG:=Ac hg;have B2:=Ac (Ae B1.out b2);clear hg b2 HH B1;go_wp2;go_ret;exact⟨b,rfl,HG.out,B2.out⟩
structure Ec (w:World) (B:Nat) (v:Value) (us:List (Option Addr×Nat×Nat)):Prop where
 ex:(v=.slice none 0 0/\us=[]) ∨ ∃(g cap:Nat) (rest:List (Option Addr×Nat×Nat)),v=.slice (some ⟨g,0,none⟩) us.length cap/\B<=g/\Jc w g us (rest.map sv)/\us.length+rest.length=cap/\cap<=9223372036854775807
theorem Ec.nil (w:World)(B:Nat):Ec w B (.slice none 0 0) []:=⟨.inl ⟨rfl,rfl⟩⟩
theorem Ec.own {w:World}{B g:Nat}{v:Value}{us:List (Option Addr×Nat×Nat)}(h:Ec w B v us)(hg:v.ownBlock=some g):B<=g/\g<w.heap.size:=by
 rcases h.ex with ⟨rfl,_⟩|⟨g',cap,rest,rfl,h1,h2,_⟩
 .cases hg
 .obtain rfl:g'=g:=by simpa [Value.ownBlock]using hg
  exact⟨h1,h2.lt⟩
theorem Ec.keep {w w':World}{B:Nat}{v:Value}{us:List (Option Addr×Nat×Nat)}(h:Ec w B v us)(hk:∀g,v.ownBlock=some g->w'.heap[g]? = w.heap[g]?):Ec w' B v us:=by
 rcases h.ex with h1|⟨g,cap,rest,rfl,h1,h2,h3⟩
 .exact⟨.inl h1⟩
 .exact⟨.inr ⟨g,cap,rest,rfl,h1,by unfold Jc at *;rw[hk g rfl];exact h2,h3⟩⟩
theorem Ec.below {w w':World}{B:Nat}{v:Value}{us:List (Option Addr×Nat×Nat)}(h:Ec w B v us)(hb:Below w.heap.size w w'):Ec w' B v us:=h.keep fun g hg=>hb.block g (h.own hg).2
theorem Ec.slice {w:World}{B:Nat}{v:Value}{us:List (Option Addr×Nat×Nat)}(h:Ec w B v us):∃p c,v=.slice p us.length c:=by
 rcases h.ex with ⟨rfl,rfl⟩|⟨g,cap,rest,rfl,_⟩
 .exact⟨_,_,rfl⟩
 .exact⟨_,_,rfl⟩
theorem Jc.all {w:World}{g j:Nat}{us rest:List (Option Addr×Nat×Nat)}{u:Value}(h:Jc w g us (rest.map sv))(hc:w.cell? ⟨g,j,none⟩=some u):∃x:Option Addr×Nat×Nat,u=sv x:=by
 unfold Jc at h;rw[<-List.map_append]at h
 simp only[World.cell?,h,List.getElem?_toArray,List.getElem?_map]at hc
 cases hx:(us++rest)[j]? with
 | none=>rw[hx]at hc;simp at hc
 | some x=>rw[hx]at hc;simp at hc;exact⟨x,hc.symm⟩
theorem Jc.apart {w:World}{p:Option Addr}{n c N g:Nat}{us rest:List (Option Addr×Nat×Nat)}(hr:Jc w g us (rest.map sv))(h:Ah w p n c N)(h0:0<n):∀q,p=some q->q.block≠g:=by
 obtain⟨ws,r1,r2,r3,r4⟩:=h.ex;intro a ha hab;obtain⟨b',off,k1,k2,k3⟩:=r1.pos h0;rw[k1]at ha;cases ha
 have hbb:b'=g:=hab;subst hbb;have h1:=k3 0 (ws.getD 0 0) (by rw[De];simp[show 0<ws.length by rw[<-r1.len];exact h0]);rw[Nat.add_zero]at h1
 obtain⟨x,hx⟩:=hr.all h1;unfold sv at hx;cases hx
theorem Ki {w w':World}{p:Option Addr}{n c N:Nat}{v:Value}{us:List (Option Addr×Nat×Nat)}{B:Nat}(hr:Ec w B v us)(hg:w.grownBy w' v.ownBlock)(h:Ah w p n c N):Ah w' p n c N:=by
 rcases Nat.eq_zero_or_pos n with rfl|h0
 .obtain⟨ws,r1,r2,r3,r4⟩:=h.ex;refine⟨ws,⟨r1.len,r1.cap,r1.max,?_⟩,r2,r3,r4⟩;rcases r1.at_ with k|⟨b,off,k1,k2,k3⟩
  .exact .inl k
  .refine .inr ⟨b,off,k1,Dj k2 hg.size,fun i x hx=>?_⟩;have:ws=[]:=List.eq_nil_of_length_eq_zero r1.len.symm;rw[this]at hx;cases hx
 .refine Fe.stay h hg.size fun q hq o=>World.cell?_of_block (a:=⟨q.block,o,none⟩) (hg.block q.block (Fe.lt h q hq) fun e=>?_)
  rcases hr.ex with ⟨rfl,_⟩|⟨g,cap,rest,rfl,_,h2,_⟩
  .cases e
  .have e2:q.block=g:=by simpa [Value.ownBlock]using e
   exact h2.apart h h0 q hq e2
theorem Na (n:Nat):Builtin.zeroCells (Value.agg #[.slice none 0 0]).cells n=((List.replicate n ((none,0,0):Option Addr×Nat×Nat)).map sv).toArray:=by
 have:(Value.agg #[.slice none 0 0]).cells=#[.slice none 0 0]:=by simp[Value.cells]
 rw[this];unfold Builtin.zeroCells;rw[List.map_replicate];apply Array.ext';have h1:(fun i:Nat=>([Value.slice none 0 0]:List Value)[i%1]?.getD default)=fun _=>Value.slice none 0 0:=by funext i;simp[Nat.mod_one]
 simp[sv];rw[h1];rw[List.map_const',List.length_range]
theorem Ec.app {w:World}{B:Nat}{v:Value}{us:List (Option Addr×Nat×Nat)}(h:Ec w B v us){a:Addr}{c:Nat}{x:Option Addr×Nat×Nat}(hc:w.cell? a=some (sv x))(hB:B<=w.heap.size)(hl:us.length<=100000)(ty:TypeId) :
  ∃v' w',(Builtin.append_ #[32, 32] ty #[v,.slice (some a) 1 c]).run Tryz.prog w=.ok v' w'/\Ec w' B v' (us++[x])/\w.grownBy w' v.ownBlock/\Vg w v v':=by
 obtain⟨i,hi,hz,hs,hb⟩:=info_parts Tryz.info_Nat;have hu:=Tryz.underlying32;have ha0:a.add 0=a:=by obtain⟨b,o,s⟩:=a;simp[Addr.add]
 have hnew:∀j u,([sv x]:List Value)[j]? = some u->w.cell? (a.add j)=some u:=fun j u hj=>by
  cases j with
  | zero=>simp at hj;subst hj;rw[ha0];exact hc
  | succ j=>simp at hj
 have hby:i.bytes<=1000:=by rw[hb];decide
 have hzc:∀n,Builtin.zeroCells (Value.agg #[Value.slice none 0 0]).cells n=((List.replicate n ((none,0,0):Option Addr×Nat×Nat)).map sv).toArray:=Na;rcases h.ex with ⟨rfl,rfl⟩|⟨g,cap,rest,rfl,hbg,hx,hcap,hmx⟩
 .have hr:=run_append_nil (P:=Tryz.prog) (w:=w) 32 ty 36 i _ hu hi hz a 1 c [sv x] (by rw[hs];rfl) hnew (by decide) (by decide) (by omega);rw[hzc]at hr
  refine⟨_,_,hr,⟨.inr ⟨w.heap.size,grownCap w 1 0 36,List.replicate (grownCap w 1 0 36 - 1) (none,0,0),rfl,hB,?_,?_,?_⟩⟩,⟨rfl,rfl,rfl,by simp,fun k hk _=>((Be w.heap.size w).drew.alloc (Av _) _).block k hk⟩,.inr fun g hg=>?_⟩
  .unfold Jc;rw[show (w.drew.alloc (.cells ([sv x].toArray++((List.replicate (grownCap w 1 0 36 - 1) ((none,0,0):Option Addr×Nat×Nat)).map sv).toArray) 36)).heap[w.heap.size]? = some (.cells ([sv x].toArray++((List.replicate (grownCap w 1 0 36 - 1) ((none,0,0):Option Addr×Nat×Nat)).map sv).toArray) 36 (0,0)) from heap_alloc_new w.drew _];simp
  .have:=grownCap_ge w 1 0 36;simp;omega
  .have:=grownCap_le_maxLen w 1 0 36 (by decide);simpa [maxLen]using this
  .have:w.heap.size=g:=by simpa [Value.ownBlock]using hg
   omega
 .have hxb:=hx;unfold Jc at hxb
  cases rest with
  | nil=>
   have hcn:cap=us.length:=by simpa using hcap.symm
   subst hcn;have hgg:us.length<us.length+1:=by omega
   have hr:=run_append_grow (P:=Tryz.prog) (w:=w) 32 ty 36 i _ hu hi hz ⟨g,0,none⟩ us.length us.length (us.map sv) (by rw[hs];simp) (fun j u hj=>by
     rw[List.getElem?_map]at hj
     cases hy:us[j]? with
     | none=>rw[hy]at hj;cases hj
     | some y=>
      rw[hy]at hj;cases hj
      have:=hx.cell hy;rw[add_plain g 0 j,Nat.zero_add];exact this) a 1 c [sv x] (by rw[hs];rfl) hnew hgg (by omega) (growslice_fits hgg (Fo (Nat.mul_le_mul (by omega:us.length+1<=100001) hby) (by decide)))
   rw[hzc]at hr
   obtain⟨C,hC⟩:∃C,grownCap w (us.length+1) us.length 36 = C:=⟨_,rfl⟩
   have h1:=grownCap_ge w (us.length+1) us.length 36;have h2:=grownCap_le_maxLen w (us.length+1) us.length 36 (by simp[maxLen];omega);rw[hC]at hr h1 h2
   refine⟨_,_,hr,⟨.inr ⟨w.heap.size,C,List.replicate (C-(us.length+1)) (none,0,0),by rw[List.length_append];rfl,hB,?_,?_,by simpa [maxLen]using h2⟩⟩,⟨rfl,rfl,rfl,by simp,fun k hk _=>((Be w.heap.size w).drew.alloc (Av _) _).block k hk⟩,.inr fun g' hg'=>?_⟩
   .unfold Jc;rw[show (w.drew.alloc (.cells ((us.map sv).toArray++[sv x].toArray++((List.replicate (C-(us.length+1)) ((none,0,0):Option Addr×Nat×Nat)).map sv).toArray) 36)).heap[w.heap.size]? = some (.cells ((us.map sv).toArray++[sv x].toArray++((List.replicate (C-(us.length+1)) ((none,0,0):Option Addr×Nat×Nat)).map sv).toArray) 36 (0,0)) from heap_alloc_new w.drew _];simp
   .simp;omega
   .have:w.heap.size=g':=by simpa [Value.ownBlock]using hg'
    omega
  | cons r0 rest=>
   have hr:=run_append_room (P:=Tryz.prog) (w:=w) 32 ty 36 i hu hi g us.length cap _ hxb a 1 c [sv x] (by rw[hs];rfl) hnew (fun u hu'=>by simp at hu';subst hu';rfl) (by simp at hcap;omega) (by simp[hs]);refine⟨_,_,hr,⟨.inr ⟨g,cap,rest,by rw[List.length_append];rfl,hbg,?_,by simp at hcap ⊢;omega,hmx⟩⟩,⟨rfl,rfl,rfl,by simp,fun k hk hn=>setRow_other w g k _ (fun e=>hn (by rw[e];rfl))⟩,.inl rfl⟩;unfold Jc;rw[setRow_heap w g _ _ _ _ hxb];have h9:(us.map sv++sv r0::rest.map sv).drop (us.length+1)=rest.map sv:=by
    rw[show us.map sv++sv r0::rest.map sv=(us.map sv++[sv r0])++rest.map sv by simp];exact List.drop_left' (by simp)
   simp[hs,h9]
theorem Ec.plist {w:World}{B e:Nat}{v:Value}{us:List (Option Addr×Nat×Nat)}{Ns:List Nat}(h:Ec w B v us)(ht:Fq w e us Ns):∃p c,v=.slice p Ns.length c/\Bd w e p Ns.length c Ns:=by
 rcases h.ex with ⟨rfl,rfl⟩|⟨g,cap,rest,rfl,h1,h2,h3,h4⟩
 .have:Ns=[]:=List.eq_nil_of_length_eq_zero ht.len.symm;subst this;exact⟨_,_,rfl,⟨rfl,Av _,by omega,fun _=>rfl,fun h0=>by simp at h0⟩⟩
 .have hl:=ht.len;refine⟨some ⟨g,0,none⟩,cap,by rw[hl],⟨rfl,by omega,h4,(fun e=>by cases e),fun _=>⟨g,0,rfl,h2.lt,fun i N hN=>?_⟩⟩⟩;obtain⟨x,k1,k2,k3⟩:=ht.at_ i N hN
  exact⟨x.1,x.2.1,x.2.2,by rw[Nat.zero_add];exact h2.cell k1,k2,k3⟩
theorem Fq.grown {w w':World}{e B:Nat}{v:Value}{us us2:List (Option Addr×Nat×Nat)}{Ns:List Nat}(h:Fq w e us Ns)(hr:Ec w B v us2)(hg:w.grownBy w' v.ownBlock):Fq w' e us Ns :=
 ⟨h.len,fun i N hN=>let ⟨x,h1,h2,h3⟩:=h.at_ i N hN;⟨x,h1,Ki hr hg h2,h3⟩⟩
theorem Fq.snoc {w:World}{e N:Nat}{us:List (Option Addr×Nat×Nat)}{Ns:List Nat}{x:Option Addr×Nat×Nat}(h:Fq w e us Ns)(hx:Hq w x N)(hl:N<Am e):Fq w e (us++[x]) (Ns++[N]):=by
 refine⟨by simp[h.len],fun i M hM=>?_⟩;rcases Nat.lt_or_ge i Ns.length with hi|hi
 .rw[List.getElem?_append_left hi]at hM
  obtain⟨y,h1,h2⟩:=h.at_ i M hM
  exact⟨y,by rw[List.getElem?_append_left (by rw[h.len];exact hi)];exact h1,h2⟩
 .rw[List.getElem?_append_right hi]at hM
  obtain⟨t,ht⟩:∃t,i-Ns.length=t:=⟨_,rfl⟩
  rw[ht]at hM
  cases t with
  | zero=>
   simp at hM;subst hM;exact⟨x,by rw[List.getElem?_append_right (by rw[h.len];exact hi),h.len,ht];rfl,hx,hl⟩
  | succ t=>simp at hM
theorem Fq.nil (w:World)(e:Nat):Fq w e [] []:=⟨rfl,fun i N hN=>by simp at hN⟩
end Go.Proofs.YtnbmfaihlefgfaaGreatDoor
