/- The document's side of pledges: lists of numbers, one pledge, a value in the exponent; members (pledge.Members). -/
import Derived.Lib.SmallJoins
import Derived.Deep.LoopGhost
import Derived.Lib.AppendZeros
import Derived.Lib.Walk
import Derived.BigRegion
import Derived.Laws.Rows
import Derived.Laws.OwnMore
import Derived.Test.YtnbmfaihlefgfaaGreatDoorPlC
set_option maxRecDepth 1000000
set_option maxHeartbeats 16000000
set_option linter.all false
namespace Go.Proofs.YtnbmfaihlefgfaaGreatDoor
open Go Go.RowKit Go.Proofs.YtnbmfaihlefgfaaGreatDoor.Flow
structure KC (B:Nat) (w w':World):Prop where
 bel:Below B w w'
 cell:∀p v,w.cell? p=some v->w'.cell? p=some v
 shape:∀g s,w.shape? g=some s->w'.shape? g=some s
theorem nN (i:Nat)(hi:i<3):Aw (gP i)<=16:=by
 rw[Nr i hi]
 match i,hi with
 | 0,_=>decide
 | 1,_=>decide
 | 2,_=>decide
theorem oE:∀i,i<3->gQ i<gP i
 | 0,_=>by decide
 | 1,_=>by decide
 | 2,_=>by decide
 | _+3,h=>by omega
theorem nM (i:Nat)(hi:i<3):Aw (gQ i)<=16:=Nv.2 (Nat.lt_trans (oE i hi) (Nv.1 (nN i hi)))
theorem eT {N:Nat}(h:Aw N<=16):Al N<=100000:=by unfold Aw at h;omega
theorem Yn {w:World}{b P Q G H:Nat}(h:Bb w b P Q G H) :
  Calls Tryz.prog 20 #[.pointer (some ⟨b,0,none⟩)] w fun e w'=>∃x,e=.returned x/\kG Q x w'/\Below w.heap.size w w':=by
 refine(Hk h).mono ?_;rintro en w' ⟨r,rfl,hr,hb⟩;exact⟨_,rfl,⟨r,rfl,hr⟩,hb⟩
theorem Xm {w:World}{b P Q G H:Nat}(hg:Bb w b P Q G H) :
  Calls Tryz.prog 17 #[.pointer (some ⟨b,0,none⟩)] w fun e w'=>∃x,e=.returned x/\Fl P Q G H x w'/\Below w.heap.size w w':=by
 have hbx:Below w.heap.size w (w.alloc (.cells #[.slice none 0 0,.slice none 0 0,.slice none 0 0,.slice none 0 0] 30)):=Cy;have HBX:=Aa (Cv.made 30 w (.slice none 0 0) (.slice none 0 0) (.slice none 0 0) (.slice none 0 0));obtain⟨wa,hwa⟩:∃wa,w.alloc (.cells #[.slice none 0 0,.slice none 0 0,.slice none 0 0,.slice none 0 0] 30)=wa:=⟨_,rfl⟩
 rw[hwa]at hbx HBX
 have HG:=Aa (hg.below hbx);have HB:=Aa hbx;clear hg hbx;go_enter Tryz.func17,Tryz.ntmps17
 go_wp2_with fail
 refine(bQ HG.out).mono ?_;rintro en w1 ⟨x1,rfl,h1,b1⟩;have H1:=Aa h1;have HG1:=Aa (HG.out.below b1);have HB1:=Aa b1;clear h1 b1
 go_wp2_with fail
 refine(Jl H1.out (by decide)).mono ?_;rintro en w2 ⟨_,rfl,⟨p0,n0,c0,rfl,h2⟩,b2⟩;have H2:=Aa h2;have HG2:=Aa (HG1.out.below b2);have HB2:=Aa (Ae HB1.out b2);clear h2 b2
 go_wp2_with fail
 refine(Yn HG2.out).mono ?_;rintro en w3 ⟨x3,rfl,h3,b3⟩;have H23:=Aa (H2.out.below b3);have HG3:=Aa (HG2.out.below b3);have HB3:=Aa (Ae HB2.out b3);obtain⟨r,rfl,hr3⟩:=h3.ex;have H3:Ac (Ring w3 r Q 33):=⟨hr3⟩
 clear h3 hr3 b3
 go_wp2_with fail
 refine(Fa H3.out).mono ?_;rintro en w4 ⟨x4,rfl,h4,b4⟩;have H24:=Aa (H23.out.below b4);have H4:=Aa h4;have HG4:=Aa (HG3.out.below b4);have HB4:=Aa (Ae HB3.out b4);clear h4 b4
 go_wp2_with fail
 refine(Jl H4.out (by decide)).mono ?_;rintro en w5 ⟨_,rfl,⟨p1,n1,c1,rfl,h5⟩,b5⟩;have H25:=Aa (H24.out.below b5);have H5:=Aa h5;have HG5:=Aa (HG4.out.below b5);have HB5:=Aa (Ae HB4.out b5);clear h5 b5
 go_wp2_with fail
 refine(bR HG5.out).mono ?_;rintro en w6 ⟨x6,rfl,h6,b6⟩;have H26:=Aa (H25.out.below b6);have H56:=Aa (H5.out.below b6);have H6:=Aa h6;have HG6:=Aa (HG5.out.below b6);have HB6:=Aa (Ae HB5.out b6);clear h6 b6
 go_wp2_with fail
 refine(Jl H6.out (by decide)).mono ?_;rintro en w7 ⟨_,rfl,⟨p2,n2,c2,rfl,h7⟩,b7⟩;have H27:=Aa (H26.out.below b7);have H57:=Aa (H56.out.below b7);have H7:=Aa h7;have HG7:=Aa (HG6.out.below b7);have HB7:=Aa (Ae HB6.out b7);clear h7 b7
 go_wp2_with fail
 refine(jC HG7.out).mono ?_;rintro en w8 ⟨x8,rfl,h8,b8⟩;have H28:=Aa (H27.out.below b8);have H58:=Aa (H57.out.below b8);have H78:=Aa (H7.out.below b8);have H8:=Aa h8;have HB8:=Aa (Ae HB7.out b8);clear h8 b8
 go_wp2_with fail
 refine(Jl H8.out (by decide)).mono ?_;rintro en w9 ⟨_,rfl,⟨p3,n3,c3,rfl,h9⟩,b9⟩;have H29:=Aa (H28.out.below b9);have H59:=Aa (H58.out.below b9);have H79:=Aa (H78.out.below b9);have H9:=Aa h9;have HB9:=Aa (Ae HB8.out b9);have hbx9:=HBX.out.below HB9.out HBX.out.lt;have g0:=hbx9.cells.1;have g1:=hbx9.cells.2.1;have g2:=hbx9.cells.2.2.1;have g3:=hbx9.cells.2.2.2;have f0:=hbx9.free;clear h9 b9;go_wp2;obtain⟨wf,hwf⟩:∃wf,wf=(((w9.setCell ⟨w.heap.size,0,none⟩ (.slice p0 n0 c0)).setCell ⟨w.heap.size,1,none⟩ (.slice p1 n1 c1)).setCell ⟨w.heap.size,2,none⟩ (.slice p2 n2 c2)).setCell ⟨w.heap.size,3,none⟩ (.slice p3 n3 c3):=⟨_,rfl⟩
 have hkp:Gt w9 wf:=by rw[hwf];exact eR (x0:=(none,0,0)) (x1:=(none,0,0)) (x2:=(none,0,0)) (x3:=(none,0,0)) hbx9 _ _ _ _
 have hst:=Hy hbx9 hwf;have e0:=hst.1.cells.1;have e1:=hst.1.cells.2.1;have e2:=hst.1.cells.2.2.1;have e3:=hst.1.cells.2.2.2;have hbf:=hst.2.2 w.heap.size w (Ae HB.out HB9.out) (Av _);rw[<-hwf];refine bodyPost_ret (v:=.agg #[.slice p0 n0 c0,.slice p1 n1 c1,.slice p2 n2 c2,.slice p3 n3 c3]) (by simp[results,Tryz.results17,go_sem,e0,e1,e2,e3]) rfl ⟨_,rfl,⟨p0,n0,c0,p1,n1,c1,p2,n2,c2,p3,n3,c3,rfl,Ny.kept H29.out hkp,Ny.kept H59.out hkp,Ny.kept H79.out hkp,Ny.kept H9.out hkp⟩,hbf⟩
theorem Ia {w:World}{v u t:Value}{P Q G H A E:Nat}(h:Fl P Q G H v w)(hu:Ap A u w)(ht:Ap E t w)(lA:Al A<=100000)(lE:Al E<=100000)(lP:Al P<=100000)(hP:0<P) :
  Calls Tryz.prog 72 #[v,u,t] w fun e w'=>∃x,e=.returned x/\Ap (A^E%P) x w'/\Below w.heap.size w w':=by
 obtain⟨p0,n0,c0,p1,n1,c1,p2,n2,c2,p3,n3,c3,rfl,h0,h1,h2,h3⟩:=h.ex;have hbx:Below w.heap.size w (w.alloc (.cells #[.slice p0 n0 c0,.slice p1 n1 c1,.slice p2 n2 c2,.slice p3 n3 c3] 30)):=Cy;have hbo:=Cv.made 30 w (.slice p0 n0 c0) (.slice p1 n1 c1) (.slice p2 n2 c2) (.slice p3 n3 c3);obtain⟨wa,hwa⟩:∃wa,w.alloc (.cells #[.slice p0 n0 c0,.slice p1 n1 c1,.slice p2 n2 c2,.slice p3 n3 c3] 30)=wa:=⟨_,rfl⟩
 rw[hwa]at hbx hbo
 have HB:=Aa hbx;have HBX:=Aa hbo;have HV:Ac (Fl P Q G H (.agg #[.slice p0 n0 c0,.slice p1 n1 c1,.slice p2 n2 c2,.slice p3 n3 c3]) wa):=⟨⟨p0,n0,c0,p1,n1,c1,p2,n2,c2,p3,n3,c3,rfl,h0.below hbx,h1.below hbx,h2.below hbx,h3.below hbx⟩⟩
 obtain⟨q0,m0,d0,rfl,hu0⟩:=hu;obtain⟨q1,m1,d1,rfl,ht0⟩:=ht;have HC:=Aa (jL (Ap.of (hu0.below hbx)) (Ap.of (ht0.below hbx)) (Ap.of (h0.below hbx)) lA lE lP hP);have g0:=HBX.out.cells.1;clear h h0 h1 h2 h3 hbx hbo hu0 ht0 lA lE lP hP;go_enter Tryz.func72,Tryz.ntmps72
 go_wp2_with fail
 refine HC.out.mono ?_;rintro en w1 ⟨x,rfl,hx,hb1⟩;have HX:=Aa hx;have HB1:=Aa (Ae HB.out hb1);clear hx hb1 g0;go_wp2;go_ret;exact⟨x,rfl,HX.out,HB1.out⟩
theorem Pw {w:World}{v u t:Value}{P Q G H A E:Nat}(h:Fl P Q G H v w)(hu:Ap A u w)(ht:Ap E t w)(lA:Al A<=100000)(lE:Al E<=100000)(lP:Al P<=100000)(hP:0<P) :
  Calls Tryz.prog 100 #[v,u,t] w fun e w'=>∃x,e=.returned x/\Ap (A*E%P) x w'/\Below w.heap.size w w':=by
 obtain⟨p0,n0,c0,p1,n1,c1,p2,n2,c2,p3,n3,c3,rfl,h0,h1,h2,h3⟩:=h.ex;have hbx:Below w.heap.size w (w.alloc (.cells #[.slice p0 n0 c0,.slice p1 n1 c1,.slice p2 n2 c2,.slice p3 n3 c3] 30)):=Cy;have hbo:=Cv.made 30 w (.slice p0 n0 c0) (.slice p1 n1 c1) (.slice p2 n2 c2) (.slice p3 n3 c3);obtain⟨wa,hwa⟩:∃wa,w.alloc (.cells #[.slice p0 n0 c0,.slice p1 n1 c1,.slice p2 n2 c2,.slice p3 n3 c3] 30)=wa:=⟨_,rfl⟩
 rw[hwa]at hbx hbo
 have HB:=Aa hbx;have HBX:=Aa hbo;have HV:Ac (Fl P Q G H (.agg #[.slice p0 n0 c0,.slice p1 n1 c1,.slice p2 n2 c2,.slice p3 n3 c3]) wa):=⟨⟨p0,n0,c0,p1,n1,c1,p2,n2,c2,p3,n3,c3,rfl,h0.below hbx,h1.below hbx,h2.below hbx,h3.below hbx⟩⟩
 obtain⟨q0,m0,d0,rfl,hu0⟩:=hu;obtain⟨q1,m1,d1,rfl,ht0⟩:=ht;have HC:=Aa (Sc (Ap.of (hu0.below hbx)) (Ap.of (ht0.below hbx)) (Ap.of (h0.below hbx)) lA lE lP hP);have g0:=HBX.out.cells.1;clear h h0 h1 h2 h3 hbx hbo hu0 ht0 lA lE lP hP;go_enter Tryz.func100,Tryz.ntmps100
 go_wp2_with fail
 refine HC.out.mono ?_;rintro en w1 ⟨x,rfl,hx,hb1⟩;have HX:=Aa hx;have HB1:=Aa (Ae HB.out hb1);clear hx hb1 g0;go_wp2;go_ret;exact⟨x,rfl,HX.out,HB1.out⟩
theorem iM {w:World}{p:Option Addr}{n c e N:Nat}(h1:Ah w p n c N)(h2:N<Ao e)(he:e<=200) :
  Calls Tryz.prog 46 #[.agg #[.slice p n c]] w fun en w'=>∃q m d,en=.returned (.slice q m d)/\Bi w' q m d N/\Below w.heap.size w w'/\Eh w.heap.size q:=by
 have hbx:=Cu.mk1 w (.slice p n c) 36;have HF:=Aa ((Fit.of h1 h2).below hbx.bel);have HB:=Aa hbx.bel;have hl:Ac (Aw N<=1000):=⟨by
  have:Al N<=32*e:=(Bc N _).2 (by
   have:Ao e=2^(32*e):=by unfold Ao;rw[Nat.pow_mul]
   rw[<-this];exact h2)
  unfold Aw;omega⟩
 clear h1 h2 hbx;go_enter Tryz.func46,Tryz.ntmps46
 go_wp2_with fail
 refine(Ue HF.out (by omega)).mono ?_;rintro en w1 ⟨_,rfl,⟨q,m,d,rfl,hr⟩,b1⟩;have HR:Ac (Bq w1 .u8 q m d (Do N (Aw N))):=⟨⟨hr.len,hr.cap,hr.max,fun _=>hr⟩⟩
 have HM:Ac (m<=1000):=⟨by rw[hr.len,Lc];exact hl.out⟩
 have HB1:=Aa (Ae HB.out b1);clear hr b1
 go_wp2_with fail
 refine(Xy w1 q m d _ HR.out (Mm N _).reverse HM.out).mono ?_;rintro en w2 ⟨x,y,z,rfl,hb,b2,hnw⟩;rw[Zt]at hb
 have HN:=Aa hb;have HB2:=Aa (Ae HB1.out b2);have HW:Ac (Eh w.heap.size x):=⟨fun q hq=>Fb HB1.out.size (hnw q hq)⟩
 clear hb b2 hnw;go_wp2;go_ret;exact⟨_,_,_,rfl,HN.out,HB2.out,HW.out⟩
theorem fH (w:World)(t:TypeId)(u:Value):(w.alloc (.cells #[u] t)).cell? ⟨w.heap.size,0,none⟩=some u:=by
 have h:(w.alloc (.cells #[u] t)).heap[w.heap.size]? = some (.cells #[u] t (0,0)):=by
  show (w.heap.push _)[w.heap.size]? = _;simp
 generalize w.alloc (.cells #[u] t)=w2 at h;generalize w.heap.size=b at h;simp[World.cell?,h]
def Nl (P Q N:Nat):Bool:=decide (0<N/\N<P/\N^Q%P=1)
theorem Qb (p:Nat->Bool):∀l:List Nat,(!l.any fun x=>!p x)=l.all p
 | []=>rfl
 | a::l=>by
  have:=Qb p l;simp only[List.any_cons,List.all_cons];rw[<-this];cases p a<;>simp
theorem Vc {w:World}{p:Option Addr}{n c e:Nat}{xs:List Nat}(h:Bd w e p n c xs)(he:e<=200)(hn:n<=1000) :
  Calls Tryz.prog 63 #[.slice p n c] w fun en w'=>∃q d,en=.returned (.slice q n d)/\Qd w' q n d xs/\Below w.heap.size w w':=by
 have HX:=Aa h;have HLn:=Aa h.len;have hcap:n<=c:=h.cap;have hmax:c<=9223372036854775807:=h.max;clear h;go_enter Tryz.func63,Tryz.ntmps63;go_wp2
 go_loopw [3,5,8] (fun vv _ iv wr=>∃(k:Nat) (bad:Nat->Prop),k<=n/\iv=.int .i64 k/\Ac (Below w.heap.size w wr)/\Ac (∀g,bad g->g<wr.heap.size)/\Ac (Ek Bi 28 w.heap.size bad wr vv (xs.take k))/\Ac (∀g,vv.ownBlock=some g->bad g)) (fun _ _ iv _=>n-(intOf iv).toNat)
 case atStart=>exact⟨0,fun _=>False,by omega,rfl,⟨Bg _ _⟩,⟨fun _ h=>h.elim⟩,⟨Ek.nil⟩,⟨fun g h=>by cases h⟩⟩
 case round=>
  obtain⟨k,bad,hk,rfl,HB,HLT,HO,HV⟩:=hrel
  by_cases hkn:k<n
  .obtain⟨S,hSk⟩:∃s,xs[k]? = some s:=⟨xs[k]'(by rw[<-HLn.out];exact hkn),List.getElem?_eq_getElem _⟩
   obtain⟨bb,off,rfl,hb,hc⟩:=HX.out.at_ (by omega)
   obtain⟨px,nx,cx,hc1,hc2,hc3⟩:=hc k S hSk;have hx:wr.cell? ⟨bb,off+k,none⟩=some (.slice px nx cx):=(HB.out.cell (p:=⟨bb,off+k,none⟩) hb).trans hc1;have HTk:Ac (xs.take (k+1)=xs.take k++[S]):=⟨Ez hSk⟩
   have HTl:Ac ((xs.take k).length<=1000000):=⟨by rw[List.length_take];omega⟩
   have HSU:Ac (S<Ao e):=⟨hc3⟩
   have hkn':(k:Int)<n:=by omega
   have hb2:Below wr.heap.size wr (wr.alloc (.cells #[.slice px nx cx] 36)):=Cy;have hx2:(wr.alloc (.cells #[.slice px nx cx] 36)).cell? ⟨wr.heap.size,0,none⟩=some (.slice px nx cx):=(Af.made wr (.slice px nx cx)).cell;have HNX:Ac (Ah (wr.alloc (.cells #[.slice px nx cx] 36)) px nx cx S):=⟨(hc2.below HB.out).below hb2⟩
   obtain⟨w2,hw2⟩:∃w2,wr.alloc (.cells #[.slice px nx cx] 36)=w2:=⟨_,rfl⟩
   rw[hw2]at hb2 hx2 HNX
   clear hc hSk hb hc1 hc2 hc3
   go_wp2_with fail
   refine(iM HNX.out HSU.out he).mono ?_;rintro en w3 ⟨q,m,d,rfl,hn3,b3,hnew⟩;have hb23:=Ae hb2 b3;have hnew2:Eh wr.heap.size q:=fun a ha=>Fb hb2.size (hnew a ha)
   have hb4:Below w3.heap.size w3 (w3.alloc (.cells #[.slice q m d] 28)):=Cy;have hx4:(w3.alloc (.cells #[.slice q m d] 28)).cell? ⟨w3.heap.size,0,none⟩=some (.slice q m d):=fH _ _ _;obtain⟨w4,hw4⟩:∃w4,w3.alloc (.cells #[.slice q m d] 28)=w4:=⟨_,rfl⟩
   rw[hw4]at hb4 hx4
   have hb34:=Ae hb23 hb4;have hB4:=Ae HB.out hb34;have hfirm:Je (fun w=>Bi w q m d S) bad w4:=cI.fresh (hn3.below hb4) hnew2 HLT.out;obtain⟨i1,hi1,hz1,hs1,hbb1⟩:=info_parts Tryz.info_N;refine(HO.out.below hb34).app2 (x:=(q,m,d)) Tryz.underlying47 hi1 hz1 hs1 hbb1 rfl (by decide) hB4.size hx4 hfirm HV.out (fun g hg=>Dq (HLT.out g hg) hb34.size) HTl.out 47 (c:=1) ?_;intro v9 w9 bad9 happ ho9 hg9 m1 m2 m3 m4;have HO9:=Aa ho9;have HB9:Ac (Below w.heap.size w w9):=⟨hB4.grown hg9 hB4.size fun g hg=>(HO.out.block g hg).1⟩
   have HLT9:=Aa m4;have HV9:=Aa m3;clear hb4 hx4 hb34 hb23 hB4 hfirm hi1 hz1 hs1 hbb1 ho9 hg9 m1 m2 m3 m4 b3 hn3 hnew hnew2 hb2 hx2
   go_wp2_with (at_builtin;refine Lib.wpList_append_run _ rfl _ _ _ _ rfl _ _ rfl rfl _ _ happ ?_;refine Sp.out ?_)
   refine⟨?_⟩;clear happ;go_wp2;go_roundw
   case rel=>exact⟨k+1,bad9,by omega,by go_num,HB9,HLT9,⟨by rw[HTk.out];exact HO9.out⟩,HV9⟩
   case measure=>simp[intOf];omega
  .obtain rfl:k=n:=by omega
   have hkn':¬(k:Int)<k:=by omega
   have htk:xs.take k=xs:=List.take_of_length_le (by rw[<-HLn.out];exact Av _);rw[htk]at HO
   obtain⟨q,d,rfl,hp⟩:=HO.out.nlist;have HP:Ac (Qd wr q k d xs):=⟨by have e:=HLn.out;rw[<-e]at hp;exact hp⟩
   have e9:xs.length=k:=HLn.out.symm;rw[e9];clear htk hp e9;go_wp2;go_ret;exact⟨q,d,rfl,HP.out,HB.out⟩
structure nU (n:Nat) (xs:List Nat) (v:Value) (w:World):Prop where
 ex:∃q d,v=.slice q n d/\Qd w q n d xs
theorem nU.below {n:Nat}{xs:List Nat}{v:Value}{w w':World}(h:nU n xs v w)(hb:Below w.heap.size w w'):nU n xs v w' :=
 let ⟨q,d,h1,h2⟩:=h.ex;⟨q,d,h1,h2.below hb⟩
theorem aV {w:World}{p:Option Addr}{n c e:Nat}{xs:List Nat}(h:Bd w e p n c xs)(he:e<=200)(hn:n<=1000) :
  Calls Tryz.prog 63 #[.slice p n c] w fun en w'=>∃u,en=.returned u/\nU n xs u w'/\Below w.heap.size w w' :=
 (Vc h he hn).mono fun _ _ ⟨q,d,h1,h2,h3⟩=>⟨_,h1,⟨q,d,rfl,h2⟩,h3⟩
theorem Xs {w:World}{bg P Q G H:Nat}(b:Nat)(e:Nat)(Ns:List Nat)(hb:b<w.heap.size)(hc:w.cell? ⟨b,0,none⟩=some (.pointer (some ⟨bg,0,none⟩)))(hg:Bb w bg P Q G H)(he:e<=30000) :
  Asks 137 #[.pointer (some ⟨b,0,none⟩)] w e Ns (fun N=>!Nl P Q N):=by
 refine⟨fun W N u hbw _ hu=>?_⟩;have hc':W.cell? ⟨b,0,none⟩=some (.pointer (some ⟨bg,0,none⟩)):=(hbw.cell (p:=⟨b,0,none⟩) hb).trans hc;obtain⟨pu,nu,cu,rfl,hu1,hu2⟩:=hu;have hbx:=Cu.mk1 W (.slice pu nu cu) 36;have hbW:b<W.heap.size:=Dq hb hbw.size;have hc2:(W.alloc (.cells #[.slice pu nu cu] 36)).cell? ⟨b,0,none⟩=some (.pointer (some ⟨bg,0,none⟩)):=(hbx.bel.cell (p:=⟨b,0,none⟩) hbW).trans hc';have HA:=Aa ((Fit.of hu1 hu2).below hbx.bel);have HG:=Aa ((hg.below hbw).below hbx.bel);have HBX:=Aa hbx.bel;clear hu1 hu2 hbx hc' hc hg;go_enter Tryz.func137,Tryz.ntmps137
 go_wp2_with fail
 refine(Pt HG.out HA.out he).mono ?_;rintro en w1 ⟨rfl,hb1⟩;obtain⟨X,hX⟩:∃X,decide (0<N/\N<P/\N^Q%P=1)=X:=⟨_,rfl⟩
 have HE:Ac (Nl P Q N=X):=⟨hX⟩
 rw[hX];have HB1:=Aa (Ae HBX.out hb1);clear hb1 hc2 hX;go_wp2;go_ret;exact⟨by rw[HE.out];rfl,HB1.out⟩
theorem Vg {w:World}{bg P Q G H e n c:Nat}{p:Option Addr}{Ns:List Nat}(hg:Bb w bg P Q G H)(h:Bd w e p n c Ns)(he:e<=30000) :
  Calls Tryz.prog 75 #[.pointer (some ⟨bg,0,none⟩),.slice p n c] w fun en w'=>en=.returned (.bool (Ns.all (Nl P Q)))/\Below w.heap.size w w':=by
 have hbx:=Cu.mk1 w (.pointer (some ⟨bg,0,none⟩)) 25;have HP:=Aa (h.below hbx.bel);have HA:=Aa (Xs (w:=w.alloc (.cells #[.pointer (some ⟨bg,0,none⟩)] 25)) w.heap.size e Ns (by simp) hbx.c0 (hg.below hbx.bel) he);have HBX:=Aa hbx.bel;obtain⟨X,hX⟩:∃X,(Ns.any fun N=>!Nl P Q N)=X:=⟨_,rfl⟩
 have HE:Ac (Ns.all (Nl P Q) = !X):=⟨by rw[<-hX,Qb]⟩
 have HX:=Aa hX;clear h hbx hg hX;go_enter Tryz.func75,Tryz.ntmps75
 go_wp2_with fail
 refine(Jm _ e p n c Ns _ _ (enters_of Tryz.func137 (by kernel_rfl) rfl) _ HP.out HA.out).mono ?_;rintro en w1 ⟨rfl,hb1⟩;rw[HX.out];have HB1:=Aa (Ae HBX.out hb1);clear hb1;go_wp2;go_ret;exact⟨by rw[HE.out];rfl,HB1.out⟩
theorem Yy {w:World}{v vs vr:Value}{P Q G H S R N:Nat}(h:Fl P Q G H v w)(hs:Ap S vs w)(hr:Ap R vr w)(lS:Al S<=100000)(lR:Al R<=100000)(lP:Al P<=100000)(lG:Al G<=100000)(lH:Al H<=100000)(hP:0<P)(hN:G^S%P*(H^R%P)%P=N) :
  Calls Tryz.prog 71 #[v,vs,vr] w fun e w'=>∃x,e=.returned x/\Ap N x w'/\Below w.heap.size w w':=by
 obtain⟨p0,n0,c0,p1,n1,c1,p2,n2,c2,p3,n3,c3,rfl,h0,h1,h2,h3⟩:=h.ex;have hbx:Below w.heap.size w (w.alloc (.cells #[.slice p0 n0 c0,.slice p1 n1 c1,.slice p2 n2 c2,.slice p3 n3 c3] 30)):=Cy;have hbo:=Cv.made 30 w (.slice p0 n0 c0) (.slice p1 n1 c1) (.slice p2 n2 c2) (.slice p3 n3 c3);obtain⟨wa,hwa⟩:∃wa,w.alloc (.cells #[.slice p0 n0 c0,.slice p1 n1 c1,.slice p2 n2 c2,.slice p3 n3 c3] 30)=wa:=⟨_,rfl⟩
 rw[hwa]at hbx hbo
 have HB:=Aa hbx;have HBX:=Aa hbo;have HV:Ac (Fl P Q G H (.agg #[.slice p0 n0 c0,.slice p1 n1 c1,.slice p2 n2 c2,.slice p3 n3 c3]) wa):=⟨⟨p0,n0,c0,p1,n1,c1,p2,n2,c2,p3,n3,c3,rfl,h0.below hbx,h1.below hbx,h2.below hbx,h3.below hbx⟩⟩
 obtain⟨qs,ms,ds,rfl,hs⟩:=hs;obtain⟨qr,mr,dr,rfl,hr⟩:=hr;have HS:=Aa (Ap.of (hs.below hbx));have HR:=Aa (Ap.of (hr.below hbx));have HGB:=Aa (Ap.of (h2.below hbx));have HHB:=Aa (Ap.of (h3.below hbx));obtain⟨NS,hNS⟩:∃Z,G^S%P=Z:=⟨_,rfl⟩
 obtain⟨NR,hNR⟩:∃Z,H^R%P=Z:=⟨_,rfl⟩
 obtain⟨NN,hNN⟩:∃Z,N=Z:=⟨_,rfl⟩
 rw[hNS,hNR,hNN]at hN
 rw[hNN];have HNS:=Aa hNS;have HNR:=Aa hNR;have HNN:=Aa hN;have HSl:=Aa lS;have HRl:=Aa lR;have HPl:=Aa lP;have HGl:=Aa lG;have HHl:=Aa lH;have HP0:=Aa hP;have HNSl:Ac (Al NS<=100000):=⟨Fb (Co (by rw[<-hNS];exact Nat.le_of_lt (Nat.mod_lt _ hP))) lP⟩
 have HNRl:Ac (Al NR<=100000):=⟨Fb (Co (by rw[<-hNR];exact Nat.le_of_lt (Nat.mod_lt _ hP))) lP⟩
 clear h h0 h1 h2 h3 hbx hbo hs hr hNS hNR hN hNN lS lR lP lG lH hP;go_enter Tryz.func71,Tryz.ntmps71;go_wp2;refine Aj (by kernel_rfl) (by kernel_rfl)
  [some (.agg #[.slice p0 n0 c0,.slice p1 n1 c1,.slice p2 n2 c2,.slice p3 n3 c3]),some (.agg #[.slice p0 n0 c0,.slice p1 n1 c1,.slice p2 n2 c2,.slice p3 n3 c3]),some (.pointer (some ⟨w.heap.size,2,none⟩)),some (.slice p2 n2 c2),some (.slice qs ms ds),none,some (.agg #[.slice p0 n0 c0,.slice p1 n1 c1,.slice p2 n2 c2,.slice p3 n3 c3]),some (.pointer (some ⟨w.heap.size,3,none⟩)),some (.slice p3 n3 c3),some (.slice qr mr dr),none,none,none]
  [false,false,false,false,false,true,false,false,false,false,true,true,true] rfl
  (fun w1 w2=>Below w1.heap.size w1 w2)
  (fun _ w'=>Below wa.heap.size wa w')
  (fun i v w'=>match i with
   | 5=>Ap NS v w'
   | 10=>Ap NR v w'
   | 11=>Ap NN v w'
   | 12=>Ap NN v w'
   | _=>True)
  ?_ (Bg _ _).drew ?_ ?_
 .intro i v w1 w2 hf hb;split at hf
  .exact hf.below hb
  .exact hf.below hb
  .exact hf.below hb
  .exact hf.below hb
  .trivial
 .simp only[Bh,Nat.reduceAdd];refine⟨?_,?_,?_,?_,?_,?_,?_,?_,?_,?_,?_,?_,?_,trivial⟩
  all_goals intro D sp w' hD hW hdp hbx'
  case refine_1|refine_2|refine_7=>
   have hB4:=HBX.out.below hbx' HBX.out.lt;have g0:=hB4.cells.1;have g1:=hB4.cells.2.1;have g2:=hB4.cells.2.2.1;have g3:=hB4.cells.2.2.2
   with_reducible refine Ad ?_ ?_
   all_goals simp[Region.wanted,yielded,execOp,Act.eval,Act.put,go_sem,g0,g1,g2,g3]
  case refine_4=>
   have hB4:=HBX.out.below hbx' HBX.out.lt;have g2:=hB4.cells.2.2.1
   with_reducible refine Ad ?_ ?_
   all_goals simp[Region.wanted,yielded,execOp,Act.eval,Act.put,go_sem,g2]
  case refine_6=>
   (with_reducible refine Ab (w1:=w') (f := 72) (args:=#[.agg #[.slice p0 n0 c0,.slice p1 n1 c1,.slice p2 n2 c2,.slice p3 n3 c3],.slice p2 n2 c2,.slice qs ms ds]) ?_ ?_ ?_)
   .simp[Region.wanted,yielded,Act.put,go_sem]
   .simp[Act.eval,Act.put,go_sem]
   .refine(Ia (HV.out.below hbx') (HGB.out.below hbx') (HS.out.below hbx') HGl.out HSl.out HPl.out HP0.out).mono ?_;rintro en w9 ⟨u,rfl,hu,hb⟩;rw[HNS.out]at hu
    exact⟨u,rfl,hb,hu,Ae hbx' hb⟩
  case refine_9=>
   have hB4:=HBX.out.below hbx' HBX.out.lt;have g3:=hB4.cells.2.2.2
   with_reducible refine Ad ?_ ?_
   all_goals simp[Region.wanted,yielded,execOp,Act.eval,Act.put,go_sem,g3]
  case refine_11=>
   (with_reducible refine Ab (w1:=w') (f := 72) (args:=#[.agg #[.slice p0 n0 c0,.slice p1 n1 c1,.slice p2 n2 c2,.slice p3 n3 c3],.slice p3 n3 c3,.slice qr mr dr]) ?_ ?_ ?_)
   .simp[Region.wanted,yielded,Act.put,go_sem]
   .simp[Act.eval,Act.put,go_sem]
   .refine(Ia (HV.out.below hbx') (HHB.out.below hbx') (HR.out.below hbx') HHl.out HRl.out HPl.out HP0.out).mono ?_;rintro en w9 ⟨u,rfl,hu,hb⟩;rw[HNR.out]at hu
    exact⟨u,rfl,hb,hu,Ae hbx' hb⟩
  case refine_12=>
   have k5:Ap NS (sp 5) w':=(hdp 5 (mq (by kernel_rfl))).2;have k10:Ap NR (sp 10) w':=(hdp 10 (mq (by kernel_rfl))).2
   (with_reducible refine Ab (w1:=w') (f := 100) (args:=#[.agg #[.slice p0 n0 c0,.slice p1 n1 c1,.slice p2 n2 c2,.slice p3 n3 c3],sp 5,sp 10]) ?_ ?_ ?_)
   .simp[Region.wanted,yielded,Act.put,go_sem]
   .simp[Act.eval,Act.put,go_sem]
   .refine(Pw (HV.out.below hbx') k5 k10 HNSl.out HNRl.out HPl.out HP0.out).mono ?_;rintro en w9 ⟨u,rfl,hu,hb⟩;rw[HNN.out]at hu
    exact⟨u,rfl,hb,hu,Ae hbx' hb⟩
  case refine_13=>
   have k11:Ap NN (sp 11) w':=(hdp 11 (mq (by kernel_rfl))).2
   (with_reducible refine Ai (w1:=w') (v:=sp 11) ?_ ?_ ?_)
   .simp[Region.wanted,yielded,Act.put,go_sem]
   .simp[execOp,Act.eval,Act.put,go_sem]
   .exact⟨Bg _ _,k11,hbx'⟩
  all_goals ((with_reducible refine Ad ?_ ?_);all_goals first|(simp only[Region.wanted];done)|simp[Region.wanted,yielded,execOp,Act.eval,Act.put,go_sem])
 .intro sp w4 hsp hb;obtain⟨qc,mc,dc,ec,hc⟩:Ap NN (sp 12) w4:=hsp 12 rfl;have HC:=Aa (Ap.of hc);have HB4:=Aa (Ae HB.out hb);clear hsp hc hb;simp only[Am,Nat.reduceAdd];rw[ec];clear ec;generalize sp 5=y5,sp 10=y10,sp 11=y11 at *
  go_simp
  go_wp2;go_ret;exact⟨_,rfl,HC.out,HB4.out⟩
theorem We {w:World}{v vx:Value}{P Q G H X n c:Nat}{p:Option Addr}{cs:List Nat}(h:Fl P Q G H v w)(hC:Qd w p n c cs)(hX:Ap X vx w)(lX:Al X<=100000)(lQ:Al Q<=100000)(lP:Al P<=100000)(hP:2<=P)(hQ:0<Q)(hc:∀x∈cs,Al x<=100000)(hn:n<=1000) :
  Calls Tryz.prog 68 #[v,.slice p n c,vx] w fun e w'=>∃x,e=.returned x/\Ap (Gm P (X%Q) cs) x w'/\Below w.heap.size w w':=by
 obtain⟨p0,n0,c0,p1,n1,c1,p2,n2,c2,p3,n3,c3,rfl,h0,h1,h2,h3⟩:=h.ex;have hbx:Below w.heap.size w (w.alloc (.cells #[.slice p0 n0 c0,.slice p1 n1 c1,.slice p2 n2 c2,.slice p3 n3 c3] 30)):=Cy;have hbo:=Cv.made 30 w (.slice p0 n0 c0) (.slice p1 n1 c1) (.slice p2 n2 c2) (.slice p3 n3 c3);obtain⟨wa,hwa⟩:∃wa,w.alloc (.cells #[.slice p0 n0 c0,.slice p1 n1 c1,.slice p2 n2 c2,.slice p3 n3 c3] 30)=wa:=⟨_,rfl⟩
 rw[hwa]at hbx hbo
 have HB:=Aa hbx;have HBX:=Aa hbo;have HV:Ac (Fl P Q G H (.agg #[.slice p0 n0 c0,.slice p1 n1 c1,.slice p2 n2 c2,.slice p3 n3 c3]) wa):=⟨⟨p0,n0,c0,p1,n1,c1,p2,n2,c2,p3,n3,c3,rfl,h0.below hbx,h1.below hbx,h2.below hbx,h3.below hbx⟩⟩
 obtain⟨qx,mx,dx,rfl,hx⟩:=hX;have HX0:=Aa (Ap.of (hx.below hbx));have HQB:=Aa (Ap.of (h1.below hbx));have HCS:=Aa (hC.below hbx);have HLN:=Aa hC.len;have HCl:=Aa hc;have HPl:=Aa lP;have HQl:=Aa lQ;have HXl0:=Aa lX;have HP2:=Aa hP;have HP0:Ac (0<P):=⟨by omega⟩
 have HQ0:=Aa hQ;have hcap:n<=c:=hC.cap;have hmax:c<=9223372036854775807:=hC.max;obtain⟨x,hxq⟩:∃x,X%Q=x:=⟨_,rfl⟩
 have HXQ:=Aa hxq;have HXl:Ac (Al x<=100000):=⟨Fb (Co (by rw[<-hxq];exact Nat.le_of_lt (Nat.mod_lt _ hQ))) lQ⟩
 rw[hxq];have g1:=HBX.out.cells.2.1;clear h h0 h1 h2 h3 hbx hbo hx hC hc lP lQ lX hP hQ hxq;go_enter Tryz.func68,Tryz.ntmps68
 go_wp2_with fail
 refine(Kh 1 wa (by decide)).mono ?_;rintro en w1 ⟨q1,m1,d1,rfl,hu1,hb1,_⟩;have HO1:Ac (Ap 1 (.slice q1 m1 d1) w1):=⟨Ap.of hu1⟩
 have HX1:=Aa (HX0.out.below hb1);have HQ1:=Aa (HQB.out.below hb1);have HBX1:=Aa (HBX.out.below hb1 HBX.out.lt);have B1:=Aa hb1;clear hu1 hb1 g1;have g1:=HBX1.out.cells.2.1
 go_wp2_with fail
 refine(Nt HX1.out HQ1.out (by have:=HXl0.out;omega) (by have:=HQl.out;omega) HQ0.out).mono ?_;rintro en w2 ⟨_,rfl,⟨qx,mx,dx,rfl,hx⟩,hb2⟩;rw[HXQ.out]at hx
 have HX2:=Aa (Ap.of hx);have HO2:=Aa (HO1.out.below hb2);have B2:=Aa (Ae B1.out hb2);have HWB:Ac (wa.heap.size<=w2.heap.size):=⟨B2.out.size⟩
 clear hx hb2 g1 HX0 HX1 HQ1 HQB HBX1 B1;go_wp2
 go_loopw [7,8] (fun vo iv wr=>∃k:Nat,k<=n/\iv=.int .i64 ((n:Int)-1-k)/\Ac (Ap (Gm P x (cs.drop (n-k))) vo wr)/\Ac (Below w2.heap.size w2 wr)) (fun _ iv _=>(intOf iv+1).toNat)
 case atStart=>exact⟨0,by omega,by go_num,⟨by rw[Nat.sub_zero,List.drop_eq_nil_of_le (by rw[<-HLN.out];exact Av _)];exact HO2.out⟩,⟨Bg _ _⟩⟩
 case round=>
  obtain⟨k,hk,hiv,HO,HBr⟩:=hrel;obtain⟨po,no,co,rfl⟩:∃pq nq cq,u7=.slice pq nq cq:=let ⟨a,b,d,e1,_⟩:=HO.out;⟨a,b,d,e1⟩
  by_cases hkn:k<n
  .obtain⟨j,hj⟩:∃j,n=j+1+k:=⟨n-1-k,by omega⟩
   have hij:(n:Int)-1-k=(j:Nat):=by omega
   rw[hij]at hiv
   subst hiv;obtain⟨a,haj⟩:∃a,cs[j]? = some a:=⟨cs[j]'(by rw[<-HLN.out];omega),List.getElem?_eq_getElem _⟩
   obtain⟨bp,op,rfl,hbp,hcp⟩:=HCS.out.at_ (by omega)
   obtain⟨qa,ma,da,ca1,ca2⟩:=hcp j a haj;have HW:=Aa (Ae B2.out HBr.out);have HCA:Ac (∀w',Below wr.heap.size wr w'->w'.cell? ⟨bp,op+j,none⟩=some (.slice qa ma da)):=⟨fun w' hb=>((Ae HW.out hb).cell (p:=⟨bp,op+j,none⟩) hbp).trans ca1⟩
   have HA:=Aa ((Ap.of ca2).below HW.out);have HAl:Ac (Al a<=100000):=⟨HCl.out a (List.mem_of_getElem? haj)⟩
   obtain⟨E,hE⟩:∃E,Gm P x (cs.drop (n-k))=E:=⟨_,rfl⟩
   have hdr:cs.drop (n-(k+1))=a::cs.drop (n-k):=by
    rw[show n-(k+1)=j by omega,show n-k=j+1 by omega,List.drop_eq_getElem_cons (by rw[<-HLN.out];omega)];rw[List.getElem?_eq_getElem (by rw[<-HLN.out];omega)]at haj
    cases haj;rfl
   obtain⟨NS,hNS⟩:∃Z,E^x%P=Z:=⟨_,rfl⟩
   obtain⟨NN,hNN⟩:∃Z,NS*a%P=Z:=⟨_,rfl⟩
   have HNX:Ac (Gm P x (cs.drop (n-(k+1)))=NN):=⟨by
    rw[hdr];show Gm P x (cs.drop (n-k))^x%P*a%P=NN;rw[hE,hNS,hNN]⟩
   rw[hE]at HO
   have HOl:Ac (Al E<=100000):=⟨Fb (Co (by rw[<-hE];exact Nat.le_of_lt (Vw HP2.out _))) HPl.out⟩
   have HNS:=Aa hNS;have HNN:=Aa hNN;have HNSl:Ac (Al NS<=100000):=⟨Fb (Co (by rw[<-hNS];exact Nat.le_of_lt (Nat.mod_lt _ HP0.out))) HPl.out⟩
   have HX:=Aa (HX2.out.below HBr.out);have HVw:=Aa (HV.out.below HW.out);have HBXw:=Aa (HBX.out.below HW.out HBX.out.lt);have hj0:(0:Int)<=(j:Int):=by omega
   have hjn:j<n:=by omega
   have hjn':(j:Int)<n:=by omega
   have HJ:Ac (n=j+1+k):=⟨hj⟩
   clear hbp hcp ca1 ca2 haj hE hdr hNS hNN hij hj;go_wp2;refine Aj (by kernel_rfl) (by kernel_rfl)
    [some (.agg #[.slice p0 n0 c0,.slice p1 n1 c1,.slice p2 n2 c2,.slice p3 n3 c3]),some (.agg #[.slice p0 n0 c0,.slice p1 n1 c1,.slice p2 n2 c2,.slice p3 n3 c3]),some (.slice po no co),some (.slice qx mx dx),none,some (.slice (some ⟨bp,op,none⟩) n c),some (.int .i64 (j:Nat)),some (.pointer (some ⟨bp,op+j,none⟩)),some (.slice qa ma da),none,none]
    [false,false,false,false,true,false,false,false,false,true,true] rfl
    (fun w1 w2=>Below w1.heap.size w1 w2)
    (fun _ w'=>Below wr.heap.size wr w')
    (fun i v w'=>match i with
     | 4=>Ap NS v w'
     | 9=>Ap NN v w'
     | 10=>Ap NN v w'
     | _=>True)
    ?_ (Bg _ _).drew ?_ ?_
   .intro i v w1 w2 hf hb;split at hf
    .exact hf.below hb
    .exact hf.below hb
    .exact hf.below hb
    .trivial
   .simp only[Bh,Nat.reduceAdd];refine⟨?_,?_,?_,?_,?_,?_,?_,?_,?_,?_,?_,trivial⟩
    all_goals intro D sp w' hD hW hdp hbx'
    case refine_1|refine_2=>
     have hB4:=HBXw.out.below hbx' HBXw.out.lt;have g0:=hB4.cells.1;have g1:=hB4.cells.2.1;have g2:=hB4.cells.2.2.1;have g3:=hB4.cells.2.2.2
     with_reducible refine Ad ?_ ?_
     all_goals simp[Region.wanted,yielded,execOp,Act.eval,Act.put,go_sem,g0,g1,g2,g3]
    case refine_5=>
     (with_reducible refine Ab (w1:=w') (f := 72) (args:=#[.agg #[.slice p0 n0 c0,.slice p1 n1 c1,.slice p2 n2 c2,.slice p3 n3 c3],.slice po no co,.slice qx mx dx]) ?_ ?_ ?_)
     .simp[Region.wanted,yielded,Act.put,go_sem]
     .simp[Act.eval,Act.put,go_sem]
     .refine(Ia (HVw.out.below hbx') (HO.out.below hbx') (HX.out.below hbx') HOl.out HXl.out HPl.out HP0.out).mono ?_;rintro en w9 ⟨u,rfl,hu,hb⟩;rw[HNS.out]at hu
      exact⟨u,rfl,hb,hu,Ae hbx' hb⟩
    case refine_8=>
     (with_reducible refine Ai (w1:=w') (v:=.pointer (some ⟨bp,op+j,none⟩)) ?_ ?_ ?_)
     .simp[Region.wanted,yielded,Act.put,go_sem]
     .simp[execOp,Act.eval,Act.put,go_sem,hjn]
     .exact⟨rfl,rfl⟩
    case refine_9=>
     have c0:=HCA.out w' hbx'
     with_reducible refine Ad ?_ ?_
     all_goals simp[Region.wanted,yielded,execOp,Act.eval,Act.put,go_sem,c0]
    case refine_10=>
     have k4:Ap NS (sp 4) w':=(hdp 4 (mq (by kernel_rfl))).2
     (with_reducible refine Ab (w1:=w') (f := 100) (args:=#[.agg #[.slice p0 n0 c0,.slice p1 n1 c1,.slice p2 n2 c2,.slice p3 n3 c3],sp 4,.slice qa ma da]) ?_ ?_ ?_)
     .simp[Region.wanted,yielded,Act.put,go_sem]
     .simp[Act.eval,Act.put,go_sem]
     .refine(Pw (HVw.out.below hbx') k4 (HA.out.below hbx') HNSl.out HAl.out HPl.out HP0.out).mono ?_;rintro en w9 ⟨u,rfl,hu,hb⟩;rw[HNN.out]at hu
      exact⟨u,rfl,hb,hu,Ae hbx' hb⟩
    case refine_11=>
     have k9:Ap NN (sp 9) w':=(hdp 9 (mq (by kernel_rfl))).2
     (with_reducible refine Ai (w1:=w') (v:=sp 9) ?_ ?_ ?_)
     .simp[Region.wanted,yielded,Act.put,go_sem]
     .simp[execOp,Act.eval,Act.put,go_sem]
     .exact⟨Bg _ _,k9,hbx'⟩
    all_goals ((with_reducible refine Ad ?_ ?_);all_goals first|(simp only[Region.wanted];done)|simp[Region.wanted,yielded,execOp,Act.eval,Act.put,go_sem])
   .intro sp w4 hsp hb;obtain⟨qc,mc,dc,ec,hc⟩:Ap NN (sp 10) w4:=hsp 10 rfl;have HC:Ac (Ap (Gm P x (cs.drop (n-(k+1)))) (.slice qc mc dc) w4):=⟨by rw[HNX.out];exact Ap.of hc⟩
    have HB4:=Aa (Ae HBr.out hb);clear hsp hc hb;simp only[Am,Nat.reduceAdd];rw[ec];clear ec;generalize sp 4=y4,sp 9=y9 at *;have hw:IntKind.i64.wrap ((j:Int)-1)=(n:Int)-1-((k+1:Nat):Int):=by have:=HJ.out;rw[IntKind.wrap_i64];omega
    go_simp
    go_wp2;go_roundw
    case rel=>exact⟨k+1,by omega,by first|go_num|rw[hw]|exact congrArg _ hw,HC,HB4⟩
    case measure=>
     have h9:=HJ.out;simp[intOf];omega
  .obtain rfl:k=n:=by omega
   have hij:(k:Int)-1-k = -1:=by omega
   rw[hij]at hiv
   subst hiv;have HOF:=Aa HO.out;rw[Nat.sub_self,List.drop_zero]at HOF
   have HBF:=Aa (Ae HB.out (Ae B2.out HBr.out));go_wp2;go_ret;exact⟨_,rfl,HOF.out,HBF.out⟩
end Go.Proofs.YtnbmfaihlefgfaaGreatDoor
