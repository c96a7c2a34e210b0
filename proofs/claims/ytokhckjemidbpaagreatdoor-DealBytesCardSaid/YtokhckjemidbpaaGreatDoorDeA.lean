/- The small functions of package deal: bounds, places, polynomials, sizes. -/
import Derived.Test.YtokhckjemidbpaaGreatDoorSdA
import Derived.Test.YtokhckjemidbpaaGreatDoorCuQ
set_option maxRecDepth 1000000
set_option maxHeartbeats 16000000
set_option linter.all false
namespace Go.Proofs.YtokhckjemidbpaaGreatDoor
open Go Go.RowKit Go.Proofs.YtokhckjemidbpaaGreatDoor.Flow
theorem Ah.off {w w':World}{p:Option Addr}{n c N b:Nat}{vs:Array Value}{T:TypeId}{m:Nat×Nat}(h:Ah w p n c N)(hb:w.heap[b]? = some (.cells vs T m))(hs:∀(j:Nat) (u:Value),vs[j]? = some u->∃q k d,u=.slice q k d)(hz:w.heap.size<=w'.heap.size)(ho:∀g,g≠b->w'.heap[g]? = w.heap[g]?):Ah w' p n c N:=by
 rcases Nat.eq_zero_or_pos n with rfl|h0
 .obtain⟨ws,r1,r2,r3,r4⟩:=h.ex;refine⟨ws,⟨r1.len,r1.cap,r1.max,?_⟩,r2,r3,r4⟩;rcases r1.at_ with k|⟨g,off,k1,k2,k3⟩
  .exact .inl k
  .refine .inr ⟨g,off,k1,Dk k2 hz,fun i x hx=>?_⟩;have:ws=[]:=List.eq_nil_of_length_eq_zero r1.len.symm;rw[this]at hx;cases hx
 .refine Eb.stay h hz fun q hq o=>World.cell?_of_block (a:=⟨q.block,o,none⟩) (ho q.block fun e=>?_)
  obtain⟨ws,r1,r2,r3,r4⟩:=h.ex;obtain⟨b',off,k1,k2,k3⟩:=r1.pos h0;rw[k1]at hq;cases hq
  have hbb:b'=b:=e;subst hbb;have h1:=k3 0 (ws.getD 0 0) (by rw[Dv];simp[show 0<ws.length by rw[<-r1.len];exact h0]);rw[Nat.add_zero]at h1
  simp only[World.cell?,hb]at h1;obtain⟨q,k,d,hu⟩:=hs _ _ h1;cases hu
def set2 (w:World)(b:Nat)(u0 u1:Value):World:=(w.setCell ⟨b,0,none⟩ u0).setCell ⟨b,1,none⟩ u1
structure iQ (w:World) (b:Nat) (o:Obj) (w':World):Prop where
 new:w'.heap[b]? = some o
 old:∀g,g≠b->w'.heap[g]? = w.heap[g]?
 size:w'.heap.size=w.heap.size
 bel:∀B,B<=b->Below B w w'
theorem put2 {w:World}{b:Nat}{v0 v1 u0 u1:Value}{T:TypeId}(h:w.heap[b]? = some (.cells #[v0,v1] T (0,0))):iQ w b (.cells #[u0,u1] T (0,0)) (set2 w b u0 u1) :=
 ⟨by simp[set2,World.setCell,Array.getElem?_modify,h],fun g hg=>by simp[set2,World.setCell,Array.getElem?_modify,hg.symm],by simp[set2],fun B hB=>(((Bd _ _).setCell hB _).setCell hB _)⟩
theorem Rv (x y:Option Addr×Nat×Nat):∀(j:Nat) (u:Value),(#[Value.slice x.1 x.2.1 x.2.2,.slice y.1 y.2.1 y.2.2]:Array Value)[j]? = some u->∃q k d,u=.slice q k d
 | 0,u,h=>by cases h;exact⟨_,_,_,rfl⟩
 | 1,u,h=>by cases h;exact⟨_,_,_,rfl⟩
 | j+2,u,h=>by simp at h
theorem gK (i:Nat)(hi:i<3):Ao (gP i)<=16:=by
 rw[Ls i hi]
 match i,hi with
 | 0,_=>decide
 | 1,_=>decide
 | 2,_=>decide
theorem iF:∀i,i<3->gQ i<gP i
 | 0,_=>by decide
 | 1,_=>by decide
 | 2,_=>by decide
 | _+3,h=>by omega
theorem cU (i:Nat)(hi:i<3):Ao (gQ i)<=16:=Hj.2 (Nat.lt_trans (iF i hi) (Hj.1 (gK i hi)))
theorem Rh {w:World}{r q e ex n c X N:Nat}{p:Option Addr}{As:List Nat}{v:Value}(hR:Ring w r q 33)(hA:Ba w e p n c As)(hX:Fit ex X v w)(he:e<=200)(hex:ex<=200)(hn:n<=1000000)(hN:Mn q X As=N) :
  Calls Tryz.prog 102 #[.pointer (some ⟨r,0,none⟩),.slice p n c,v] w fun en w'=>∃x,en=.returned x/\Fit 33 N x w'/\Below w.heap.size w w':=by
 subst hN;exact cX hR hA hX he hex hn
def Kh (Q a:Nat)(ds:List Nat):List Nat:=(a::ds).map fun c=>c%Q
theorem Ng (Q a:Nat)(ds:List Nat):(Kh Q a ds).length=ds.length+1:=by simp[Kh]
variable {α:Type}
def iR (B n:Nat)(Ns:List Nat)(v:Value)(w:World):Prop:=∃q c,v=.slice q n c/\Ba w 33 q n c Ns/\∀a,q=some a->B<=a.block
structure Bo (t:TypeId) (w:World) (b:Nat) (v0 v1:Value):Prop where
 at_:w.heap[b]? = some (.cells #[v0,v1] t (0,0))
theorem Bo.lt {t:TypeId}{w:World}{b:Nat}{v0 v1:Value}(h:Bo t w b v0 v1):b<w.heap.size:=(Ik h.at_).1
theorem Bo.below {t:TypeId}{w w':World}{B b:Nat}{v0 v1:Value}(h:Bo t w b v0 v1)(hb:Below B w w')(hB:b<B):Bo t w' b v0 v1:=⟨by rw[hb.block b hB];exact h.at_⟩
theorem Bo.later {t:TypeId}{w w':World}{b:Nat}{v0 v1:Value}(h:Bo t w b v0 v1)(hb:Below w.heap.size w w'):Bo t w' b v0 v1:=h.below hb h.lt
theorem Bo.cells {t:TypeId}{w:World}{b:Nat}{v0 v1:Value}(h:Bo t w b v0 v1):w.cell? ⟨b,0,none⟩=some v0/\w.cell? ⟨b,1,none⟩=some v1:=by
 have:=h.at_
 simp[World.cell?,this]
theorem Bo.free {t:TypeId}{w:World}{b:Nat}{v0 v1:Value}(h:Bo t w b v0 v1)(j:Nat):w.frozen? ⟨b,j,none⟩=false:=by
 have:=h.at_
 simp[World.frozen?,this]
theorem Bo.made (t:TypeId)(w:World)(v0 v1:Value):Bo t (w.alloc (.cells #[v0,v1] t)) w.heap.size v0 v1:=⟨heap_alloc_new w _⟩
theorem Bo.set {t:TypeId}{w:World}{b:Nat}{v0 v1:Value}(h:Bo t w b v0 v1)(u0 u1:Value):Bo t ((w.setCell ⟨b,0,none⟩ u0).setCell ⟨b,1,none⟩ u1) b u0 u1:=⟨by
 have:=h.at_
 simp[World.setCell,Array.getElem?_modify,this]⟩
theorem Iz (w:World){n:Int}{B:Bool}(hB:decide (1<=n/\n<=64)=B) :
  Calls Tryz.prog 99 #[.int .i64 n] w fun en w'=>en=.returned (.bool B)/\Below w.heap.size w w':=by
 by_cases h1:1<=n
 .by_cases h2:n<=64
  .obtain rfl:B=true:=by rw[<-hB];exact decide_eq_true ⟨h1,h2⟩
   clear hB;go_enter Tryz.func99,Tryz.ntmps99;go_wp2;go_ret;exact⟨rfl,Bd _ _⟩
  .obtain rfl:B=false:=by rw[<-hB];exact decide_eq_false (fun h=>h2 h.2)
   clear hB;go_enter Tryz.func99,Tryz.ntmps99;go_wp2;go_ret;exact⟨rfl,Bd _ _⟩
 .obtain rfl:B=false:=by rw[<-hB];exact decide_eq_false (fun h=>h1 h.1)
  clear hB;go_enter Tryz.func99,Tryz.ntmps99;go_wp2;go_ret;exact⟨rfl,Bd _ _⟩
theorem Ue (w:World){n:Nat}(hn:n<=1000000) :
  Calls Tryz.prog 101 #[.int .i64 (n:Nat)] w fun en w'=>∃u,en=.returned u/\Fit 2 n u w'/\Below w.heap.size w w':=by
 have hbx:=Ae.made w (.slice none 0 0);have hbel:Below w.heap.size w (w.alloc (.cells #[.slice none 0 0] 37)):=By;have hw:IntKind.u64.wrap (n:Int)=n:=IntWalk.u64_in _ (by omega);have HBX:=Ac hbx;have HBL:=Ac hbel;have HN:Aa (n<18446744073709551616):=⟨by omega⟩
 clear hbx hbel;go_enter Tryz.func101,Tryz.ntmps101
 go_wp2_with fail
 refine(Cm _ HN.out).mono ?_;rintro en w1 ⟨_,rfl,⟨p1,n1,c1,rfl,h1,l1⟩,hb1⟩;have hx3:=HBX.out.below hb1 HBX.out.lt;have k1:=hx3.cell;have f1:=hx3.free;have HF:=Ac (Fit.of (h1.store hx3 (.slice p1 n1 c1)) l1);have HBF:Aa (Below w.heap.size w (w1.setCell ⟨w.heap.size,0,none⟩ (.slice p1 n1 c1))):=⟨(Ab HBL.out hb1).setCell (by simp) _⟩
 clear h1 hx3 hb1 hw HBX HBL HN;go_wp2;exact bodyPost_ret (v:=.agg #[.slice p1 n1 c1]) (by simp[results,Tryz.results101,go_sem,k1]) rfl ⟨_,rfl,HF.out,HBF.out⟩
theorem Uc {w:World}{b P Q GG HH e ey n c A:Nat}{p:Option Addr}{ds:List Nat}{v:Value}(hg:Bq w b P Q GG HH)(hA:Fit e A v w)(hd:Ba w ey p n c ds)(he:e<=200)(hey:ey<=200)(hn:n<=1000) :
  Calls Tryz.prog 100 #[.pointer (some ⟨b,0,none⟩),v,.slice p n c] w fun en w'=>∃u,en=.returned u/\iR w.heap.size (n+1) (Kh Q A ds) u w'/\Below w.heap.size w w':=by
 obtain⟨pa,na,ca,rfl,h1,h2⟩:=Aw hA;have hb1:=Ae.made w (.slice pa na ca);have hbel:Below w.heap.size w (w.alloc (.cells #[.slice pa na ca] 37)):=By;obtain⟨wa,hwa⟩:∃wa,w.alloc (.cells #[.slice pa na ca] 37)=wa:=⟨_,rfl⟩
 rw[hwa]at hb1 hbel
 have HX0:=Ac hb1;have HB0:=Ac hbel;have HG0:=Ac (hg.below hbel);have HA0:=Ac ((Fit.of h1 h2).below hbel);have HD0:=Ac (hd.below hbel);have HLn:=Ac hd.len;have hcap:=hd.cap;have hmax:=hd.max;clear hg hA hd h1 h2 hb1 hbel;go_enter Tryz.func100,Tryz.ntmps100
 go_wp2_with fail
 refine(Gb HG0.out).mono ?_;rintro en w1 ⟨r,rfl,hr,b1⟩;have HR1:=Ac hr;have HX1:=Ac (HX0.out.below b1 HX0.out.lt);have HA1:=Ac (HA0.out.below b1);have HD1:=Ac (HD0.out.below b1);have HB1:=Ac (Ab HB0.out b1);have c0:=HX1.out.cell;clear hr b1 HX0 HA0 HD0 HG0 HB0 hwa
 go_wp2_with fail
 refine(Eh HR1.out HA1.out (by omega)).mono ?_;rintro en w2 ⟨_,rfl,⟨pf,nf,cf,rfl,k1,k2⟩,b2⟩;have HR2:=Ac (HR1.out.below b2);have HD2:=Ac (HD1.out.below b2);have HB2:=Ac (Ab HB1.out b2);have hb3:Below w2.heap.size w2 (w2.alloc (.cells #[.slice pf nf cf] 37)):=By;have HX3:Aa (Iq (w2.alloc (.cells #[.slice pf nf cf] 37)) w2.heap.size [(pf,nf,cf)] (([]:List (Option Addr×Nat×Nat)).map sv)):=⟨by unfold Iq;rw[heap_alloc_new];rfl⟩
 obtain⟨w3,hw3⟩:∃w3,w2.alloc (.cells #[.slice pf nf cf] 37)=w3:=⟨_,rfl⟩
 rw[hw3]at hb3 HX3
 have HB3:=Ac hb3;have HS3:Aa (Jp w3 w2.heap.size (.slice (some ⟨w2.heap.size,0,none⟩) 1 1) [(pf,nf,cf)]):=⟨⟨.inr ⟨w2.heap.size,1,[],rfl,Av _,HX3.out,rfl,by omega⟩⟩⟩
 have HT3:Aa (Ic w3 33 [(pf,nf,cf)] (Kh Q A (ds.take 0))):=⟨(Ic.nil w3 33).snoc (k1.below hb3) k2⟩
 clear hb3 k1 k2 b2 HX1 HA1 HD1 HR1 HB1 c0 HX3;go_wp2
 go_loopw [8,10,19] (fun vp _ iv wr=>∃(k:Nat) (us:List (Option Addr×Nat×Nat)),k<=n/\iv=.int .i64 k/\Aa (Below w2.heap.size w2 wr)/\Aa (Jp wr w2.heap.size vp us)/\Aa (Ic wr 33 us (Kh Q A (ds.take k)))) (fun _ _ iv _=>n-(intOf iv).toNat)
 case atStart=>exact⟨0,_,by omega,rfl,HB3,HS3,HT3⟩
 case round=>
  clear HB3 HS3 HT3 hw3;obtain⟨k,us,hk,rfl,HB,HS,HT⟩:=hrel
  by_cases hkn:k<n
  .obtain⟨S,hSk⟩:∃s,ds[k]? = some s:=⟨ds[k]'(by rw[<-HLn.out];exact hkn),List.getElem?_eq_getElem _⟩
   obtain⟨bb,off,rfl,hb,hc⟩:=HD2.out.at_ (by omega)
   obtain⟨q1,m1,d1,hc1,hc2,hc3⟩:=hc k S hSk;have hx:wr.cell? ⟨bb,off+k,none⟩=some (.slice q1 m1 d1):=(HB.out.cell (p:=⟨bb,off+k,none⟩) hb).trans hc1;have hba:Below wr.heap.size wr (wr.alloc (.cells #[.slice q1 m1 d1] 37)):=By;have hxa:=Ae.made wr (.slice q1 m1 d1);obtain⟨wb,hwb⟩:∃wb,wr.alloc (.cells #[.slice q1 m1 d1] 37)=wb:=⟨_,rfl⟩
   rw[hwb]at hba hxa
   have HBa:=Ac (Ab HB.out hba);have HXA:=Ac hxa;have HFA:=Ac ((Fit.of hc2 hc3).below HBa.out);have HSa:=Ac (HS.out.below hba);have HTa:=Ac (HT.out.below hba);have HRa:=Ac (HR2.out.below HBa.out);have HTk:Aa (Kh Q A (ds.take (k+1))=Kh Q A (ds.take k)++[S%Q]):=⟨by rw[Ju hSk];unfold Kh;rw[<-List.cons_append,List.map_append];rfl⟩
   have HUS:Aa (us.length<=100000):=⟨by rw[HT.out.len,Ng,List.length_take];omega⟩
   have hkn':(k:Int)<n:=by omega
   have cx:=HXA.out.cell;clear hc hSk hb hc1 hc2 hc3 hba hxa HB HS HT
   go_wp2_with fail
   refine(Eh HRa.out HFA.out (by omega)).mono ?_;rintro en w4 ⟨_,rfl,⟨po,no,co,rfl,o1,o2⟩,b4⟩;have hb5:Below w4.heap.size w4 (w4.alloc (.cells #[.slice po no co] 37)):=By;have hx5:(w4.alloc (.cells #[.slice po no co] 37)).cell? ⟨w4.heap.size,0,none⟩=some (.slice po no co):=(Ae.made w4 (.slice po no co)).cell;obtain⟨w5,hw5⟩:∃w5,w4.alloc (.cells #[.slice po no co] 37)=w5:=⟨_,rfl⟩
   rw[hw5]at hb5 hx5
   have hb45:=Ab b4 hb5;have hs5:=HSa.out.below hb45;have hsz:w2.heap.size<=w5.heap.size:=(Ab HBa.out hb45).size;obtain⟨v9,w6,happ,hr6,hg6,hmv⟩:=hs5.app (x:=(po,no,co)) hx5 hsz HUS.out 62 (c:=1);have HT6:Aa (Ic w6 33 (us++[(po,no,co)]) (Kh Q A (ds.take k)++[S%Q])):=⟨((HTa.out.below hb45).grown hs5 hg6).snoc (Ra hs5 hg6 (o1.below hb5)) o2⟩
   have HB6:Aa (Below w2.heap.size w2 w6):=⟨(Ab HBa.out hb45).grown hg6 hsz fun g hg=>(hs5.own hg).1⟩
   have HS6:=Ac hr6;clear hb5 hx5 hb45 hs5 hsz hr6 hg6 hmv b4 o1 o2 HSa HTa HRa HFA HXA cx hwb
   go_wp2_with (at_builtin;refine Lib.wpList_append_run _ rfl _ _ _ _ rfl _ _ rfl rfl _ _ happ ?_;refine Pv.out ?_)
   refine⟨?_⟩;clear happ;go_wp2;go_roundw
   case rel=>exact⟨k+1,_,by omega,by go_num,HB6,HS6,⟨by rw[HTk.out];exact HT6.out⟩⟩
   case measure=>simp[intOf];omega
  .obtain rfl:k=n:=by omega
   have hkn':¬(k:Int)<k:=by omega
   have htk:ds.take k=ds:=List.take_of_length_le (by rw[<-HLn.out];exact Av _);rw[htk]at HT
   have hfr:=fun(g:Nat) hg=>(HS.out.own (g:=g) hg).1
   obtain⟨q,d,rfl,hp⟩:=HS.out.plist HT.out;have HFR:Aa (∀a,q=some a->w.heap.size<=a.block):=⟨fun a ha=>by subst ha;exact Eo HB2.out.size (hfr _ rfl)⟩
   have el:(Kh Q A ds).length=k+1:=by rw[Ng,<-HLn.out]
   rw[el]at hp ⊢
   have HP:=Ac hp;have HBf:=Ac (HB2.out.trans (HB.out.mono HB2.out.size));clear htk hp el HB HS HT hfr;go_wp2;go_ret;exact⟨_,rfl,⟨q,d,rfl,HP.out,HFR.out⟩,HBf.out⟩
theorem Gl {w:World}{Q:Nat}{g0:Value}(h:Qp Q g0 w)(hq:Ao Q<=16) :
  Calls Tryz.prog 121 #[g0] w fun en w'=>en=.returned (.int .i64 (Ao Q:Nat))/\Below w.heap.size w w':=by
 have HS:=Ac (Yx h hq);obtain⟨L,hL⟩:∃L,Ao Q=L:=⟨_,rfl⟩
 rw[hL]at HS hq ⊢
 obtain⟨L2,hL2⟩:∃K,2*L=K:=⟨_,rfl⟩
 rw[hL2]at HS
 have HL2:=Ac hL2;have hl2:L2<=32:=by omega
 clear h hL hL2;go_enter Tryz.func121,Tryz.ntmps121
 go_wp2_with fail
 refine HS.out.mono ?_;rintro en w1 ⟨rfl,hb1⟩;have HB1:=Ac hb1;clear hb1;go_wp2;go_ret;refine⟨?_,HB1.out⟩;have h2:=HL2.out;exact congrArg (fun z=>Ending.returned (.int .i64 z)) (by omega)
theorem Gm {w:World}{Q es er S R:Nat}{x y:Option Addr×Nat×Nat}{g0:Value}{B:Bool}(hq:Qp Q g0 w)(hx:Br w x S)(lx:S<Al es)(hy:Br w y R)(ly:R<Al er)(hes:es<=200)(her:er<=200)(hB:(decide (S<Q)&&decide (R<Q))=B) :
  Calls Tryz.prog 120 #[.agg #[.slice x.1 x.2.1 x.2.2,.slice y.1 y.2.1 y.2.2],g0] w fun en w'=>en=.returned (.bool B)/\Below w.heap.size w w':=by
 have hb2:=Bo.made 75 w (.slice x.1 x.2.1 x.2.2) (.slice y.1 y.2.1 y.2.2);have hb0:Below w.heap.size w (w.alloc (.cells #[.slice x.1 x.2.1 x.2.2,.slice y.1 y.2.1 y.2.2] 75)):=By;obtain⟨wa,hwa⟩:∃wa,w.alloc (.cells #[.slice x.1 x.2.1 x.2.2,.slice y.1 y.2.1 y.2.2] 75)=wa:=⟨_,rfl⟩
 rw[hwa]at hb2 hb0
 have HX:=Ac hb2;have HB0:=Ac hb0;have HQ:=Ac (hq.below hb0);have HS:=Ac ((Fit.of hx lx).below hb0);have HR:=Ac ((Fit.of hy ly).below hb0);have HBB:=Ac hB;clear hq hx hy lx ly hb2 hb0 hB;go_enter Tryz.func120,Tryz.ntmps120
 go_wp2_with fail
 refine(Ox HQ.out).mono ?_;rintro en w1 ⟨r0,rfl,hr,hb1⟩;have HR1:=Ac hr;have HB1:=Ac (Ab HB0.out hb1);have HX1:=Ac (HX.out.later hb1);have HS1:=Ac (HS.out.below hb1);have HRr1:=Ac (HR.out.below hb1);clear hr hb1 HX HS HR HQ HB0 hwa
 go_wp2_with fail
 refine(Tz HR1.out).mono ?_;rintro en w2 ⟨_,rfl,⟨p,n,c,rfl,h1,h2⟩,hb2⟩;have hx4:=Ae.made w2 (.slice p n c);have hb4:Below w2.heap.size w2 (w2.alloc (.cells #[.slice p n c] 37)):=By;have hb24:=Ab hb2 hb4;obtain⟨w4,hw4⟩:∃w4,w2.alloc (.cells #[.slice p n c] 37)=w4:=⟨_,rfl⟩
 rw[hw4]at hx4 hb4 hb24
 have HM:=Ac ((Fit.of h1 h2).below hb4);have HXM:=Ac hx4;have HX2:=Ac (HX1.out.later hb24);have HS2:=Ac (HS1.out.below hb24);have HR2:=Ac (HRr1.out.below hb24);have HB2:=Ac (Ab HB1.out hb24);obtain⟨c0,c1⟩:=HX2.out.cells;have cm:=HXM.out.cell;obtain⟨K1,hK1⟩:∃K,Bp S Q=K:=⟨_,rfl⟩
 obtain⟨K2,hK2⟩:∃K,Bp R Q=K:=⟨_,rfl⟩
 have HK1:=Ac hK1;have HK2:=Ac hK2;clear hb2 hb4 hb24 h1 h2 hx4 HR1 HX1 HS1 HRr1 HB1 hK1 hK2
 go_wp2_with fail
 refine(Az HS2.out HM.out (by omega) (by decide) HK1.out).mono ?_;rintro en w5 ⟨_,rfl,rfl,hb5⟩;have HX5:=Ac (HX2.out.later hb5);have HXM5:=Ac (HXM.out.below hb5 HXM.out.lt);have HM5:=Ac (HM.out.below hb5);have HR5:=Ac (HR2.out.below hb5);have HB5:=Ac (Ab HB2.out hb5);clear hb5 c0 c1 cm HX2 HXM HM HS2 HR2 HB2 hw4
 by_cases hk:K1<0
 .have HSQ:Aa (S<Q):=⟨Fd.1 (by rw[HK1.out];exact hk)⟩
  obtain⟨c0,c1⟩:=HX5.out.cells;have cm:=HXM5.out.cell
  go_wp2_with fail
  refine(Az HR5.out HM5.out (by omega) (by decide) HK2.out).mono ?_;rintro en w6 ⟨_,rfl,rfl,hb6⟩;have HB6:=Ac (Ab HB5.out hb6);clear hb6 c0 c1 cm HX5 HXM5 HM5 HR5 HB5
  by_cases hk2:K2<0
  .have HBt:Aa (B=true):=⟨by rw[<-HBB.out,decide_eq_true HSQ.out,decide_eq_true (Fd.1 (by rw[HK2.out];exact hk2))];rfl⟩
   go_wp2;go_ret;exact⟨by rw[HBt.out];rfl,HB6.out⟩
  .have HBt:Aa (B=false):=⟨by rw[<-HBB.out,decide_eq_true HSQ.out,decide_eq_false (fun h=>hk2 (by rw[<-HK2.out];exact Fd.2 h))];rfl⟩
   have HD2:Aa (decide (K2<0)=false):=⟨decide_eq_false hk2⟩
   go_wp2;go_ret;exact⟨by rw[HBt.out,<-HD2.out];rfl,HB6.out⟩
 .have HBt:Aa (B=false):=⟨by rw[<-HBB.out,decide_eq_false (fun h=>hk (by rw[<-HK1.out];exact Fd.2 h))];rfl⟩
  go_wp2;go_ret;exact⟨by rw[HBt.out];rfl,HB5.out⟩
end Go.Proofs.YtokhckjemidbpaaGreatDoor
