/- A dealing: its pledges, a peer's share, and New. -/
import Derived.Test.YtokhckjemidbpaaGreatDoorPlC
import Derived.Lib.SmallJoins
set_option maxRecDepth 1000000
set_option maxHeartbeats 16000000
set_option linter.all false
namespace Go.Proofs.YtokhckjemidbpaaGreatDoor
open Go Go.RowKit Go.Proofs.YtokhckjemidbpaaGreatDoor.Flow
def pV (n:Nat)(Ns:List Nat)(v:Value)(w:World):Prop:=∃q c,v=.slice q n c/\Aq w 33 q n c Ns
theorem pV.below {n:Nat}{Ns:List Nat}{v:Value}{w w':World}(h:pV n Ns v w)(hb:Below w.heap.size w w'):pV n Ns v w':=let ⟨q,c,h1,h2⟩:=h;⟨q,c,h1,h2.below hb⟩
def qU (B n:Nat)(Ns:List Nat)(v:Value)(w:World):Prop:=∃q c,v=.slice q n c/\Aq w 33 q n c Ns/\∀a,q=some a->B<=a.block
def mO (xs:List Nat)(w:World)(e:Ending)(w':World):Prop:=∃v us,e=.returned v/\Cy w' w.heap.size v us/\Cn w' 2 us xs/\Below w.heap.size w w'
theorem Zj (w:World)(p:Option Addr)(n c:Nat)(xs:List Nat)(h:Bq w .u64 p n c xs)(h64:∀x∈xs,bM x)(hn:n<=1000) :
  Calls Tryz.prog 39 #[.slice p n c] w (mO xs w):=by
 have HX:=Ab h;have H6:=Ab h64;have HLn:=Ab h.len;clear h h64;go_enter Tryz.func39,Tryz.ntmps39;go_wp2
 go_loopw [3,5,8] (fun vv _ iv wr=>∃(k:Nat) (us:List (Option Addr×Nat×Nat)),k<=n/\iv=.int .i64 k/\Aa (Below w.heap.size w wr)/\Aa (Cy wr w.heap.size vv us)/\Aa (Cn wr 2 us (xs.take k))) (fun _ _ iv _=>n-(intOf iv).toNat)
 case atStart=>exact⟨0,[],by omega,rfl,⟨Ba _ _⟩,⟨Cy.nil _ _⟩,⟨Cn.nil _ _⟩⟩
 case round=>
  obtain⟨k,us,hk,rfl,HB,HS,HT⟩:=hrel
  by_cases hkn:k<n
  .obtain⟨S,hSk⟩:∃s,xs[k]? = some s:=⟨xs[k]'(by rw[<-HLn.out];exact hkn),List.getElem?_eq_getElem _⟩
   obtain⟨bb,off,rfl,hb,hc⟩:=(HX.out.row (by omega)).pos (by omega);have hx:wr.cell? ⟨bb,off+k,none⟩=some (.int .u64 (S:Nat)):=(HB.out.cell (p:=⟨bb,off+k,none⟩) hb).trans (hc k S hSk);have HTk:Aa (xs.take (k+1)=xs.take k++[S]):=⟨Cz hSk⟩
   have HSU:Aa (S<18446744073709551616):=⟨H6.out S (List.mem_of_getElem? hSk)⟩
   have HSB:Aa (S<An 2):=⟨eI (H6.out S (List.mem_of_getElem? hSk))⟩
   have HUS:Aa (us.length<=100000):=⟨by rw[HT.out.len,List.length_take];omega⟩
   obtain⟨pv,cv,hv⟩:=HS.out.slice;obtain⟨n1,hn1⟩:∃l,us.length=l:=⟨_,rfl⟩
   rw[hn1]at hv
   subst hv;have hkn':(k:Int)<n:=by omega
   clear hc hSk hb hn1
   go_wp2_with fail
   refine(Cd S wr HSU.out).mono ?_;rintro en w3 ⟨q,m,d,rfl,hn3,b3,_⟩;have hb4:Below w3.heap.size w3 (w3.alloc (.cells #[.slice q m d] 37)):=Bt;have hx4:(w3.alloc (.cells #[.slice q m d] 37)).cell? ⟨w3.heap.size,0,none⟩=some (.slice q m d):=(Ae.made w3 (.slice q m d)).cell;have hn4:=hn3.below hb4;obtain⟨w4,hw4⟩:∃w4,w3.alloc (.cells #[.slice q m d] 37)=w4:=⟨_,rfl⟩
   rw[hw4]at hb4 hx4 hn4
   have hb34:=Af b3 hb4;have hs4:=HS.out.below hb34;have hsz:w.heap.size<=w4.heap.size:=(Af HB.out hb34).size;obtain⟨v9,w9,happ,hr9,hg9,_⟩:=hs4.app (x:=(q,m,d)) hx4 hsz HUS.out 62 (c:=1);have HB9:Aa (Below w.heap.size w w9):=⟨(Af HB.out hb34).grown hg9 hsz (fun g hg=>(hs4.own hg).1)⟩
   have HS9:=Ab hr9;have HT9:Aa (Cn w9 2 (us++[(q,m,d)]) (xs.take (k+1))):=⟨by
    rw[HTk.out];exact((HT.out.below hb34).grown hs4 hg9).snoc (Dx hs4 hg9 hn4) HSB.out⟩
   clear b3 hn3 hb4 hx4 hn4 hb34 hs4 hsz hr9 hg9
   go_wp2_with (at_builtin;refine Lib.wpList_append_run _ rfl _ _ _ _ rfl _ _ rfl rfl _ _ happ ?_;refine Gn.out ?_)
   refine⟨?_⟩;clear happ;go_wp2;go_roundw
   case rel=>exact⟨k+1,_,by omega,by go_num,HB9,HS9,HT9⟩
   case measure=>simp[intOf];omega
  .obtain rfl:k=n:=by omega
   have hkn':¬(k:Int)<k:=by omega
   rw[List.take_of_length_le (by rw[<-HLn.out];exact Aw _)]at HT
   go_wp2;go_ret;exact⟨_,us,rfl,HS.out,HT.out,HB.out⟩
def Vy (p:Option Addr)(c W:Nat):Option Addr:=if c-W=0 then p else p.map (·.add W)
structure Cx (t:TypeId) (w:World) (b:Nat) (v0 v1:Value):Prop where
 at_:w.heap[b]? = some (.cells #[v0,v1] t (0,0))
theorem Cx.lt {t:TypeId}{w:World}{b:Nat}{v0 v1:Value}(h:Cx t w b v0 v1):b<w.heap.size:=(Gs h.at_).1
theorem Cx.below {t:TypeId}{w w':World}{B b:Nat}{v0 v1:Value}(h:Cx t w b v0 v1)(hb:Below B w w')(hB:b<B):Cx t w' b v0 v1:=⟨by rw[hb.block b hB];exact h.at_⟩
theorem Cx.later {t:TypeId}{w w':World}{b:Nat}{v0 v1:Value}(h:Cx t w b v0 v1)(hb:Below w.heap.size w w'):Cx t w' b v0 v1:=h.below hb h.lt
theorem Cx.cells {t:TypeId}{w:World}{b:Nat}{v0 v1:Value}(h:Cx t w b v0 v1):w.cell? ⟨b,0,none⟩=some v0/\w.cell? ⟨b,1,none⟩=some v1:=by
 have:=h.at_
 simp[World.cell?,this]
theorem Cx.free {t:TypeId}{w:World}{b:Nat}{v0 v1:Value}(h:Cx t w b v0 v1)(j:Nat):w.frozen? ⟨b,j,none⟩=false:=by
 have:=h.at_
 simp[World.frozen?,this]
theorem Cx.made (t:TypeId)(w:World)(v0 v1:Value):Cx t (w.alloc (.cells #[v0,v1] t)) w.heap.size v0 v1:=⟨heap_alloc_new w _⟩
theorem Cx.set {t:TypeId}{w:World}{b:Nat}{v0 v1:Value}(h:Cx t w b v0 v1)(u0 u1:Value):Cx t ((w.setCell ⟨b,0,none⟩ u0).setCell ⟨b,1,none⟩ u1) b u0 u1:=⟨by
 have:=h.at_
 simp[World.setCell,Array.getElem?_modify,this]⟩
theorem Dj (w:World){n:Int}{B:Bool}(hB:decide (1<=n/\n<=64)=B) :
  Calls Tryz.prog 99 #[.int .i64 n] w fun en w'=>en=.returned (.bool B)/\Below w.heap.size w w':=by
 by_cases h1:1<=n
 .by_cases h2:n<=64
  .obtain rfl:B=true:=by rw[<-hB];exact decide_eq_true ⟨h1,h2⟩
   clear hB;go_enter Tryz.func99,Tryz.ntmps99;go_wp2;go_ret;exact⟨rfl,Ba _ _⟩
  .obtain rfl:B=false:=by rw[<-hB];exact decide_eq_false (fun h=>h2 h.2)
   clear hB;go_enter Tryz.func99,Tryz.ntmps99;go_wp2;go_ret;exact⟨rfl,Ba _ _⟩
 .obtain rfl:B=false:=by rw[<-hB];exact decide_eq_false (fun h=>h1 h.1)
  clear hB;go_enter Tryz.func99,Tryz.ntmps99;go_wp2;go_ret;exact⟨rfl,Ba _ _⟩
theorem Kk (w:World){n:Nat}(hn:n<=1000000) :
  Calls Tryz.prog 101 #[.int .i64 (n:Nat)] w fun en w'=>∃u,en=.returned u/\Fit 2 n u w'/\Below w.heap.size w w':=by
 have hbx:=Ae.made w (.slice none 0 0);have hbel:Below w.heap.size w (w.alloc (.cells #[.slice none 0 0] 37)):=Bt;have hw:IntKind.u64.wrap (n:Int)=n:=IntWalk.u64_in _ (by omega);have HBX:=Ab hbx;have HBL:=Ab hbel;have HN:Aa (n<18446744073709551616):=⟨by omega⟩
 clear hbx hbel;go_enter Tryz.func101,Tryz.ntmps101
 go_wp2_with fail
 refine(Br _ HN.out).mono ?_;rintro en w1 ⟨_,rfl,⟨p1,n1,c1,rfl,h1,l1⟩,hb1⟩;have hx3:=HBX.out.below hb1 HBX.out.lt;have k1:=hx3.cell;have f1:=hx3.free;have HF:=Ab (Fit.of (h1.store hx3 (.slice p1 n1 c1)) l1);have HBF:Aa (Below w.heap.size w (w1.setCell ⟨w.heap.size,0,none⟩ (.slice p1 n1 c1))):=⟨(Af HBL.out hb1).setCell (by simp) _⟩
 clear h1 hx3 hb1 hw HBX HBL HN;go_wp2;exact bodyPost_ret (v:=.agg #[.slice p1 n1 c1]) (by simp[results,Tryz.results101,go_sem,k1]) rfl ⟨_,rfl,HF.out,HBF.out⟩
theorem Za {w:World}{b P Q GG HH e ey n c A:Nat}{p:Option Addr}{ds:List Nat}{v:Value}(hg:Au w b P Q GG HH)(hA:Fit e A v w)(hd:Aq w ey p n c ds)(he:e<=200)(hey:ey<=200)(hn:n<=1000) :
  Calls Tryz.prog 100 #[.pointer (some ⟨b,0,none⟩),v,.slice p n c] w fun en w'=>∃u,en=.returned u/\qU w.heap.size (n+1) (Fv Q A ds) u w'/\Below w.heap.size w w':=by
 obtain⟨pa,na,ca,rfl,h1,h2⟩:=Ao hA;have hb1:=Ae.made w (.slice pa na ca);have hbel:Below w.heap.size w (w.alloc (.cells #[.slice pa na ca] 37)):=Bt;obtain⟨wa,hwa⟩:∃wa,w.alloc (.cells #[.slice pa na ca] 37)=wa:=⟨_,rfl⟩
 rw[hwa]at hb1 hbel
 have HX0:=Ab hb1;have HB0:=Ab hbel;have HG0:=Ab (hg.below hbel);have HA0:=Ab ((Fit.of h1 h2).below hbel);have HD0:=Ab (hd.below hbel);have HLn:=Ab hd.len;have hcap:=hd.cap;have hmax:=hd.max;clear hg hA hd h1 h2 hb1 hbel;go_enter Tryz.func100,Tryz.ntmps100
 go_wp2_with fail
 refine(Ez HG0.out).mono ?_;rintro en w1 ⟨r,rfl,hr,b1⟩;have HR1:=Ab hr;have HX1:=Ab (HX0.out.below b1 HX0.out.lt);have HA1:=Ab (HA0.out.below b1);have HD1:=Ab (HD0.out.below b1);have HB1:=Ab (Af HB0.out b1);have c0:=HX1.out.cell;clear hr b1 HX0 HA0 HD0 HG0 HB0 hwa
 go_wp2_with fail
 refine(Cv HR1.out HA1.out (by omega)).mono ?_;rintro en w2 ⟨_,rfl,⟨pf,nf,cf,rfl,k1,k2⟩,b2⟩;have HR2:=Ab (HR1.out.below b2);have HD2:=Ab (HD1.out.below b2);have HB2:=Ab (Af HB1.out b2);have hb3:Below w2.heap.size w2 (w2.alloc (.cells #[.slice pf nf cf] 37)):=Bt;have HX3:Aa (Eh (w2.alloc (.cells #[.slice pf nf cf] 37)) w2.heap.size [(pf,nf,cf)] (([]:List (Option Addr×Nat×Nat)).map sv)):=⟨by unfold Eh;rw[heap_alloc_new];rfl⟩
 obtain⟨w3,hw3⟩:∃w3,w2.alloc (.cells #[.slice pf nf cf] 37)=w3:=⟨_,rfl⟩
 rw[hw3]at hb3 HX3
 have HB3:=Ab hb3;have HS3:Aa (Cy w3 w2.heap.size (.slice (some ⟨w2.heap.size,0,none⟩) 1 1) [(pf,nf,cf)]):=⟨⟨.inr ⟨w2.heap.size,1,[],rfl,Aw _,HX3.out,rfl,by omega⟩⟩⟩
 have HT3:Aa (Cn w3 33 [(pf,nf,cf)] (Fv Q A (ds.take 0))):=⟨(Cn.nil w3 33).snoc (k1.below hb3) k2⟩
 clear hb3 k1 k2 b2 HX1 HA1 HD1 HR1 HB1 c0 HX3;go_wp2
 go_loopw [8,10,19] (fun vp _ iv wr=>∃(k:Nat) (us:List (Option Addr×Nat×Nat)),k<=n/\iv=.int .i64 k/\Aa (Below w2.heap.size w2 wr)/\Aa (Cy wr w2.heap.size vp us)/\Aa (Cn wr 33 us (Fv Q A (ds.take k)))) (fun _ _ iv _=>n-(intOf iv).toNat)
 case atStart=>exact⟨0,_,by omega,rfl,HB3,HS3,HT3⟩
 case round=>
  clear HB3 HS3 HT3 hw3;obtain⟨k,us,hk,rfl,HB,HS,HT⟩:=hrel
  by_cases hkn:k<n
  .obtain⟨S,hSk⟩:∃s,ds[k]? = some s:=⟨ds[k]'(by rw[<-HLn.out];exact hkn),List.getElem?_eq_getElem _⟩
   obtain⟨bb,off,rfl,hb,hc⟩:=HD2.out.at_ (by omega)
   obtain⟨q1,m1,d1,hc1,hc2,hc3⟩:=hc k S hSk;have hx:wr.cell? ⟨bb,off+k,none⟩=some (.slice q1 m1 d1):=(HB.out.cell (p:=⟨bb,off+k,none⟩) hb).trans hc1;have hba:Below wr.heap.size wr (wr.alloc (.cells #[.slice q1 m1 d1] 37)):=Bt;have hxa:=Ae.made wr (.slice q1 m1 d1);obtain⟨wb,hwb⟩:∃wb,wr.alloc (.cells #[.slice q1 m1 d1] 37)=wb:=⟨_,rfl⟩
   rw[hwb]at hba hxa
   have HBa:=Ab (Af HB.out hba);have HXA:=Ab hxa;have HFA:=Ab ((Fit.of hc2 hc3).below HBa.out);have HSa:=Ab (HS.out.below hba);have HTa:=Ab (HT.out.below hba);have HRa:=Ab (HR2.out.below HBa.out);have HTk:Aa (Fv Q A (ds.take (k+1))=Fv Q A (ds.take k)++[S%Q]):=⟨by rw[Cz hSk];unfold Fv;rw[<-List.cons_append,List.map_append];rfl⟩
   have HUS:Aa (us.length<=100000):=⟨by rw[HT.out.len,Fd,List.length_take];omega⟩
   have hkn':(k:Int)<n:=by omega
   have cx:=HXA.out.cell;clear hc hSk hb hc1 hc2 hc3 hba hxa HB HS HT
   go_wp2_with fail
   refine(Cv HRa.out HFA.out (by omega)).mono ?_;rintro en w4 ⟨_,rfl,⟨po,no,co,rfl,o1,o2⟩,b4⟩;have hb5:Below w4.heap.size w4 (w4.alloc (.cells #[.slice po no co] 37)):=Bt;have hx5:(w4.alloc (.cells #[.slice po no co] 37)).cell? ⟨w4.heap.size,0,none⟩=some (.slice po no co):=(Ae.made w4 (.slice po no co)).cell;obtain⟨w5,hw5⟩:∃w5,w4.alloc (.cells #[.slice po no co] 37)=w5:=⟨_,rfl⟩
   rw[hw5]at hb5 hx5
   have hb45:=Af b4 hb5;have hs5:=HSa.out.below hb45;have hsz:w2.heap.size<=w5.heap.size:=(Af HBa.out hb45).size;obtain⟨v9,w6,happ,hr6,hg6,hmv⟩:=hs5.app (x:=(po,no,co)) hx5 hsz HUS.out 62 (c:=1);have HT6:Aa (Cn w6 33 (us++[(po,no,co)]) (Fv Q A (ds.take k)++[S%Q])):=⟨((HTa.out.below hb45).grown hs5 hg6).snoc (Dx hs5 hg6 (o1.below hb5)) o2⟩
   have HB6:Aa (Below w2.heap.size w2 w6):=⟨(Af HBa.out hb45).grown hg6 hsz fun g hg=>(hs5.own hg).1⟩
   have HS6:=Ab hr6;clear hb5 hx5 hb45 hs5 hsz hr6 hg6 hmv b4 o1 o2 HSa HTa HRa HFA HXA cx hwb
   go_wp2_with (at_builtin;refine Lib.wpList_append_run _ rfl _ _ _ _ rfl _ _ rfl rfl _ _ happ ?_;refine Gn.out ?_)
   refine⟨?_⟩;clear happ;go_wp2;go_roundw
   case rel=>exact⟨k+1,_,by omega,by go_num,HB6,HS6,⟨by rw[HTk.out];exact HT6.out⟩⟩
   case measure=>simp[intOf];omega
  .obtain rfl:k=n:=by omega
   have hkn':¬(k:Int)<k:=by omega
   have htk:ds.take k=ds:=List.take_of_length_le (by rw[<-HLn.out];exact Aw _);rw[htk]at HT
   have hfr:=fun(g:Nat) hg=>(HS.out.own (g:=g) hg).1
   obtain⟨q,d,rfl,hp⟩:=HS.out.plist HT.out;have HFR:Aa (∀a,q=some a->w.heap.size<=a.block):=⟨fun a ha=>by subst ha;exact Er HB2.out.size (hfr _ rfl)⟩
   have el:(Fv Q A ds).length=k+1:=by rw[Fd,<-HLn.out]
   rw[el]at hp ⊢
   have HP:=Ab hp;have HBf:=Ab (HB2.out.trans (HB.out.mono HB2.out.size));clear htk hp el HB HS HT hfr;go_wp2;go_ret;exact⟨_,rfl,⟨q,d,rfl,HP.out,HFR.out⟩,HBf.out⟩
theorem Qj {w:World}{Q es er S R:Nat}{x y:Option Addr×Nat×Nat}{g0:Value}{B:Bool}(hq:oQ Q g0 w)(hx:Cw w x S)(lx:S<An es)(hy:Cw w y R)(ly:R<An er)(hes:es<=200)(her:er<=200)(hB:(decide (S<Q)&&decide (R<Q))=B) :
  Calls Tryz.prog 120 #[.agg #[.slice x.1 x.2.1 x.2.2,.slice y.1 y.2.1 y.2.2],g0] w fun en w'=>en=.returned (.bool B)/\Below w.heap.size w w':=by
 have hb2:=Cx.made 75 w (.slice x.1 x.2.1 x.2.2) (.slice y.1 y.2.1 y.2.2);have hb0:Below w.heap.size w (w.alloc (.cells #[.slice x.1 x.2.1 x.2.2,.slice y.1 y.2.1 y.2.2] 75)):=Bt;obtain⟨wa,hwa⟩:∃wa,w.alloc (.cells #[.slice x.1 x.2.1 x.2.2,.slice y.1 y.2.1 y.2.2] 75)=wa:=⟨_,rfl⟩
 rw[hwa]at hb2 hb0
 have HX:=Ab hb2;have HB0:=Ab hb0;have HQ:=Ab (hq.below hb0);have HS:=Ab ((Fit.of hx lx).below hb0);have HR:=Ab ((Fit.of hy ly).below hb0);have HBB:=Ab hB;clear hq hx hy lx ly hb2 hb0 hB;go_enter Tryz.func120,Tryz.ntmps120
 go_wp2_with fail
 refine(cH HQ.out).mono ?_;rintro en w1 ⟨r0,rfl,hr,hb1⟩;have HR1:=Ab hr;have HB1:=Ab (Af HB0.out hb1);have HX1:=Ab (HX.out.later hb1);have HS1:=Ab (HS.out.below hb1);have HRr1:=Ab (HR.out.below hb1);clear hr hb1 HX HS HR HQ HB0 hwa
 go_wp2_with fail
 refine(jO HR1.out).mono ?_;rintro en w2 ⟨_,rfl,⟨p,n,c,rfl,h1,h2⟩,hb2⟩;have hx4:=Ae.made w2 (.slice p n c);have hb4:Below w2.heap.size w2 (w2.alloc (.cells #[.slice p n c] 37)):=Bt;have hb24:=Af hb2 hb4;obtain⟨w4,hw4⟩:∃w4,w2.alloc (.cells #[.slice p n c] 37)=w4:=⟨_,rfl⟩
 rw[hw4]at hx4 hb4 hb24
 have HM:=Ab ((Fit.of h1 h2).below hb4);have HXM:=Ab hx4;have HX2:=Ab (HX1.out.later hb24);have HS2:=Ab (HS1.out.below hb24);have HR2:=Ab (HRr1.out.below hb24);have HB2:=Ab (Af HB1.out hb24);obtain⟨c0,c1⟩:=HX2.out.cells;have cm:=HXM.out.cell;obtain⟨K1,hK1⟩:∃K,Bm S Q=K:=⟨_,rfl⟩
 obtain⟨K2,hK2⟩:∃K,Bm R Q=K:=⟨_,rfl⟩
 have HK1:=Ab hK1;have HK2:=Ab hK2;clear hb2 hb4 hb24 h1 h2 hx4 HR1 HX1 HS1 HRr1 HB1 hK1 hK2
 go_wp2_with fail
 refine(Bf HS2.out HM.out (by omega) (by decide) HK1.out).mono ?_;rintro en w5 ⟨_,rfl,rfl,hb5⟩;have HX5:=Ab (HX2.out.later hb5);have HXM5:=Ab (HXM.out.below hb5 HXM.out.lt);have HM5:=Ab (HM.out.below hb5);have HR5:=Ab (HR2.out.below hb5);have HB5:=Ab (Af HB2.out hb5);clear hb5 c0 c1 cm HX2 HXM HM HS2 HR2 HB2 hw4
 by_cases hk:K1<0
 .have HSQ:Aa (S<Q):=⟨Ob.1 (by rw[HK1.out];exact hk)⟩
  obtain⟨c0,c1⟩:=HX5.out.cells;have cm:=HXM5.out.cell
  go_wp2_with fail
  refine(Bf HR5.out HM5.out (by omega) (by decide) HK2.out).mono ?_;rintro en w6 ⟨_,rfl,rfl,hb6⟩;have HB6:=Ab (Af HB5.out hb6);clear hb6 c0 c1 cm HX5 HXM5 HM5 HR5 HB5
  by_cases hk2:K2<0
  .have HBt:Aa (B=true):=⟨by rw[<-HBB.out,decide_eq_true HSQ.out,decide_eq_true (Ob.1 (by rw[HK2.out];exact hk2))];rfl⟩
   go_wp2;go_ret;exact⟨by rw[HBt.out];rfl,HB6.out⟩
  .have HBt:Aa (B=false):=⟨by rw[<-HBB.out,decide_eq_true HSQ.out,decide_eq_false (fun h=>hk2 (by rw[<-HK2.out];exact Ob.2 h))];rfl⟩
   have HD2:Aa (decide (K2<0)=false):=⟨decide_eq_false hk2⟩
   go_wp2;go_ret;exact⟨by rw[HBt.out,<-HD2.out];rfl,HB6.out⟩
 .have HBt:Aa (B=false):=⟨by rw[<-HBB.out,decide_eq_false (fun h=>hk (by rw[<-HK1.out];exact Ob.2 h))];rfl⟩
  go_wp2;go_ret;exact⟨by rw[HBt.out];rfl,HB5.out⟩
abbrev P3:=Option Addr×Nat×Nat
structure S2 (W:World) (mk:P3->Value) (F1 F2:P3->World->Prop) (b:Nat) (d1 d2 d3 d4:Bool) (v1 v2 v3:Value) (w:World):Prop where
 pre:d4=false->Below W.heap.size W w
 p1:d4=false->d1=true->∃x:P3,v1=mk x/\F1 x w
 p2:d4=false->d2=true->∃x:P3,v2=mk x/\F2 x w
 p3:d4=false->d3=true->∃x y:P3,v3=.agg #[.slice x.1 x.2.1 x.2.2,.slice y.1 y.2.1 y.2.2]/\F1 x w/\F2 y w
 fin:d4=true->∃(w1:World) (x y:P3),Below W.heap.size W w1/\F1 x w1/\F2 y w1/\w=set2 w1 b (.slice x.1 x.2.1 x.2.2) (.slice y.1 y.2.1 y.2.2)
 o3:d3=true->d1=true/\d2=true
 o4:d4=true->d3=true
section
variable {W:World} {mk:P3->Value} {F1 F2:P3->World->Prop} {b:Nat} {d1 d2 d3 d4:Bool} {v1 v2 v3:Value} {w:World}
theorem S2.start:S2 W mk F1 F2 b false false false false v1 v2 v3 W.drew :=
 ⟨fun _=>(Ba _ _).drew,(fun _ e=>by cases e),(fun _ e=>by cases e),(fun _ e=>by cases e),(fun e=>by cases e),(fun e=>by cases e),fun e=>by cases e⟩
theorem S2.later {w':World}(h:S2 W mk F1 F2 b d1 d2 d3 false v1 v2 v3 w)(hb:Below w.heap.size w w')(h1:∀x,F1 x w->F1 x w')(h2:∀x,F2 x w->F2 x w'):S2 W mk F1 F2 b d1 d2 d3 false v1 v2 v3 w' :=
 ⟨fun e=>Af (h.pre e) hb,fun e k=>let ⟨x,k1,k2⟩:=h.p1 e k;⟨x,k1,h1 x k2⟩,fun e k=>let ⟨x,k1,k2⟩:=h.p2 e k;⟨x,k1,h2 x k2⟩,
 fun e k=>let ⟨x,y,k1,k2,k3⟩:=h.p3 e k;⟨x,y,k1,h1 x k2,h2 y k3⟩,(fun e=>by cases e),h.o3,fun e=>by cases e⟩
theorem S2.n3 (h:S2 W mk F1 F2 b d1 d2 false d4 v1 v2 v3 w):d4=false:=by
 cases d4 with
 | false=>rfl
 | true=>have:=h.o4 rfl;cases this
theorem S2.n1 (h:S2 W mk F1 F2 b false d2 d3 d4 v1 v2 v3 w):d4=false:=by
 cases d3 with
 | false=>exact h.n3
 | true=>have:=(h.o3 rfl).1;cases this
theorem S2.n2 (h:S2 W mk F1 F2 b d1 false d3 d4 v1 v2 v3 w):d4=false:=by
 cases d3 with
 | false=>exact h.n3
 | true=>have:=(h.o3 rfl).2;cases this
theorem S2.put1 (h:S2 W mk F1 F2 b false d2 d3 false v1 v2 v3 w){x:P3}(hx:F1 x w):S2 W mk F1 F2 b true d2 d3 false (mk x) v2 v3 w :=
 ⟨h.pre,fun _ _=>⟨x,rfl,hx⟩,h.p2,(fun e k=>by have:=(h.o3 k).1;cases this),h.fin,(fun k=>by have:=(h.o3 k).1;cases this),h.o4⟩
theorem S2.put2 (h:S2 W mk F1 F2 b d1 false d3 false v1 v2 v3 w){x:P3}(hx:F2 x w):S2 W mk F1 F2 b d1 true d3 false v1 (mk x) v3 w :=
 ⟨h.pre,h.p1,fun _ _=>⟨x,rfl,hx⟩,(fun e k=>by have:=(h.o3 k).2;cases this),h.fin,(fun k=>by have:=(h.o3 k).2;cases this),h.o4⟩
theorem S2.put3 (h:S2 W mk F1 F2 b true true false false v1 v2 v3 w){x y:P3}(hx:F1 x w)(hy:F2 y w):S2 W mk F1 F2 b true true true false v1 v2 (.agg #[.slice x.1 x.2.1 x.2.2,.slice y.1 y.2.1 y.2.2]) w :=
 ⟨h.pre,h.p1,h.p2,fun _ _=>⟨x,y,rfl,hx,hy⟩,h.fin,fun _=>⟨rfl,rfl⟩,fun e=>by cases e⟩
theorem S2.put4 (h:S2 W mk F1 F2 b d1 d2 true false v1 v2 v3 w){x y:P3}(hx:F1 x w)(hy:F2 y w):S2 W mk F1 F2 b d1 d2 true true v1 v2 v3 (set2 w b (.slice x.1 x.2.1 x.2.2) (.slice y.1 y.2.1 y.2.2)) :=
 ⟨(fun e=>by cases e),(fun e=>by cases e),(fun e=>by cases e),(fun e=>by cases e),fun _=>⟨w,x,y,h.pre rfl,hx,hy,rfl⟩,h.o3,fun _=>rfl⟩
end
theorem eS {w:World}{b:Nat}{v0 v1:Value}{T:TypeId}(h:w.heap[b]? = some (.cells #[v0,v1] T (0,0))) :
  (w.cell? ⟨b,0,none⟩=some v0/\w.cell? ⟨b,1,none⟩=some v1)/\w.frozen? ⟨b,0,none⟩=false/\w.frozen? ⟨b,1,none⟩=false:=by
 simp[World.cell?,World.frozen?,h]
theorem Jg {w:World}{b e n c B:Nat}{p:Option Addr}{Ns:List Nat}{T:TypeId}{x y:P3}{u v:Value}(h:Aq w e p n c Ns)(hb:w.heap[b]? = some (.cells #[.slice x.1 x.2.1 x.2.2,.slice y.1 y.2.1 y.2.2] T (0,0)))(hB:b<B)(hp:∀a,p=some a->B<=a.block):Aq (set2 w b u v) e p n c Ns:=by
 have hk:=put2 (u0:=u) (u1:=v) hb;refine⟨h.len,h.cap,h.max,h.nil,fun h0=>?_⟩;obtain⟨g,off,rfl,h2,h3⟩:=h.at_ h0
 have hg:g≠b:=by have:=hp _ rfl;dsimp only at this;omega
 refine⟨g,off,rfl,by rw[hk.size];exact h2,fun i N hN=>?_⟩;obtain⟨q,m,d,k1,k2,k3⟩:=h3 i N hN;exact⟨q,m,d,by rw[World.cell?_of_block (a:=⟨g,off+i,none⟩) (hk.old g hg)];exact k1,k2.off hb (Wl x y) (Nat.le_of_eq hk.size.symm) hk.old,k3⟩
theorem Iq {w:World}{b N:Nat}{q:P3}{T:TypeId}{x y:P3}{u v:Value}(h:Cw w q N)(hb:w.heap[b]? = some (.cells #[.slice x.1 x.2.1 x.2.2,.slice y.1 y.2.1 y.2.2] T (0,0))):Cw (set2 w b u v) q N:=by
 have hk:=put2 (u0:=u) (u1:=v) hb;exact h.off hb (Wl x y) (Nat.le_of_eq hk.size.symm) hk.old
theorem dG {w:World}{b P Q G H bx:Nat}{T:TypeId}{x y:P3}{u v:Value}(h:Au w b P Q G H)(hb:w.heap[bx]? = some (.cells #[.slice x.1 x.2.1 x.2.2,.slice y.1 y.2.1 y.2.2] T (0,0)))(h1 : 141 ≠ T)(h2 : 156 ≠ T):Au (set2 w bx u v) b P Q G H:=by
 have hk:=(put2 (u0:=u) (u1:=v) hb).kt (B:=0) hb (Wl x y) (Nat.zero_le _);obtain⟨rp,rq,pg,ng,cg,ph,nh,ch,g1,g2,g3,g4,g5,g6,g7⟩:=h.ex;exact⟨rp,rq,pg,ng,cg,ph,nh,ch,hk.blk _ _ _ _ g1 (.inl h1),g2.kt hk h2,g3.kt hk h2,hk.k.nat _ _ _ _ g4,g5,hk.k.nat _ _ _ _ g6,g7⟩
theorem fL {p:Option Addr}{n c W:Nat}(hc:W<=c)(w:World) :
  (Instr.sliceAt 62 (.slice p n c) none (some (.int .i64 (W:Int))) none).run Tryz.prog w=.ok (.slice p W c) w:=by
 have hel:Tryz.prog.elem 62 = 37 := by kernel_rfl
 have hu:Tryz.prog.underlying 62 = some (.slice (Tryz.prog.elem 62)):=by rw[hel];exact Tryz.underlying62
 rw[run_sliceAt_slice w 62 _ _ _ _ hu,run_slice_h w 62 _ _ _ hu .i64 _ (by omega) (by omega)];have hs:(sizeOf (Tryz.prog.elem 62)).run Tryz.prog w=.ok 1 w:=by rw[hel];simp[go_sem]
 rw[hs];simp only[Result.andThen_ok,sliced];have e:p.map (·.add (0*1))=p:=by
  cases p with
  | none=>rfl
  | some a=>obtain⟨b,off,sp⟩:=a;simp[Addr.add]
 rw[e];simp
theorem cB {p:Option Addr}{n c L H:Nat}(hL:L<=H)(hc:H<=c)(w:World) :
  (Instr.sliceAt 62 (.slice p n c) (some (.int .i64 (L:Int))) (some (.int .i64 (H:Int))) none).run Tryz.prog w=.ok (.slice (Vy p c L) (H-L) (c-L)) w:=by
 have hel:Tryz.prog.elem 62 = 37 := by kernel_rfl
 have hu:Tryz.prog.underlying 62 = some (.slice (Tryz.prog.elem 62)):=by rw[hel];exact Tryz.underlying62
 rw[run_sliceAt_slice w 62 _ _ _ _ hu,run_slice_lh w 62 _ _ _ hu .i64 .i64 _ _ (by omega) (by omega) (by omega)];have hs:(sizeOf (Tryz.prog.elem 62)).run Tryz.prog w=.ok 1 w:=by rw[hel];simp[go_sem]
 rw[hs];have e:(c=L)=(c-L=0):=by
  refine propext ⟨fun h=>by omega,fun h=>by omega⟩
 simp[Result.andThen_ok,sliced,Vy,e]
theorem Aq.part {w:World}{e n c L H:Nat}{p:Option Addr}{Ns:List Nat}(h:Aq w e p n c Ns)(hL:L<=H)(hH:H<=n):Aq w e (Vy p c L) (H-L) (c-L) ((Ns.drop L).take (H-L)):=by
 have h1:=h.len;have h2:=h.cap;have h3:=h.max;refine⟨by rw[List.length_take,List.length_drop];omega,by omega,by omega,fun hn=>?_,fun h0=>?_⟩
 .unfold Vy at hn;split at hn
  .assumption
  .cases p with
   | none=>have:=h.nil rfl;omega
   | some a=>cases hn
 .obtain⟨b,off,rfl,hb,hc⟩:=h.at_ (by omega)
  refine⟨b,off+L,by unfold Vy;rw[if_neg (by omega),Option.map_some,add_plain],hb,fun i N hN=>?_⟩;rw[List.getElem?_take]at hN
  split at hN
  .rw[List.getElem?_drop]at hN
   obtain⟨q,m,d,k1,k2,k3⟩:=hc _ _ hN;exact⟨q,m,d,by rw[Nat.add_assoc];exact k1,k2,k3⟩
  .cases hN
theorem Aq.front {w:World}{e n c H:Nat}{p:Option Addr}{Ns:List Nat}(h:Aq w e p n c Ns)(hH:H<=n):Aq w e p H c (Ns.take H):=by
 have h1:=h.len;have h2:=h.cap;have h3:=h.max;refine⟨by rw[List.length_take];omega,by omega,by omega,h.nil,fun h0=>?_⟩;obtain⟨b,off,rfl,hb,hc⟩:=h.at_ (by omega)
 refine⟨b,off,rfl,hb,fun i N hN=>?_⟩;rw[List.getElem?_take]at hN
 split at hN
 .exact hc _ _ hN
 .cases hN
theorem Xj {w:World}{b P Q GG HH e1 e2 n c m d:Nat}{p p2:Option Addr}{As Bs:List Nat}(hG:Au w b P Q GG HH)(hA:Aq w e1 p n c As)(hB:Aq w e2 p2 m d Bs)(h1:e1<=200)(h2:e2<=200)(hn:n<=1000)(hm:m<=1000) :
  Calls Tryz.prog 43 #[.agg #[.slice p n c,.slice p2 m d],.pointer (some ⟨b,0,none⟩)] w fun en w'=>∃u,en=.returned u/\oW (max n m) (Bj P Q GG HH As Bs) u w'/\Below w.heap.size w w':=by
 have hx:=Cx.made 64 w (.slice p n c) (.slice p2 m d);have hb0:Below w.heap.size w (w.alloc (.cells #[.slice p n c,.slice p2 m d] 64)):=Bt;obtain⟨wa,hwa⟩:∃wa,w.alloc (.cells #[.slice p n c,.slice p2 m d] 64)=wa:=⟨_,rfl⟩
 rw[hwa]at hx hb0
 have HE:=Ab (mF (hG.below hb0) (hA.below hb0) (hB.below hb0) h1 h2 hn hm);have HB0:=Ab hb0;obtain⟨c0,c1⟩:=hx.cells;clear hG hA hB hx hb0;go_enter Tryz.func43,Tryz.ntmps43
 go_wp2_with fail
 refine HE.out.mono ?_;rintro en w1 ⟨u,rfl,hu,hb1⟩;have HU:=Ab hu;have HB1:=Ab (Af HB0.out hb1);clear hu hb1 HE HB0 c0 c1 hwa;go_wp2;go_ret;exact⟨_,rfl,HU.out,HB1.out⟩
def oR (A B:Nat)(w:World)(en:Ending)(w':World):Prop:=∃x y:P3,en=.returned (.tuple #[.agg #[.slice x.1 x.2.1 x.2.2,.slice y.1 y.2.1 y.2.2],.int .i64 0])/\Cw w' x A/\Cw w' y B/\Below w.heap.size w w'
theorem Ki {w:World}{b P Q GG HH e1 e2 n c m d j NA NB:Nat}{p p2:Option Addr}{As Bs:List Nat}(hG:Au w b P Q GG HH)(hA:Aq w e1 p n c As)(hB:Aq w e2 p2 m d Bs)(h1:e1<=200)(h2:e2<=200)(hn:n<=1000)(hm:m<=1000)(hj:1<=j/\j<=64)(hNA:Be Q j As=NA)(hNB:Be Q j Bs=NB) :
  Calls Tryz.prog 42 #[.agg #[.slice p n c,.slice p2 m d],.pointer (some ⟨b,0,none⟩),.int .i64 (j:Nat)] w (oR NA NB w):=by
 have hx:=Cx.made 64 w (.slice p n c) (.slice p2 m d);have hz:(w.alloc (.cells #[.slice p n c,.slice p2 m d] 64)).heap.size=w.heap.size+1:=by simp
 have hb0:Below w.heap.size w (w.alloc (.cells #[.slice p n c,.slice p2 m d] 64)):=Bt;have hs:=Cx.made 75 (w.alloc (.cells #[.slice p n c,.slice p2 m d] 64)) (.slice none 0 0) (.slice none 0 0);have hb2:Below (w.alloc (.cells #[.slice p n c,.slice p2 m d] 64)).heap.size (w.alloc (.cells #[.slice p n c,.slice p2 m d] 64)) ((w.alloc (.cells #[.slice p n c,.slice p2 m d] 64)).alloc (.cells #[.slice none 0 0,.slice none 0 0] 75)):=Bt;have hx2:=hx.later hb2;have hba:=Af hb0 hb2;rw[hz]at hs
 obtain⟨wa,hwa⟩:∃wa,((w.alloc (.cells #[.slice p n c,.slice p2 m d] 64)).alloc (.cells #[.slice none 0 0,.slice none 0 0] 75))=wa:=⟨_,rfl⟩
 rw[hwa]at hs hx2 hba
 have HXD:=Ab hx2;have HXS:=Ab hs;have HB0:=Ab hba;have HG0:=Ab (hG.below hba);have HA0:=Ab (hA.below hba);have HBB0:=Ab (hB.below hba);have HJ:Aa (decide (1<=(j:Int)/\(j:Int)<=64)=true):=⟨decide_eq_true (by omega)⟩
 have HJ2:Aa (j<=1000000):=⟨by omega⟩
 have HVA:=Ab hNA;have HVB:=Ab hNB;clear hG hA hB hx hs hb0 hb2 hx2 hba hNA hNB hj hz;go_enter Tryz.func42,Tryz.ntmps42
 go_wp2_with fail
 refine(Dj _ HJ.out).mono ?_;rintro en w1 ⟨rfl,b1⟩;have HXD1:=Ab (HXD.out.later b1);have HXS1:=Ab (HXS.out.later b1);have HG1:=Ab (HG0.out.below b1);have HA1:=Ab (HA0.out.below b1);have HBB1:=Ab (HBB0.out.below b1);have HB1:=Ab (Af HB0.out b1);clear b1 HXD HXS HG0 HA0 HBB0 HB0 hwa
 go_wp2_with fail
 refine(Ez HG1.out).mono ?_;rintro en w2 ⟨r,rfl,hr,b2⟩;have HR2:=Ab hr;have HXD2:=Ab (HXD1.out.later b2);have HXS2:=Ab (HXS1.out.later b2);have HA2:=Ab (HA1.out.below b2);have HBB2:=Ab (HBB1.out.below b2);have HB2:=Ab (Af HB1.out b2);clear hr b2 HXD1 HXS1 HG1 HA1 HBB1 HB1
 go_wp2_with fail
 refine(Kk _ HJ2.out).mono ?_;rintro en w3 ⟨_,rfl,⟨px,nx,cx,rfl,x1,x2⟩,b3⟩;have hb4:Below w3.heap.size w3 (w3.alloc (.cells #[.slice px nx cx] 37)):=Bt;have hx4:=Ae.made w3 (.slice px nx cx);have hb34:=Af b3 hb4;obtain⟨w4,hw4⟩:∃w4,w3.alloc (.cells #[.slice px nx cx] 37)=w4:=⟨_,rfl⟩
 rw[hw4]at hb4 hx4 hb34
 obtain⟨bx,hbx⟩:∃x,w3.heap.size=x:=⟨_,rfl⟩
 rw[hbx]at hx4
 have HXX4:=Ab hx4;have HX4:=Ab ((Fit.of x1 x2).below hb4);have HXD4:=Ab (HXD2.out.later hb34);have HXS4:=Ab (HXS2.out.later hb34);have HR4:=Ab (HR2.out.below hb34);have HA4:=Ab (HA2.out.below hb34);have HB4:=Ab (HBB2.out.below hb34);have HBl:=Ab (Af HB2.out hb34);clear b3 hb4 hx4 hb34 x1 x2 HXD2 HXS2 HR2 HA2 HBB2 HB2;go_wp2;refine Aj (by kernel_rfl) (by kernel_rfl)
  [some (.pointer (some ⟨r,0,none⟩)),some (.pointer (some ⟨w.heap.size,0,none⟩)),some (.slice p n c),some (.agg #[.slice px nx cx]),none,some (.pointer (some ⟨r,0,none⟩)),some (.pointer (some ⟨w.heap.size,1,none⟩)),some (.slice p2 m d),some (.agg #[.slice px nx cx]),none,none,none,some (.int .i64 0)]
  [false,false,false,false,true,false,false,false,false,true,true,true,false] rfl
  (fun _ _=>True) (fun D sp w'=>S2 w4 (fun x=>.agg #[.slice x.1 x.2.1 x.2.2]) (fun x w=>Cw w x NA) (fun x w=>Cw w x NB) (w.heap.size+1) (D 4) (D 9) (D 10) (D 11) (sp 4) (sp 9) (sp 10) w') (fun _ _ _=>True) (fun _ _ _ _ _ _=>trivial)
  S2.start ?_ ?_
 .simp only[Az,Nat.reduceAdd];refine⟨?_,?_,?_,?_,?_,?_,?_,?_,?_,?_,?_,?_,?_,trivial⟩
  case refine_3=>
   intro D sp w' hD hW hdp hg;have dc:D 4=false:=hW 4 (mq (by kernel_rfl));rw[dc]at hg
   have d4:=hg.n1;rw[d4]at hg
   have hp:=hg.pre rfl;have c0:=(HXD4.out.below hp HXD4.out.lt).cells.1
   (with_reducible refine Ah (w1:=w') (v:=.slice p n c) ?_ ?_ ?_)
   .simp[Region.wanted,yielded,Act.put,go_sem]
   .simp[execOp,Act.eval,Act.put,go_sem,c0]
   .exact⟨rfl,rfl⟩
  case refine_4=>
   intro D sp w' hD hW hdp hg;have dc:D 4=false:=hW 4 (mq (by kernel_rfl));rw[dc]at hg
   have d4:=hg.n1;rw[d4]at hg
   have hp:=hg.pre rfl;have c0:=(HXX4.out.below hp HXX4.out.lt).cell
   (with_reducible refine Ah (w1:=w') (v:=.agg #[.slice px nx cx]) ?_ ?_ ?_)
   .simp[Region.wanted,yielded,Act.put,go_sem]
   .simp[execOp,Act.eval,Act.put,go_sem,c0]
   .exact⟨rfl,rfl⟩
  case refine_5=>
   intro D sp w' hD hW hdp hg;rw[hD]at hg
   have d4:=hg.n1;rw[d4]at hg
   have hp:=hg.pre rfl
   (with_reducible refine Ac (w1:=w') (f := 102) (args:=#[.pointer (some ⟨r,0,none⟩),.slice p n c,.agg #[.slice px nx cx]]) ?_ ?_ ?_)
   .simp[Region.wanted,yielded,Act.put,go_sem]
   .simp[Act.eval,Act.put,go_sem]
   .refine(Vl (HR4.out.below hp) (HA4.out.below hp) (HX4.out.below hp) h1 (by decide) (by omega) HVA.out).mono ?_;rintro en w9 ⟨_,rfl,⟨p9,n9,c9,rfl,u1,u2⟩,hb⟩;have hu:Cw w9 (p9,n9,c9) NA:=u1;exact⟨_,rfl,trivial,trivial,by simpa [upd,d4]using(hg.later hb (fun x k=>k.below hb) (fun x k=>k.below hb)).put1 hu⟩
  case refine_8=>
   intro D sp w' hD hW hdp hg;have dc:D 9=false:=hW 9 (mq (by kernel_rfl));rw[dc]at hg
   have d4:=hg.n2;rw[d4]at hg
   have hp:=hg.pre rfl;have c0:=(HXD4.out.below hp HXD4.out.lt).cells.2
   (with_reducible refine Ah (w1:=w') (v:=.slice p2 m d) ?_ ?_ ?_)
   .simp[Region.wanted,yielded,Act.put,go_sem]
   .simp[execOp,Act.eval,Act.put,go_sem,c0]
   .exact⟨rfl,rfl⟩
  case refine_9=>
   intro D sp w' hD hW hdp hg;have dc:D 9=false:=hW 9 (mq (by kernel_rfl));rw[dc]at hg
   have d4:=hg.n2;rw[d4]at hg
   have hp:=hg.pre rfl;have c0:=(HXX4.out.below hp HXX4.out.lt).cell
   (with_reducible refine Ah (w1:=w') (v:=.agg #[.slice px nx cx]) ?_ ?_ ?_)
   .simp[Region.wanted,yielded,Act.put,go_sem]
   .simp[execOp,Act.eval,Act.put,go_sem,c0]
   .exact⟨rfl,rfl⟩
  case refine_10=>
   intro D sp w' hD hW hdp hg;rw[hD]at hg
   have d4:=hg.n2;rw[d4]at hg
   have hp:=hg.pre rfl
   (with_reducible refine Ac (w1:=w') (f := 102) (args:=#[.pointer (some ⟨r,0,none⟩),.slice p2 m d,.agg #[.slice px nx cx]]) ?_ ?_ ?_)
   .simp[Region.wanted,yielded,Act.put,go_sem]
   .simp[Act.eval,Act.put,go_sem]
   .refine(Vl (HR4.out.below hp) (HB4.out.below hp) (HX4.out.below hp) h2 (by decide) (by omega) HVB.out).mono ?_;rintro en w9 ⟨_,rfl,⟨p9,n9,c9,rfl,u1,u2⟩,hb⟩;have hu:Cw w9 (p9,n9,c9) NB:=u1;exact⟨_,rfl,trivial,trivial,by simpa [upd,d4]using(hg.later hb (fun x k=>k.below hb) (fun x k=>k.below hb)).put2 hu⟩
  case refine_11=>
   intro D sp w' hD hW hdp hg;have d1:D 4=true:=(hdp 4 (mq (by kernel_rfl))).1;have d2:D 9=true:=(hdp 9 (mq (by kernel_rfl))).1;rw[hD,d1,d2]at hg
   have d4:=hg.n3;rw[d4]at hg
   (with_reducible refine Av (hg.p1 rfl rfl) fun x hx=>Av (hg.p2 rfl rfl) fun y hy=>?_)
   have h1:=hx.1;have h2:=hy.1
   (with_reducible refine Ah (w1:=w') (v:=.agg #[.slice x.1 x.2.1 x.2.2,.slice y.1 y.2.1 y.2.2]) ?_ ?_ ?_)
   .simp only[Region.wanted]
   .simp[execOp,Act.eval,Act.put,go_sem,h1,h2]
   .exact⟨trivial,trivial,by simpa [upd,d1,d2,d4]using hg.put3 hx.2 hy.2⟩
  case refine_12=>
   intro D sp w' hD hW hdp hg;have d3:D 10=true:=(hdp 10 (mq (by kernel_rfl))).1;rw[hD,d3]at hg
   (with_reducible refine Av (hg.p3 rfl rfl) fun x hx=>Av hx fun y hy=>?_)
   have h1:=hy.1;have g0:=eS (HXS4.out.below (hg.pre rfl) HXS4.out.lt).at_
   (with_reducible refine Ap (w1:=set2 w' (w.heap.size+1) (.slice x.1 x.2.1 x.2.2) (.slice y.1 y.2.1 y.2.2)) ?_ ?_ ?_)
   .simp only[Region.wanted]
   .simp[execOp,Act.eval,Act.put,go_sem,h1,g0.1.1,g0.1.2,g0.2.1,g0.2.2,set2]
   .exact⟨trivial,trivial,by simpa [upd,d3]using hg.put4 hy.2.1 hy.2.2⟩
  all_goals
   intro D sp w' hD hW hdp hg;simp[asked,Region.wanted,Oper.gives,execOp,Act.eval,Act.put,go_sem]
 .intro sp w9 hsp hg;obtain⟨w5,x,y,k1,k2,k3,k4⟩:=hg.fin rfl;have hbx5:=HXS4.out.below k1 HXS4.out.lt;have hbz:Cx 75 w9 (w.heap.size+1) (.slice x.1 x.2.1 x.2.2) (.slice y.1 y.2.1 y.2.2):=by rw[k4];exact hbx5.set _ _
  have HN1:Aa (Cw w9 x NA):=⟨by rw[k4];exact Iq (x:=(none,0,0)) (y:=(none,0,0)) k2 hbx5.at_⟩
  have HN2:Aa (Cw w9 y NB):=⟨by rw[k4];exact Iq (x:=(none,0,0)) (y:=(none,0,0)) k3 hbx5.at_⟩
  have HBF:Aa (Below w.heap.size w w9):=⟨by rw[k4];exact(Af HBl.out k1).trans ((put2 hbx5.at_).bel _ (by omega))⟩
  obtain⟨k0,k5⟩:=hbz.cells;clear hsp hg k1 k2 k3 k4 hbx5 hbz hw4 hbx;simp only[Al,Nat.reduceAdd];generalize sp 4=y4,sp 9=y9,sp 10=y10,sp 11=y11 at *
  go_simp
  go_wp2;exact bodyPost_ret (v:=.tuple #[.agg #[.slice x.1 x.2.1 x.2.2,.slice y.1 y.2.1 y.2.2],.int .i64 0]) (by simp[results,Tryz.results42,go_sem,k0,k5]) rfl ⟨x,y,rfl,HN1.out,HN2.out,HBF.out⟩
def mT (t:Nat)(vs ms:List Nat)(w:World)(en:Ending)(w':World):Prop:=∃(p:Option Addr) (c:Nat) (q:Option Addr) (d:Nat),en=.returned (.tuple #[.agg #[.slice p t c,.slice q t d],.int .i64 0])/\Aq w' 33 p t c vs/\Aq w' 33 q t d ms/\((∀a,p=some a->w.heap.size<=a.block)/\∀a,q=some a->w.heap.size<=a.block)/\Below w.heap.size w w'
theorem kI {w:World}{b P Q GG HH es er ed nd cd T M S R:Nat}{pd:Option Addr}{ds:List Nat}{vs vr:Value}(hG:Au w b P Q GG HH)(hs:Fit es S vs w)(hr:Fit er R vr w)(hdl:Aq w ed pd nd cd ds)(hes:es<=200)(her:er<=200)(hed:ed<=200)(hn:nd<=1000)(hT:T=M+1)(hM:T<=64)(hl:2*M<=nd) :
  Calls Tryz.prog 38 #[.pointer (some ⟨b,0,none⟩),.int .i64 (T:Nat),vs,vr,.slice pd nd cd] w (mT (M+1) (Fv Q S (ds.take M)) (Fv Q R ((ds.drop M).take M)) w):=by
 obtain⟨ps,ns,cs,rfl,s1,s2⟩:=Ao hs;obtain⟨pr,nr,cr,rfl,r1,r2⟩:=Ao hr;have hbx:=bH.mk2 w (.slice ps ns cs) (.slice pr nr cr);have hz:(((w.alloc (.cells #[.slice ps ns cs] 37)).alloc (.cells #[.slice pr nr cr] 37))).heap.size=w.heap.size+1+1:=by simp
 have hd:=Cx.made 64 ((w.alloc (.cells #[.slice ps ns cs] 37)).alloc (.cells #[.slice pr nr cr] 37)) (.slice none 0 0) (.slice none 0 0);have hb2:Below (((w.alloc (.cells #[.slice ps ns cs] 37)).alloc (.cells #[.slice pr nr cr] 37))).heap.size ((w.alloc (.cells #[.slice ps ns cs] 37)).alloc (.cells #[.slice pr nr cr] 37)) (((w.alloc (.cells #[.slice ps ns cs] 37)).alloc (.cells #[.slice pr nr cr] 37)).alloc (.cells #[.slice none 0 0,.slice none 0 0] 64)):=Bt;have hx0:=hbx.b0.below hb2 hbx.b0.lt;have hx1:=hbx.b1.below hb2 hbx.b1.lt;have hba:=Af hbx.bel hb2;rw[hz]at hd
 obtain⟨wa,hwa⟩:∃wa,(((w.alloc (.cells #[.slice ps ns cs] 37)).alloc (.cells #[.slice pr nr cr] 37)).alloc (.cells #[.slice none 0 0,.slice none 0 0] 64))=wa:=⟨_,rfl⟩
 rw[hwa]at hd hx0 hx1 hba
 obtain⟨M2,hM2'⟩:∃K,2*M=K:=⟨_,rfl⟩
 obtain⟨pb,hpb⟩:∃q,Vy pd cd M=q:=⟨_,rfl⟩
 obtain⟨cb,hcb⟩:∃q,cd-M=q:=⟨_,rfl⟩
 have hcap:=hdl.cap;have HL1:=Ab ((hdl.front (H:=M) (by omega)).below hba);have hp2:=(hdl.part (L:=M) (H:=M2) (by omega) (by omega)).below hba;rw[show M2-M=M by omega,hpb,hcb]at hp2
 have HL2:=Ab hp2;have HSL1:Aa (∀w',(Instr.sliceAt 62 (.slice pd nd cd) none (some (.int .i64 (M:Int))) none).run Tryz.prog w'=.ok (.slice pd M cd) w'):=⟨fun w'=>fL (by omega) w'⟩
 have HSL2:Aa (∀w',(Instr.sliceAt 62 (.slice pd nd cd) (some (.int .i64 (M:Int))) (some (.int .i64 (M2:Int))) none).run Tryz.prog w'=.ok (.slice pb M cb) w'):=⟨fun w'=>by
  have h:=cB (p:=pd) (n:=nd) (c:=cd) (L:=M) (H:=M2) (by omega) (by omega) w';rw[show M2-M=M by omega,hpb,hcb]at h
  exact h⟩
 have HXS:=Ab hx0;have HXR:=Ab hx1;have HXD:=Ab hd;have HB0:=Ab hba;have HG0:=Ab (hG.below hba);have HFS:=Ab ((Fit.of s1 s2).below hba);have HFR:=Ab ((Fit.of r1 r2).below hba);have HJ:Aa (decide (1<=(T:Int)/\(T:Int)<=64)=true):=⟨decide_eq_true (by omega)⟩
 obtain⟨VS,hVS⟩:∃l,Fv Q S (ds.take M)=l:=⟨_,rfl⟩
 obtain⟨MS,hMS⟩:∃l,Fv Q R ((ds.drop M).take M)=l:=⟨_,rfl⟩
 rw[hVS,hMS];have HVS:=Ab hVS;have HVM:=Ab hMS;have hTM:(T:Int)-1=M:=by omega
 have hM2:2*(M:Int)=M2:=by omega
 have hnlt:¬(nd:Int)<M2:=by omega
 have hWM2:IntKind.i64.wrap (M2:Int)=M2:=IntWalk.i64_in _ (by omega);have hm63:M<=63:=by omega
 have HM1:Aa (M<=63):=⟨by omega⟩
 have HMc:Aa (M<=cd/\M2<=cd):=⟨by omega⟩
 clear hG hs hr hdl s1 s2 r1 r2 hbx hz hd hb2 hx0 hx1 hba hVS hMS hpb hcb hp2 hM2' hT hM hl hcap;go_enter Tryz.func38,Tryz.ntmps38
 go_wp2_with fail
 refine(Dj _ HJ.out).mono ?_;rintro en w4 ⟨rfl,b1⟩;have HXS4:=Ab (HXS.out.below b1 HXS.out.lt);have HXR4:=Ab (HXR.out.below b1 HXR.out.lt);have HXD4:=Ab (HXD.out.later b1);have HG4:=Ab (HG0.out.below b1);have HFS4:=Ab (HFS.out.below b1);have HFR4:=Ab (HFR.out.below b1);have HL1':=Ab (HL1.out.below b1);have HL2':=Ab (HL2.out.below b1);have HBl:=Ab (Af HB0.out b1);clear b1 HXS HXR HXD HG0 HFS HFR HL1 HL2 HB0 hwa;go_wp2;refine Ak (by kernel_rfl) (by kernel_rfl)
  [some (.slice pd nd cd),some (.int .i64 (M:Int)),some (.slice pd M cd),some (.slice pd nd cd),some (.int .i64 (M:Int)),some (.int .i64 (M:Int)),some (.int .i64 (M2:Int)),some (.slice pb M cb),some (.slice pd M cd),some (.slice pb M cb)]
  [false,false,false,false,false,false,false,false,false,false] rfl
  (fun w1 w2=>Below w1.heap.size w1 w2)
  (fun _ w'=>Below w4.heap.size w4 w')
  (fun i v w'=>match i with
   | _=>True)
  ?_ (Ba _ _).drew ?_ ?_
 .intro i v w1 w2 hf hb;split at hf
  .trivial
 .simp only[Bb,Nat.reduceAdd];refine⟨?_,?_,?_,?_,?_,?_,?_,?_,?_,?_,trivial⟩
  all_goals intro D sp w' hD hW hdp hbx'
  case refine_3=>
   have c0:=HSL1.out w'
   with_reducible refine Ad ?_ ?_
   all_goals simp[Region.wanted,yielded,execOp,Act.eval,Act.put,go_sem,c0]
  case refine_7=>
   (with_reducible refine Ah (w1:=w') (v:=.int .i64 (M2:Int)) ?_ ?_ ?_)
   .simp[Region.wanted,yielded,Act.put,go_sem]
   .simp[execOp,Act.eval,Act.put,go_sem,hM2,hWM2]
   .exact⟨rfl,rfl⟩
  case refine_8=>
   have c0:=HSL2.out w'
   with_reducible refine Ad ?_ ?_
   all_goals simp[Region.wanted,yielded,execOp,Act.eval,Act.put,go_sem,c0]
  all_goals ((with_reducible refine Ad ?_ ?_);all_goals first|(simp only[Region.wanted];done)|simp[Region.wanted,yielded,execOp,Act.eval,Act.put,go_sem])
 .intro sp wq hsp hbx';have HXS5:=Ab (HXS4.out.below hbx' HXS4.out.lt);have HXR5:=Ab (HXR4.out.below hbx' HXR4.out.lt);have HXD5:=Ab (HXD4.out.later hbx');have HG5:=Ab (HG4.out.below hbx');have HFS5:=Ab (HFS4.out.below hbx');have HFR5:=Ab (HFR4.out.below hbx');have HL15:=Ab (HL1'.out.below hbx');have HL25:=Ab (HL2'.out.below hbx');have HBl5:=Ab (Af HBl.out hbx');clear hsp hbx' HXS4 HXR4 HXD4 HG4 HFS4 HFR4 HL1' HL2' HBl hTM hM2 hnlt hWM2 hm63;simp only[Al]
  go_simp
  go_wp2;refine Aj (by kernel_rfl) (by kernel_rfl)
   [some (.pointer (some ⟨b,0,none⟩)),some (.agg #[.slice ps ns cs]),some (.slice pd M cd),none,some (.pointer (some ⟨b,0,none⟩)),some (.agg #[.slice pr nr cr]),some (.slice pb M cb),none,none,none,some (.int .i64 0)]
   [false,false,false,true,false,false,false,true,true,true,false] rfl
   (fun _ _=>True) (fun D sp w'=>S2 wq (fun x=>.slice x.1 x.2.1 x.2.2) (fun x w=>x.2.1=M+1/\Aq w 33 x.1 (M+1) x.2.2 VS/\∀a,x.1=some a->wq.heap.size<=a.block) (fun x w=>x.2.1=M+1/\Aq w 33 x.1 (M+1) x.2.2 MS/\∀a,x.1=some a->wq.heap.size<=a.block) (w.heap.size+1+1) (D 3) (D 7) (D 8) (D 9) (sp 3) (sp 7) (sp 8) w') (fun _ _ _=>True) (fun _ _ _ _ _ _=>trivial)
   S2.start ?_ ?_
  .simp only[Az,Nat.reduceAdd];refine⟨?_,?_,?_,?_,?_,?_,?_,?_,?_,?_,?_,trivial⟩
   case refine_2=>
    intro D sp w' hD hW hdp hg;have dc:D 3=false:=hW 3 (mq (by kernel_rfl));rw[dc]at hg
    have d4:=hg.n1;rw[d4]at hg
    have hp:=hg.pre rfl;have c0:=(HXS5.out.below hp HXS5.out.lt).cell
    (with_reducible refine Ah (w1:=w') (v:=.agg #[.slice ps ns cs]) ?_ ?_ ?_)
    .simp[Region.wanted,yielded,Act.put,go_sem]
    .simp[execOp,Act.eval,Act.put,go_sem,c0]
    .exact⟨rfl,rfl⟩
   case refine_4=>
    intro D sp w' hD hW hdp hg;rw[hD]at hg
    have d4:=hg.n1;rw[d4]at hg
    have hp:=hg.pre rfl
    (with_reducible refine Ac (w1:=w') (f := 100) (args:=#[.pointer (some ⟨b,0,none⟩),.agg #[.slice ps ns cs],.slice pd M cd]) ?_ ?_ ?_)
    .simp[Region.wanted,yielded,Act.put,go_sem]
    .simp[Act.eval,Act.put,go_sem]
    .refine(Za (HG5.out.below hp) (HFS5.out.below hp) (HL15.out.below hp) hes hed (by have:=HM1.out;omega)).mono ?_;rintro en w9 ⟨_,rfl,⟨q9,c9,rfl,u1,u2⟩,hb⟩;rw[HVS.out]at u1
     have hu:(M+1=M+1)/\Aq w9 33 q9 (M+1) c9 VS/\∀a,q9=some a->wq.heap.size<=a.block:=⟨rfl,u1,fun a ha=>Er hp.size (u2 a ha)⟩
     replace hu:=(show (fun x:P3=>x.2.1=M+1/\Aq w9 33 x.1 (M+1) x.2.2 VS/\∀a,x.1=some a->wq.heap.size<=a.block) (q9,M+1,c9) from hu)
     exact⟨_,rfl,trivial,trivial,by simpa [upd,d4]using(hg.later hb (fun x k=>⟨k.1,k.2.1.below hb,k.2.2⟩) (fun x k=>⟨k.1,k.2.1.below hb,k.2.2⟩)).put1 hu⟩
   case refine_6=>
    intro D sp w' hD hW hdp hg;have dc:D 7=false:=hW 7 (mq (by kernel_rfl));rw[dc]at hg
    have d4:=hg.n2;rw[d4]at hg
    have hp:=hg.pre rfl;have c0:=(HXR5.out.below hp HXR5.out.lt).cell
    (with_reducible refine Ah (w1:=w') (v:=.agg #[.slice pr nr cr]) ?_ ?_ ?_)
    .simp[Region.wanted,yielded,Act.put,go_sem]
    .simp[execOp,Act.eval,Act.put,go_sem,c0]
    .exact⟨rfl,rfl⟩
   case refine_8=>
    intro D sp w' hD hW hdp hg;rw[hD]at hg
    have d4:=hg.n2;rw[d4]at hg
    have hp:=hg.pre rfl
    (with_reducible refine Ac (w1:=w') (f := 100) (args:=#[.pointer (some ⟨b,0,none⟩),.agg #[.slice pr nr cr],.slice pb M cb]) ?_ ?_ ?_)
    .simp[Region.wanted,yielded,Act.put,go_sem]
    .simp[Act.eval,Act.put,go_sem]
    .refine(Za (HG5.out.below hp) (HFR5.out.below hp) (HL25.out.below hp) her hed (by have:=HM1.out;omega)).mono ?_;rintro en w9 ⟨_,rfl,⟨q9,c9,rfl,u1,u2⟩,hb⟩;rw[HVM.out]at u1
     have hu:(M+1=M+1)/\Aq w9 33 q9 (M+1) c9 MS/\∀a,q9=some a->wq.heap.size<=a.block:=⟨rfl,u1,fun a ha=>Er hp.size (u2 a ha)⟩
     replace hu:=(show (fun x:P3=>x.2.1=M+1/\Aq w9 33 x.1 (M+1) x.2.2 MS/\∀a,x.1=some a->wq.heap.size<=a.block) (q9,M+1,c9) from hu)
     exact⟨_,rfl,trivial,trivial,by simpa [upd,d4]using(hg.later hb (fun x k=>⟨k.1,k.2.1.below hb,k.2.2⟩) (fun x k=>⟨k.1,k.2.1.below hb,k.2.2⟩)).put2 hu⟩
   case refine_9=>
    intro D sp w' hD hW hdp hg;have d1:D 3=true:=(hdp 3 (mq (by kernel_rfl))).1;have d2:D 7=true:=(hdp 7 (mq (by kernel_rfl))).1;rw[hD,d1,d2]at hg
    have d4:=hg.n3;rw[d4]at hg
    (with_reducible refine Av (hg.p1 rfl rfl) fun x hx=>Av (hg.p2 rfl rfl) fun y hy=>?_)
    have h1:=hx.1;have h2:=hy.1
    (with_reducible refine Ah (w1:=w') (v:=.agg #[.slice x.1 x.2.1 x.2.2,.slice y.1 y.2.1 y.2.2]) ?_ ?_ ?_)
    .simp only[Region.wanted]
    .simp[execOp,Act.eval,Act.put,go_sem,h1,h2]
    .exact⟨trivial,trivial,by simpa [upd,d1,d2,d4]using hg.put3 hx.2 hy.2⟩
   case refine_10=>
    intro D sp w' hD hW hdp hg;have d3:D 8=true:=(hdp 8 (mq (by kernel_rfl))).1;rw[hD,d3]at hg
    (with_reducible refine Av (hg.p3 rfl rfl) fun x hx=>Av hx fun y hy=>?_)
    have h1:=hy.1;have g0:=eS (HXD5.out.below (hg.pre rfl) HXD5.out.lt).at_
    (with_reducible refine Ap (w1:=set2 w' (w.heap.size+1+1) (.slice x.1 x.2.1 x.2.2) (.slice y.1 y.2.1 y.2.2)) ?_ ?_ ?_)
    .simp only[Region.wanted]
    .simp[execOp,Act.eval,Act.put,go_sem,h1,g0.1.1,g0.1.2,g0.2.1,g0.2.2,set2]
    .exact⟨trivial,trivial,by simpa [upd,d3]using hg.put4 hy.2.1 hy.2.2⟩
   all_goals
    intro D sp w' hD hW hdp hg;simp[asked,Region.wanted,Oper.gives,execOp,Act.eval,Act.put,go_sem]
  .intro sp w9 hsp hg;obtain⟨w5,x,y,k1,k2,k3,k4⟩:=hg.fin rfl;obtain⟨px,nx,cx⟩:=x;obtain⟨py,ny,cy⟩:=y
   dsimp only at k2 k3 k4
   obtain⟨rfl,k2,k2'⟩:=k2;obtain⟨rfl,k3,k3'⟩:=k3;have hbx5:=HXD5.out.below k1 HXD5.out.lt;have hbz:Cx 64 w9 (w.heap.size+1+1) (.slice px (M+1) cx) (.slice py (M+1) cy):=by rw[k4];exact hbx5.set _ _
   have HN1:Aa (Aq w9 33 px (M+1) cx VS):=⟨by rw[k4];exact Jg (x:=(none,0,0)) (y:=(none,0,0)) k2 hbx5.at_ HXD5.out.lt k2'⟩
   have HN2:Aa (Aq w9 33 py (M+1) cy MS):=⟨by rw[k4];exact Jg (x:=(none,0,0)) (y:=(none,0,0)) k3 hbx5.at_ HXD5.out.lt k3'⟩
   have HBF:Aa (Below w.heap.size w w9):=⟨by rw[k4];exact(Af HBl5.out k1).trans ((put2 hbx5.at_).bel _ (by omega))⟩
   have HFR1:Aa (∀a,px=some a->w.heap.size<=a.block):=⟨fun a ha=>Er HBl5.out.size (k2' a ha)⟩
   have HFR2:Aa (∀a,py=some a->w.heap.size<=a.block):=⟨fun a ha=>Er HBl5.out.size (k3' a ha)⟩
   obtain⟨k0,k5⟩:=hbz.cells;clear hsp hg k1 k2 k3 k4 k2' k3' hbx5 hbz;simp only[Al,Nat.reduceAdd];generalize sp 3=y3,sp 7=y7,sp 8=y8,sp 9=y9 at *
   go_simp
   go_wp2;exact bodyPost_ret (v:=.tuple #[.agg #[.slice px (M+1) cx,.slice py (M+1) cy],.int .i64 0]) (by simp[results,Tryz.results38,go_sem,k0,k5]) rfl ⟨px,cx,py,cy,rfl,HN1.out,HN2.out,⟨HFR1.out,HFR2.out⟩,HBF.out⟩
end Go.Proofs.YtokhckjemidbpaaGreatDoor
