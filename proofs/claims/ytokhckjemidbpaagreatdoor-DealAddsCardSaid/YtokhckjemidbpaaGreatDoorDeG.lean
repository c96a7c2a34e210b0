/- The statements of stage 14: the chapter's example, and the dealing that they make. -/
import Derived.Test.YtokhckjemidbpaaGreatDoorDeE
set_option maxRecDepth 1000000
set_option maxHeartbeats 16000000
set_option linter.all false
namespace Go.Proofs.YtokhckjemidbpaaGreatDoor
open Go Go.RowKit Go.Proofs.YtokhckjemidbpaaGreatDoor.Flow
theorem Uy {w1:World}{v v':Value}(h:Po w1 v v'){g:Nat}(hg:g<w1.heap.size)(hn:v.ownBlock≠some g):v'.ownBlock≠some g:=fun e=>by
 rcases h with h|h
 .rw[h]at e;exact hn e
 .have:=h g e;omega
structure R3 (w:World) (B:Nat) (v1 v2 v3:Value) (us1 us2 us3:List P3):Prop where
 r1:Cy w B v1 us1
 r2:Cy w B v2 us2
 r3:Cy w B v3 us3
 s12:∀g,v1.ownBlock=some g->v2.ownBlock≠some g
 s13:∀g,v1.ownBlock=some g->v3.ownBlock≠some g
 s23:∀g,v2.ownBlock=some g->v3.ownBlock≠some g
section
variable {w:World} {B:Nat} {v1 v2 v3:Value} {us1 us2 us3:List P3}
theorem R3.start (w:World)(B:Nat):R3 w B (.slice none 0 0) (.slice none 0 0) (.slice none 0 0) [] [] []:=⟨Cy.nil _ _,Cy.nil _ _,Cy.nil _ _,(fun _ h=>by cases h),(fun _ h=>by cases h),fun _ h=>by cases h⟩
theorem R3.below {w':World}(h:R3 w B v1 v2 v3 us1 us2 us3)(hb:Below w.heap.size w w'):R3 w' B v1 v2 v3 us1 us2 us3:=⟨h.r1.below hb,h.r2.below hb,h.r3.below hb,h.s12,h.s13,h.s23⟩
theorem R3.rot (h:R3 w B v1 v2 v3 us1 us2 us3):R3 w B v2 v3 v1 us2 us3 us1:=⟨h.r2,h.r3,h.r1,h.s23,fun g h1 h2=>h.s12 g h2 h1,fun g h1 h2=>h.s13 g h2 h1⟩
theorem R3.app1 (h:R3 w B v1 v2 v3 us1 us2 us3){a:Addr}{c:Nat}{x:P3}(hc:w.cell? a=some (sv x))(hB:B<=w.heap.size)(hl:us1.length<=100000)(ty:TypeId) :
  ∃v' w',(Builtin.append_ #[62, 62] ty #[v1,.slice (some a) 1 c]).run Tryz.prog w=.ok v' w'/\R3 w' B v' v2 v3 (us1++[x]) us2 us3/\w.grownBy w' v1.ownBlock:=by
 obtain⟨v',w',k1,k2,k3,k4⟩:=h.r1.app (c:=c) hc hB hl ty;refine⟨v',w',k1,⟨k2,h.r2.keep fun g hg=>k3.block g (h.r2.own hg).2 fun e=>h.s12 g e.symm hg,h.r3.keep fun g hg=>k3.block g (h.r3.own hg).2 fun e=>h.s13 g e.symm hg,?_,?_,h.s23⟩,k3⟩
 .intro g hg hg2;exact Uy k4 (h.r2.own hg2).2 (fun e=>h.s12 g e hg2) hg
 .intro g hg hg2;exact Uy k4 (h.r3.own hg2).2 (fun e=>h.s13 g e hg2) hg
theorem R3.app2 (h:R3 w B v1 v2 v3 us1 us2 us3){a:Addr}{c:Nat}{x:P3}(hc:w.cell? a=some (sv x))(hB:B<=w.heap.size)(hl:us2.length<=100000)(ty:TypeId) :
  ∃v' w',(Builtin.append_ #[62, 62] ty #[v2,.slice (some a) 1 c]).run Tryz.prog w=.ok v' w'/\R3 w' B v1 v' v3 us1 (us2++[x]) us3/\w.grownBy w' v2.ownBlock :=
 let ⟨v',w',k1,k2,k3⟩:=h.rot.app1 (c:=c) hc hB hl ty
 ⟨v',w',k1,k2.rot.rot,k3⟩
theorem R3.app3 (h:R3 w B v1 v2 v3 us1 us2 us3){a:Addr}{c:Nat}{x:P3}(hc:w.cell? a=some (sv x))(hB:B<=w.heap.size)(hl:us3.length<=100000)(ty:TypeId) :
  ∃v' w',(Builtin.append_ #[62, 62] ty #[v3,.slice (some a) 1 c]).run Tryz.prog w=.ok v' w'/\R3 w' B v1 v2 v' us1 us2 (us3++[x])/\w.grownBy w' v3.ownBlock :=
 let ⟨v',w',k1,k2,k3⟩:=h.rot.rot.app1 (c:=c) hc hB hl ty
 ⟨v',w',k1,k2.rot,k3⟩
end
theorem Nc {w w':World}{B b:Nat}{v0 v1 v2 v:Value}{us:List P3}{T:TypeId}(h:If T w b v0 v1 v2)(hr:Cy w B v us)(hg:w.grownBy w' v.ownBlock)(hT:T ≠ 37):If T w' b v0 v1 v2:=⟨by
 rw[hg.block b h.lt fun e=>?_]
 .exact h.at_
 .rcases hr.ex with ⟨rfl,_⟩|⟨g,cap,rest,rfl,_,h2,_⟩
  .cases e
  .have e2:b=g:=by simpa [Value.ownBlock]using e
   subst e2;have h3:=h.at_
   unfold Eh at h2;rw[h2]at h3
   injection h3 with h4
   injection h4 with _ h5
   exact absurd h5.symm hT⟩
def mM (A B:Nat)(w:World)(en:Ending)(w':World):Prop:=∃x y:P3,en=.returned (.agg #[.slice x.1 x.2.1 x.2.2,.slice y.1 y.2.1 y.2.2])/\(Cw w' x A/\A<An 33)/\(Cw w' y B/\B<An 33)/\Below w.heap.size w w'
theorem dN {q n:Nat}{xs:List Nat}(hn:n≠0)(h:(xs.map fun x=>x%q).Nodup):Fb q n n xs=0:=by
 unfold Fb;rw[if_neg hn,if_neg (fun h=>h rfl),if_pos h]
theorem dC {w:World}{b P Q GG HH e n c X A1 A2:Nat}{p:Option Addr}{l:List Fi}{v:Value}(hq:Bl Q)(hg:Au w b P Q GG HH)(hl:Ua w 33 p n c l)(hX:Fit e X v w)(he:e<=200)(hn:0<n/\n<=12)(hpe:∀s∈l,∃j:Nat,s.1=(j:Int)/\j<=64)(hu:((l.map fun p=>p.1.toNat).map fun x=>x%Q).Nodup)(hA1:Px Q X (fun p=>p.2.1) l=A1)(hA2:Px Q X (fun p=>p.2.2) l=A2) :
  Calls Tryz.prog 107 #[.pointer (some ⟨b,0,none⟩),.slice p n c,v] w (mM A1 A2 w):=by
 obtain⟨px,nx,cx,rfl,x1,x2⟩:=Ao hX;have hxb:=Ae.made w (.slice px nx cx);have hz:(w.alloc (.cells #[.slice px nx cx] 37)).heap.size=w.heap.size+1:=by simp
 have hb0:Below w.heap.size w (w.alloc (.cells #[.slice px nx cx] 37)):=Bt;have hs:=Cx.made 75 (w.alloc (.cells #[.slice px nx cx] 37)) (.slice none 0 0) (.slice none 0 0);have hb2:Below (w.alloc (.cells #[.slice px nx cx] 37)).heap.size (w.alloc (.cells #[.slice px nx cx] 37)) ((w.alloc (.cells #[.slice px nx cx] 37)).alloc (.cells #[.slice none 0 0,.slice none 0 0] 75)):=Bt;have hxb2:=hxb.below hb2 hxb.lt;have hba:=Af hb0 hb2;rw[hz]at hs
 obtain⟨wa,hwa⟩:∃wa,((w.alloc (.cells #[.slice px nx cx] 37)).alloc (.cells #[.slice none 0 0,.slice none 0 0] 75))=wa:=⟨_,rfl⟩
 rw[hwa]at hs hxb2 hba
 have HXB:=Ab hxb2;have HXS:=Ab hs;have HB:=Ab hba;have HG:=Ab (hg.below hba);have HL:=Ab (hl.below hba);have HX:=Ab ((Fit.of x1 x2).below hba);have HLn:=Ab hl.len;have hcap:=hl.cap;have hmax:=hl.max;have HPE:=Ab hpe;have HQ:=Ab hq;have HNN:=Ab hn;have HFN:=Ab (dN (q:=Q) (n:=n) (by omega) hu);have HA1:=Ab hA1;have HA2:=Ab hA2;clear hg hl hX x1 x2 hxb hz hb0 hs hb2 hxb2 hba hpe hq hn hu hA1 hA2;go_enter Tryz.func107,Tryz.ntmps107;go_wp2
 go_loopw [7,8,9,11,19] (fun v1 v2 v3 _ iv wr=>∃(k:Nat) (us1 us2 us3:List P3),k<=n/\iv=.int .i64 k/\Aa (Below wa.heap.size wa wr)/\Aa (R3 wr wa.heap.size v1 v2 v3 us1 us2 us3)/\Aa (Cn wr 2 us1 ((l.take k).map fun p=>p.1.toNat))/\Aa (Cn wr 33 us2 ((l.take k).map fun p=>p.2.1))/\Aa (Cn wr 33 us3 ((l.take k).map fun p=>p.2.2))) (fun _ _ _ _ iv _=>n-(intOf iv).toNat)
 case atStart=>exact⟨0,[],[],[],by omega,rfl,⟨Ba _ _⟩,⟨R3.start _ _⟩,⟨Cn.nil _ _⟩,⟨Cn.nil _ _⟩,⟨Cn.nil _ _⟩⟩
 case round=>
  clear hwa;obtain⟨k,us1,us2,us3,hk,rfl,HBr,HR,HT1,HT2,HT3⟩:=hrel
  by_cases hkn:k<n
  .obtain⟨S,hSk⟩:∃s,l[k]? = some s:=⟨l[k]'(by rw[<-HLn.out];exact hkn),List.getElem?_eq_getElem _⟩
   obtain⟨J,hJ,hJ64⟩:=HPE.out S (List.mem_of_getElem? hSk);obtain⟨bb,off,rfl,hbl,Bg⟩:=HL.out.at_ (by omega)
   obtain⟨x,y,x0,x1,x2,x3⟩:=Bg k S hSk;rw[hJ]at x0
   have c0:wr.cell? ⟨bb,off+k*3,none⟩=some (.int .i64 (J:Int)):=(HBr.out.cell (p:=⟨bb,off+k*3,none⟩) hbl).trans x0;have c1:wr.cell? ⟨bb,off+k*3+1,none⟩=some (.slice x.1 x.2.1 x.2.2):=(HBr.out.cell (p:=⟨bb,off+k*3+1,none⟩) hbl).trans x1;have c2:wr.cell? ⟨bb,off+k*3+2,none⟩=some (.slice y.1 y.2.1 y.2.2):=(HBr.out.cell (p:=⟨bb,off+k*3+2,none⟩) hbl).trans x2;have hb1:Below wr.heap.size wr (wr.alloc (.cells #[.int .i64 (J:Int),.slice x.1 x.2.1 x.2.2,.slice y.1 y.2.1 y.2.2] 92)):=Bt;have hx1:=If.made 92 wr (.int .i64 (J:Int)) (.slice x.1 x.2.1 x.2.2) (.slice y.1 y.2.1 y.2.2);obtain⟨bp,hbp⟩:∃x,wr.heap.size=x:=⟨_,rfl⟩
   obtain⟨w1,hw1⟩:∃w1,wr.alloc (.cells #[.int .i64 (J:Int),.slice x.1 x.2.1 x.2.2,.slice y.1 y.2.1 y.2.2] 92)=w1:=⟨_,rfl⟩
   rw[hw1]at hb1 hx1
   rw[hbp]at hx1
   have HX1:=Ab hx1;have HB1:=Ab (Af HBr.out hb1);have HR1:=Ab (HR.out.below hb1);have HT11:=Ab (HT1.out.below hb1);have HT21:=Ab (HT2.out.below hb1);have HT31:=Ab (HT3.out.below hb1);have HTK:Aa (l.take (k+1)=l.take k++[S]):=⟨Cz hSk⟩
   have HSJ:Aa (S.1.toNat=J):=⟨by rw[hJ];rfl⟩
   have HL1:Aa (us1.length<=100000):=⟨by rw[HT1.out.len,List.length_map,List.length_take];have:=HNN.out;omega⟩
   have HL2:Aa (us2.length<=100000):=⟨by rw[HT2.out.len,List.length_map,List.length_take];have:=HNN.out;omega⟩
   have HL3:Aa (us3.length<=100000):=⟨by rw[HT3.out.len,List.length_map,List.length_take];have:=HNN.out;omega⟩
   have HNXY:Aa (Pn 33 S x y wa):=⟨x3⟩
   have HJL:Aa (J<=1000000):=⟨by omega⟩
   have hkn':(k:Int)<n:=by omega
   have d0:=HX1.out.cells.1;clear hSk hJ hbl Bg x0 x1 x2 x3 hb1 hx1 HBr HR HT1 HT2 HT3
   go_wp2_with fail
   refine(Kk _ HJL.out).mono ?_;rintro en w3 ⟨_,rfl,⟨po,no,co,rfl,o1,o2⟩,b3⟩;have HXw3:=Ab (HX1.out.below b3 HX1.out.lt);have HBw3:=Ab (Af HB1.out b3);have HRw3:=Ab (HR1.out.below b3);have HT1w3:=Ab (HT11.out.below b3);have HT2w3:=Ab (HT21.out.below b3);have HT3w3:=Ab (HT31.out.below b3);clear b3 HX1 HB1 HR1 HT11 HT21 HT31 d0 c0 c1 c2 hw1 hbp;have hbw3a:Below w3.heap.size w3 (w3.alloc (.cells #[.slice po no co] 37)):=Bt;have hcw3a:(w3.alloc (.cells #[.slice po no co] 37)).cell? ⟨w3.heap.size,0,none⟩=some (.slice po no co):=(Ae.made w3 (.slice po no co)).cell;obtain⟨w3a,hw3a⟩:∃zz,w3.alloc (.cells #[.slice po no co] 37)=zz:=⟨_,rfl⟩
   rw[hw3a]at hbw3a hcw3a
   have hBw3a:=Af HBw3.out hbw3a;have hrw3a:=HRw3.out.below hbw3a;obtain⟨vw4,w4,happ,hrw4,hgw4⟩:=hrw3a.app1 (x:=(po,no,co)) hcw3a hBw3a.size HL1.out 62 (c:=1);have HRw4:=Ab hrw4;have HBw4:Aa (Below wa.heap.size wa w4):=⟨hBw3a.grown hgw4 hBw3a.size fun g hg=>(hrw3a.r1.own hg).1⟩
   have HXw4:=Ab (Nc (HXw3.out.below hbw3a HXw3.out.lt) hrw3a.r1 hgw4 (by decide));have HT2w4:=Ab ((HT2w3.out.below hbw3a).grown hrw3a.r1 hgw4);have HT3w4:=Ab ((HT3w3.out.below hbw3a).grown hrw3a.r1 hgw4);have HT1w4:=Ab (((HT1w3.out.below hbw3a).grown hrw3a.r1 hgw4).snoc (x:=(po,no,co)) (Dx hrw3a.r1 hgw4 (o1.below hbw3a)) o2);clear hbw3a hcw3a hBw3a hrw3a hrw4 hgw4 o1 o2
   go_wp2_with (at_builtin;refine Lib.wpList_append_run _ rfl _ _ _ _ rfl _ _ rfl rfl _ _ happ ?_;refine Gn.out ?_)
   refine⟨?_⟩;clear happ;have HNX4:Aa (Cw w4 x S.2.1/\S.2.1<An 33):=⟨HNXY.out.n.below HBw4.out,HNXY.out.ln⟩
   have d1:=HXw4.out.cells.2.1;have hbw4a:Below w4.heap.size w4 (w4.alloc (.cells #[.slice x.1 x.2.1 x.2.2] 37)):=Bt;have hcw4a:(w4.alloc (.cells #[.slice x.1 x.2.1 x.2.2] 37)).cell? ⟨w4.heap.size,0,none⟩=some (.slice x.1 x.2.1 x.2.2):=(Ae.made w4 (.slice x.1 x.2.1 x.2.2)).cell;obtain⟨w4a,hw4a⟩:∃zz,w4.alloc (.cells #[.slice x.1 x.2.1 x.2.2] 37)=zz:=⟨_,rfl⟩
   rw[hw4a]at hbw4a hcw4a
   have hBw4a:=Af HBw4.out hbw4a;have hrw4a:=HRw4.out.below hbw4a;obtain⟨vw5,w5,happ,hrw5,hgw5⟩:=hrw4a.app2 (x:=x) hcw4a hBw4a.size HL2.out 62 (c:=1);have HRw5:=Ab hrw5;have HBw5:Aa (Below wa.heap.size wa w5):=⟨hBw4a.grown hgw5 hBw4a.size fun g hg=>(hrw4a.r2.own hg).1⟩
   have HXw5:=Ab (Nc (HXw4.out.below hbw4a HXw4.out.lt) hrw4a.r2 hgw5 (by decide));have HT1w5:=Ab ((HT1w4.out.below hbw4a).grown hrw4a.r2 hgw5);have HT3w5:=Ab ((HT3w4.out.below hbw4a).grown hrw4a.r2 hgw5);have HT2w5:=Ab (((HT2w4.out.below hbw4a).grown hrw4a.r2 hgw5).snoc (x:=x) (Dx hrw4a.r2 hgw5 (HNX4.out.1.below hbw4a)) HNX4.out.2);clear hbw4a hcw4a hBw4a hrw4a hrw5 hgw5
   go_wp2_with (at_builtin;refine Lib.wpList_append_run _ rfl _ _ _ _ rfl _ _ rfl rfl _ _ happ ?_;refine Gn.out ?_)
   refine⟨?_⟩;clear happ;have HNY5:Aa (Cw w5 y S.2.2/\S.2.2<An 33):=⟨HNXY.out.r.below HBw5.out,HNXY.out.lr⟩
   have d2:=HXw5.out.cells.2.2;clear d1;have hbw5a:Below w5.heap.size w5 (w5.alloc (.cells #[.slice y.1 y.2.1 y.2.2] 37)):=Bt;have hcw5a:(w5.alloc (.cells #[.slice y.1 y.2.1 y.2.2] 37)).cell? ⟨w5.heap.size,0,none⟩=some (.slice y.1 y.2.1 y.2.2):=(Ae.made w5 (.slice y.1 y.2.1 y.2.2)).cell;obtain⟨w5a,hw5a⟩:∃zz,w5.alloc (.cells #[.slice y.1 y.2.1 y.2.2] 37)=zz:=⟨_,rfl⟩
   rw[hw5a]at hbw5a hcw5a
   have hBw5a:=Af HBw5.out hbw5a;have hrw5a:=HRw5.out.below hbw5a;obtain⟨vw6,w6,happ,hrw6,hgw6⟩:=hrw5a.app3 (x:=y) hcw5a hBw5a.size HL3.out 62 (c:=1);have HRw6:=Ab hrw6;have HBw6:Aa (Below wa.heap.size wa w6):=⟨hBw5a.grown hgw6 hBw5a.size fun g hg=>(hrw5a.r3.own hg).1⟩
   have HXw6:=Ab (Nc (HXw5.out.below hbw5a HXw5.out.lt) hrw5a.r3 hgw6 (by decide));have HT1w6:=Ab ((HT1w5.out.below hbw5a).grown hrw5a.r3 hgw6);have HT2w6:=Ab ((HT2w5.out.below hbw5a).grown hrw5a.r3 hgw6);have HT3w6:=Ab (((HT3w5.out.below hbw5a).grown hrw5a.r3 hgw6).snoc (x:=y) (Dx hrw5a.r3 hgw6 (HNY5.out.1.below hbw5a)) HNY5.out.2);clear hbw5a hcw5a hBw5a hrw5a hrw6 hgw6
   go_wp2_with (at_builtin;refine Lib.wpList_append_run _ rfl _ _ _ _ rfl _ _ rfl rfl _ _ happ ?_;refine Gn.out ?_)
   refine⟨?_⟩;clear happ;clear d2;go_wp2;go_roundw
   case rel=>exact⟨k+1,_,_,_,by omega,by go_num,HBw6,HRw6,⟨by rw[HTK.out,List.map_append,List.map_singleton,HSJ.out];exact HT1w6.out⟩,⟨by rw[HTK.out,List.map_append,List.map_singleton];exact HT2w6.out⟩,⟨by rw[HTK.out,List.map_append,List.map_singleton];exact HT3w6.out⟩⟩
   case measure=>simp[intOf];omega
  .obtain rfl:k=n:=by omega
   have hkn':¬(k:Int)<k:=by omega
   have htk:l.take k=l:=List.take_of_length_le (by rw[<-HLn.out];exact Aw _);rw[htk]at HT1 HT2 HT3
   obtain⟨q1,d1,rfl,hp1⟩:=HR.out.r1.plist HT1.out;obtain⟨q2,d2,rfl,hp2⟩:=HR.out.r2.plist HT2.out;obtain⟨q3,d3,rfl,hp3⟩:=HR.out.r3.plist HT3.out;rw[List.length_map,<-HLn.out]at hp1 hp2 hp3 ⊢
   rw[List.length_map,<-HLn.out,List.length_map,<-HLn.out];have HP1:=Ab hp1;have HP2:=Ab hp2;have HP3:=Ab hp3;clear htk hp1 hp2 hp3 HR HT1 HT2 HT3
   go_wp2_with fail
   refine(Ez (HG.out.below HBr.out)).mono ?_;rintro en w1 ⟨r,rfl,hr,b1⟩;have HR1:=Ab hr;have HP11:=Ab (HP1.out.below b1);have HP21:=Ab (HP2.out.below b1);have HP31:=Ab (HP3.out.below b1);have HB1:=Ab (Af HBr.out b1);have cx:=(HXB.out.below HB1.out HXB.out.lt).cell;clear hr b1 HP1 HP2 HP3 HBr
   go_wp2_with fail
   refine(Zu HQ.out HR1.out HP11.out HP21.out (HX.out.below HB1.out) (by decide) he (by decide) HNN.out.2 (by have:=HNN.out;omega)).mono ?_;rintro en w2 ⟨-,hok,b2⟩;obtain⟨_,rfl,⟨pa,na,ca,rfl,a1,a2⟩⟩:=hok HFN.out;rw[show Kb Q X [] (l.map fun p=>p.1.toNat) (l.map fun p=>p.2.1) 0=A1 from HA1.out]at a1 a2
   have hb3:Below w2.heap.size w2 (w2.alloc (.cells #[.slice pa na ca] 37)):=Bt;have hx3:=Ae.made w2 (.slice pa na ca);obtain⟨b3,hb3'⟩:∃x,w2.heap.size=x:=⟨_,rfl⟩
   obtain⟨w3,hw3⟩:∃w3,w2.alloc (.cells #[.slice pa na ca] 37)=w3:=⟨_,rfl⟩
   rw[hw3]at hb3 hx3
   rw[hb3']at hx3
   have hb23:=Af b2 hb3;have HXA:=Ab hx3;have HA:=Ab ((Fit.of a1 a2).below hb3);have HR3:=Ab (HR1.out.below hb23);have HP13:=Ab (HP11.out.below hb23);have HP33:=Ab (HP31.out.below hb23);have HB3:=Ab (Af HB1.out hb23);have cx3:=(HXB.out.below HB3.out HXB.out.lt).cell;clear hok b2 a1 a2 hb3 hx3 hb23 HR1 HP11 HP21 HP31 HB1 cx
   go_wp2_with fail
   clear hw3 hb3';refine(Zu HQ.out HR3.out HP13.out HP33.out (HX.out.below HB3.out) (by decide) he (by decide) HNN.out.2 (by have:=HNN.out;omega)).mono ?_;rintro en w4 ⟨-,hok,b4⟩;obtain⟨_,rfl,⟨pm,nm,cm,rfl,m1,m2⟩⟩:=hok HFN.out;rw[show Kb Q X [] (l.map fun p=>p.1.toNat) (l.map fun p=>p.2.2) 0=A2 from HA2.out]at m1 m2
   have hb5:Below w4.heap.size w4 (w4.alloc (.cells #[.slice pm nm cm] 37)):=Bt;have hx5:=Ae.made w4 (.slice pm nm cm);obtain⟨w5,hw5⟩:∃w5,w4.alloc (.cells #[.slice pm nm cm] 37)=w5:=⟨_,rfl⟩
   rw[hw5]at hb5 hx5
   have hb45:=Af b4 hb5;have HB5:=Ab (Af HB3.out hb45);have hxs5:=HXS.out.below HB5.out HXS.out.lt;have ca5:=(HXA.out.below hb45 HXA.out.lt).cell;have cm5:=hx5.cell;obtain⟨k0,k5⟩:=hxs5.cells;have f0:=hxs5.free 0;have f1:=hxs5.free 1;have hz2:=hxs5.set (.slice pa na ca) (.slice pm nm cm);obtain⟨z0,z1⟩:=hz2.cells;have HN1:Aa (Cw ((w5.setCell ⟨w.heap.size+1,0,none⟩ (.slice pa na ca)).setCell ⟨w.heap.size+1,1,none⟩ (.slice pm nm cm)) (pa,na,ca) A1):=⟨Iq (q:=(pa,na,ca)) (x:=(none,0,0)) (y:=(none,0,0)) ((Hq HA.out).below hb45) hxs5.at_⟩
   have HN2:Aa (Cw ((w5.setCell ⟨w.heap.size+1,0,none⟩ (.slice pa na ca)).setCell ⟨w.heap.size+1,1,none⟩ (.slice pm nm cm)) (pm,nm,cm) A2):=⟨Iq (q:=(pm,nm,cm)) (x:=(none,0,0)) (y:=(none,0,0)) (m1.below hb5) hxs5.at_⟩
   have HLI:Aa (A1<An 33/\A2<An 33):=⟨HA.out.lim,m2⟩
   have HBF:Aa (Below w.heap.size w ((w5.setCell ⟨w.heap.size+1,0,none⟩ (.slice pa na ca)).setCell ⟨w.heap.size+1,1,none⟩ (.slice pm nm cm))):=⟨((HB.out.trans (HB5.out.mono HB.out.size)).setCell (by simp) _).setCell (by simp) _⟩
   clear hok b4 m1 m2 hb5 hx5 hb45 hxs5 hz2 HA HXA HR3 HP13 HP33 HB3 cx3 HB5;go_wp2;exact bodyPost_ret (v:=.agg #[.slice pa na ca,.slice pm nm cm]) (by simp[results,Tryz.results107,go_sem,z0,z1]) rfl ⟨(pa,na,ca),(pm,nm,cm),rfl,⟨HN1.out,HLI.out.1⟩,⟨HN2.out,HLI.out.2⟩,HBF.out⟩
def mN (A B:Nat)(w:World)(en:Ending)(w':World):Prop:=∃x y:P3,en=.returned (.tuple #[.agg #[.slice x.1 x.2.1 x.2.2,.slice y.1 y.2.1 y.2.2],.int .i64 0])/\(Cw w' x A/\A<An 33)/\(Cw w' y B/\B<An 33)/\Below w.heap.size w w'
theorem cG {w:World}{b P Q GG HH e ex n c pn pc X:Nat}{p pl:Option Addr}{Cs:List Nat}{l:List Fi}{v:Value}{A1 A2:Nat}(hq:Bl Q)(hQ:64<Q)(hg:Au w b P Q GG HH)(hC:Aq w e p n c Cs)(hL:Ua w 33 pl pn pc l)(hX:Fit ex X v w)(he:e<=200)(hex:ex<=200)(hn:1<=n/\n<=12)(hm:Cs.all (Qw P Q)=true)(hlen:(Cg P Q GG HH n Cs l 64).length=n)(hA1:Px Q X (fun p=>p.2.1) (Cg P Q GG HH n Cs l 64)=A1)(hA2:Px Q X (fun p=>p.2.2) (Cg P Q GG HH n Cs l 64)=A2) :
  Calls Tryz.prog 50 #[.pointer (some ⟨b,0,none⟩),.int .i64 (n:Nat),.slice p n c,.slice pl pn pc,v] w (mN A1 A2 w):=by
 obtain⟨px,nx,cx,rfl,x1,x2⟩:=Ao hX;have hxb:=Ae.made w (.slice px nx cx);have hz:(w.alloc (.cells #[.slice px nx cx] 37)).heap.size=w.heap.size+1:=by simp
 have hb0:Below w.heap.size w (w.alloc (.cells #[.slice px nx cx] 37)):=Bt;have hs:=Cx.made 75 (w.alloc (.cells #[.slice px nx cx] 37)) (.slice none 0 0) (.slice none 0 0);have hb2:Below (w.alloc (.cells #[.slice px nx cx] 37)).heap.size (w.alloc (.cells #[.slice px nx cx] 37)) ((w.alloc (.cells #[.slice px nx cx] 37)).alloc (.cells #[.slice none 0 0,.slice none 0 0] 75)):=Bt;have hxb2:=hxb.below hb2 hxb.lt;have hba:=Af hb0 hb2;rw[hz]at hs
 obtain⟨wa,hwa⟩:∃wa,((w.alloc (.cells #[.slice px nx cx] 37)).alloc (.cells #[.slice none 0 0,.slice none 0 0] 75))=wa:=⟨_,rfl⟩
 rw[hwa]at hs hxb2 hba
 have HXB:=Ab hxb2;have HXS:=Ab hs;have HB:=Ab hba;have HG:=Ab (hg.below hba);have HC:=Ab (hC.below hba);have HL:=Ab (hL.below hba);have HX:=Ab ((Fit.of x1 x2).below hba);have HJ:Aa (decide (1<=(n:Int)/\(n:Int)<=64)=true):=⟨decide_eq_true (by omega)⟩
 have HM:=Ab hm;have HNN:=Ab hn;have HPE:Aa (∀s∈Cg P Q GG HH n Cs l 64,∃j:Nat,s.1=(j:Int)/\j<=64):=⟨fun s hs=>by
  obtain⟨i,hi,he⟩:=Sx hs;exact⟨i+1,(Kw he).2.1,by omega⟩⟩
 have HU:=Ab ((Ha _).1 (Ml (P:=P) (G:=GG) (H:=HH) (t:=n) (cs:=Cs) (l:=l) hQ));have HA1:=Ab hA1;have HA2:=Ab hA2;have HQ:=Ab hq;obtain⟨LL,hLL⟩:∃L,Cg P Q GG HH n Cs l 64=L:=⟨_,rfl⟩
 obtain⟨N1,hN1⟩:∃L,LL.length=L:=⟨_,rfl⟩
 rw[hLL,hN1]at hlen
 have HLL:=Ab hLL;have HN1:=Ab hN1;have HLE:=Ab hlen;clear hlen hg hC hL hX x1 x2 hxb hz hb0 hs hb2 hxb2 hba hm hq hA1 hA2 hLL hN1;go_enter Tryz.func50,Tryz.ntmps50
 go_wp2_with fail
 refine(Dj _ HJ.out).mono ?_;rintro en w1 ⟨rfl,b1⟩;have HG1:=Ab (HG.out.below b1);have HC1:=Ab (HC.out.below b1);have HB1:=Ab b1;clear b1 hwa
 go_wp2_with fail
 refine(Vp HG1.out HC1.out he (by have:=HNN.out;omega) HM.out).mono ?_;rintro en w2 ⟨rfl,b2⟩;have HG2:=Ab (HG1.out.below b2);have HC2:=Ab (HC1.out.below b2);have HB2:=Ab (Af HB1.out b2);have HL2:=Ab (HL.out.below HB2.out);clear b2 HG1 HC1 HB1
 go_wp2_with fail
 refine(Xo (T:=n) HG2.out HC2.out HL2.out he (by have:=HNN.out;omega) (by have:=HNN.out;omega)).mono ?_;rintro en w3 ⟨q3,d3,rfl,hp3,b3⟩;rw[HLL.out,HN1.out]at hp3 ⊢
 have HP3:=Ab hp3;have HB3a:=Ab (Af HB2.out b3);have HBw3:=Ab (Af HB.out HB3a.out);have HXSw3:=Ab (HXS.out.later HB3a.out);have HG3:=Ab (HG2.out.below b3);have HX3:=Ab (HX.out.below HB3a.out);have HXB3:=Ab (HXB.out.below HB3a.out HXB.out.lt);clear b3 hp3 HG2 HC2 HB2 HL2 HG HC HL HX HXB HXS;have hlt:¬(N1:Int)<n:=by have:=HLE.out;omega
 have cx:=HXB3.out.cell
 go_wp2_with fail
 refine(dC (A1:=A1) (A2:=A2) HQ.out HG3.out HP3.out HX3.out hex (by have:=HLE.out;have:=HNN.out;omega) (by rw[<-HLL.out];exact HPE.out) (by rw[<-HLL.out];exact HU.out) (by rw[<-HLL.out];exact HA1.out) (by rw[<-HLL.out];exact HA2.out)).mono ?_;rintro en w4 ⟨x,y,rfl,⟨h1,h2⟩,⟨h3,h4⟩,b4⟩;have hxs:=HXSw3.out.later b4;obtain⟨k0,k5⟩:=hxs.cells;have f0:=hxs.free 0;have f1:=hxs.free 1;have hz2:=hxs.set (.slice x.1 x.2.1 x.2.2) (.slice y.1 y.2.1 y.2.2);obtain⟨z0,z1⟩:=hz2.cells;have HN1':Aa (Cw ((w4.setCell ⟨w.heap.size+1,0,none⟩ (.slice x.1 x.2.1 x.2.2)).setCell ⟨w.heap.size+1,1,none⟩ (.slice y.1 y.2.1 y.2.2)) x A1):=⟨Iq (q:=x) (x:=(none,0,0)) (y:=(none,0,0)) h1 hxs.at_⟩
 have HN2':Aa (Cw ((w4.setCell ⟨w.heap.size+1,0,none⟩ (.slice x.1 x.2.1 x.2.2)).setCell ⟨w.heap.size+1,1,none⟩ (.slice y.1 y.2.1 y.2.2)) y A2):=⟨Iq (q:=y) (x:=(none,0,0)) (y:=(none,0,0)) h3 hxs.at_⟩
 have HLI:Aa (A1<An 33/\A2<An 33):=⟨h2,h4⟩
 have HBF:Aa (Below w.heap.size w ((w4.setCell ⟨w.heap.size+1,0,none⟩ (.slice x.1 x.2.1 x.2.2)).setCell ⟨w.heap.size+1,1,none⟩ (.slice y.1 y.2.1 y.2.2))):=⟨((Af HBw3.out b4).setCell (by simp) _).setCell (by simp) _⟩
 clear h1 h2 h3 h4 b4 hxs hz2 cx HXB3 HXSw3 HG3 HP3 HX3;go_wp2;exact bodyPost_ret (v:=.tuple #[.agg #[.slice x.1 x.2.1 x.2.2,.slice y.1 y.2.1 y.2.2],.int .i64 0]) (by simp[results,Tryz.results50,go_sem,z0,z1]) rfl ⟨x,y,rfl,⟨HN1'.out,HLI.out.1⟩,⟨HN2'.out,HLI.out.2⟩,HBF.out⟩
theorem nT {w:World}{b P Q GG HH es er ed nd cd T M S R:Nat}{pd:Option Addr}{ds:List Nat}{vs vr:Value}(hG:Au w b P Q GG HH)(hs:Fit es S vs w)(hr:Fit er R vr w)(hdl:Aq w ed pd nd cd ds)(hes:es<=200)(her:er<=200)(hed:ed<=200)(hn:nd<=1000)(hT:T=M+1)(hM:T<=64)(hl:2*M<=nd) :
  Calls Tryz.prog 38 #[.pointer (some ⟨b,0,none⟩),.int .i64 (T:Nat),vs,vr,.slice pd nd cd] w (mT T (Fv Q S (ds.take M)) (Fv Q R ((ds.drop M).take M)) w):=by
 subst hT;exact kI hG hs hr hdl hes her hed hn rfl hM hl
theorem Ts (w:World)(hr:Tabs w) :
  Calls Tryz.prog 37 #[] w fun e w'=>e=.returned (.bool true)/\Below w.heap.size w w':=by
 have HGR:=Ab (Mk w 0 hr);clear hr;go_enter Tryz.func37,Tryz.ntmps37
 go_wp2_with fail
 refine HGR.out.mono ?_;rintro en w1 ⟨b,rfl,hg,b1⟩;have hi:((IntKind.u64.wrap 0)%3).toNat=0:=by decide
 rw[hi]at hg
 have HNA:Aa (Be (gQ 0) 4 (Fv (gQ 0) 3 (([2,7]:List Nat).take 1))=11):=⟨by decide⟩
 have HNB:Aa (Be (gQ 0) 4 (Fv (gQ 0) 5 ((([2,7]:List Nat).drop 1).take 1))=33):=⟨by decide⟩
 obtain⟨P,hP⟩:∃q,gP 0=q:=⟨_,rfl⟩
 obtain⟨Q,hq⟩:∃q,gQ 0=q:=⟨_,rfl⟩
 obtain⟨GG,hgg⟩:∃q,gG 0=q:=⟨_,rfl⟩
 obtain⟨HH,hhh⟩:∃q,gH 0=q:=⟨_,rfl⟩
 rw[hP,hq,hgg,hhh]at hg
 rw[hq]at HNA HNB
 have HG:=Ab hg;have HB1:=Ab b1;clear hg b1 hi hP hq hgg hhh HGR
 go_wp2_with fail
 refine(Br (n:=3) w1 (by decide)).mono ?_;rintro en w2 ⟨_,rfl,⟨ps,ns,cs,rfl,s1,s2⟩,b2⟩;have HFS:=Ab (Fit.of s1 s2);have HB2:=Ab (Af HB1.out b2);have HG2:=Ab (HG.out.below b2);clear s1 s2 b2 HG HB1
 go_wp2_with fail
 refine(Br (n:=5) w2 (by decide)).mono ?_;rintro en w3 ⟨_,rfl,⟨pr,nr,cr,rfl,r1,r2⟩,b3⟩;obtain⟨W1,hW1⟩:∃W,w3.alloc (.cells #[.int .u64 2,.int .u64 7] 22)=W:=⟨_,rfl⟩
 have hbw:Below w3.heap.size w3 W1:=by rw[<-hW1];exact(Ba _ _).alloc (Aw _) _
 have hnew:W1.heap[w3.heap.size]? = some (.cells #[.int .u64 2,.int .u64 7] 22 (0,0)):=by rw[<-hW1];exact heap_alloc_new w3 _
 have hrow:Bq W1 .u64 (some ⟨w3.heap.size,0,none⟩) 2 2 [2,7]:=⟨rfl,Aw _,by decide,fun _=>⟨rfl,Aw _,by decide,.inr ⟨w3.heap.size,0,rfl,(Gs hnew).1,fun i x hx=>by
  match i,hx with
  | 0,hx=>simp at hx;subst hx;simp[World.cell?,hnew]
  | 1,hx=>simp at hx;subst hx;simp[World.cell?,hnew]
  | i+2,hx=>simp at hx⟩⟩⟩
 have hb34:=Af b3 hbw;have HN:=Ab (cS W1 _ 2 2 [2,7] hrow (fun x hx=>by simp at hx;unfold bM;omega) (by decide));have HFR:=Ab ((Fit.of r1 r2).below hbw);have HFS3:=Ab (HFS.out.below hb34);have HG3:=Ab (HG2.out.below hb34);have HB3:=Ab (Af HB2.out hb34);clear r1 r2 b3 hbw hnew hrow hb34 HFS HG2 HB2
 go_wp2_with fail
 refine HN.out.mono ?_;rintro en w4 ⟨pd,cd,rfl,hp,b4⟩;have HD:=Ab (kI (T:=2) (M:=1) (HG3.out.below b4) (HFS3.out.below b4) (HFR.out.below b4) hp (by decide) (by decide) (by decide) (by decide) rfl (by decide) (by decide));have HG4:=Ab (HG3.out.below b4);have HB4:=Ab (Af HB3.out b4);clear hp b4 HN HFR HFS3 HG3 HB3 hW1
 go_wp2_with fail
 refine HD.out.mono ?_;rintro en w5 ⟨p1,c1,p2,c2,rfl,h1,h2,-,b5⟩;have hb6:Below w5.heap.size w5 (w5.alloc (.cells #[.slice p1 2 c1,.slice p2 2 c2] 64)):=Bt;have hx6:=Cx.made 64 w5 (.slice p1 2 c1) (.slice p2 2 c2);obtain⟨bd,hbd⟩:∃x,w5.heap.size=x:=⟨_,rfl⟩
 obtain⟨w6,hw6⟩:∃z,w5.alloc (.cells #[.slice p1 2 c1,.slice p2 2 c2] 64)=z:=⟨_,rfl⟩
 rw[hw6]at hb6 hx6
 rw[hbd]at hx6
 have hb56:=Af b5 hb6;have HS:=Ab (Ki (n:=2) (m:=2) (j:=4) (HG4.out.below hb56) (h1.below hb6) (h2.below hb6) (by decide) (by decide) (by decide) (by decide) (by decide) HNA.out HNB.out);have HG6:=Ab (HG4.out.below hb56);have HB6:=Ab (Af HB4.out hb56);have d0:=hx6.cells.1;have d1:=hx6.cells.2;clear h1 h2 b5 hb6 hx6 hb56 HD HG4 HB4
 go_wp2_with fail
 refine HS.out.mono ?_;rintro en w7 ⟨x,y,rfl,h1,h2,b7⟩;have hb8:Below w7.heap.size w7 (w7.alloc (.cells #[.slice x.1 x.2.1 x.2.2,.slice y.1 y.2.1 y.2.2] 75)):=Bt;have hx8:=Cx.made 75 w7 (.slice x.1 x.2.1 x.2.2) (.slice y.1 y.2.1 y.2.2);obtain⟨bs,hbs⟩:∃z,w7.heap.size=z:=⟨_,rfl⟩
 obtain⟨w8,hw8⟩:∃z,w7.alloc (.cells #[.slice x.1 x.2.1 x.2.2,.slice y.1 y.2.1 y.2.2] 75)=z:=⟨_,rfl⟩
 rw[hw8]at hb8 hx8
 rw[hbs]at hx8
 have HSB:=Ab hx8;have HX:=Ab ((Fit.of (e:=1) h1 (by decide)).below hb8);have HY:=Ab ((Fit.of (e:=1) h2 (by decide)).below hb8);have HB8:=Ab (Af HB6.out (Af b7 hb8));clear h1 h2 b7 hb8 hx8 d0 d1 HS HG6 HB6 hw6 hbd;go_wp2;refine Ak (by kernel_rfl) (by kernel_rfl)
  [some (.pointer (some ⟨b,0,none⟩)),some (.bool true),some (.bool true),some (.int .i64 0),some (.bool true),some (.bool true),some (.bool true),some (.int .i64 0),some (.bool true),some (.bool true),some (.bool true),some (.pointer (some ⟨bs,0,none⟩)),some (.agg #[.slice x.1 x.2.1 x.2.2]),none,none,some (.bool true),some (.bool true),some (.bool true),some (.pointer (some ⟨bs,1,none⟩)),some (.agg #[.slice y.1 y.2.1 y.2.2]),none,none,some (.bool true),some (.bool true),some (.bool true)]
  [false,false,false,false,false,false,false,false,false,false,false,false,false,true,true,false,false,false,false,false,true,true,false,false,false] rfl
  (fun w1 w2=>Below w1.heap.size w1 w2)
  (fun _ w'=>Below w8.heap.size w8 w')
  (fun i v w'=>match i with
   | 13=>Fit 2 11 v w'
   | 14=>v=.int .i64 0
   | 20=>Fit 2 33 v w'
   | 21=>v=.int .i64 0
   | _=>True)
  ?_ (Ba _ _).drew ?_ ?_
 .intro i v w1 w2 hf hb;split at hf
  .exact hf.below hb
  .exact hf
  .exact hf.below hb
  .exact hf
  .trivial
 .simp only[Bb,Nat.reduceAdd];refine⟨?_,?_,?_,?_,?_,?_,?_,?_,?_,?_,?_,?_,?_,?_,?_,?_,?_,?_,?_,?_,?_,?_,?_,?_,?_,trivial⟩
  all_goals intro D sp w' hD hW hdp hbx'
  case refine_13=>
   have c0:=(HSB.out.below hbx' HSB.out.lt).cells.1
   with_reducible refine Ad ?_ ?_
   all_goals simp[Region.wanted,yielded,execOp,Act.eval,Act.put,go_sem,c0]
  case refine_14=>
   (with_reducible refine Ac (w1:=w') (f := 17) (args:=#[.int .u64 11]) ?_ ?_ ?_)
   .simp[Region.wanted,yielded,Act.put,go_sem]
   .simp[Act.eval,Act.put,go_sem]
   .refine(Br (n:=11) _ (by decide)).mono ?_;rintro en w9 ⟨u,rfl,hu,hb⟩;exact⟨u,rfl,hb,hu,Af hbx' hb⟩
  case refine_15=>
   have k13:Fit 2 11 (sp 13) w':=(hdp 13 (mq (by kernel_rfl))).2
   (with_reducible refine Ac (w1:=w') (f := 24) (args:=#[.agg #[.slice x.1 x.2.1 x.2.2],sp 13]) ?_ ?_ ?_)
   .simp[Region.wanted,yielded,Act.put,go_sem]
   .simp[Act.eval,Act.put,go_sem]
   .refine(Bf (HX.out.below hbx') k13 (by decide) (by decide) (Bv.2 rfl)).mono ?_;rintro en w9 ⟨_,rfl,rfl,hb⟩;exact⟨_,rfl,hb,rfl,Af hbx' hb⟩
  case refine_16=>
   have k14:(sp 14)=.int .i64 0:=(hdp 14 (mq (by kernel_rfl))).2
   with_reducible refine Ad ?_ ?_
   all_goals simp[Region.wanted,yielded,execOp,Act.eval,Act.put,go_sem,k14]
  case refine_20=>
   have c1:=(HSB.out.below hbx' HSB.out.lt).cells.2
   with_reducible refine Ad ?_ ?_
   all_goals simp[Region.wanted,yielded,execOp,Act.eval,Act.put,go_sem,c1]
  case refine_21=>
   (with_reducible refine Ac (w1:=w') (f := 17) (args:=#[.int .u64 33]) ?_ ?_ ?_)
   .simp[Region.wanted,yielded,Act.put,go_sem]
   .simp[Act.eval,Act.put,go_sem]
   .refine(Br (n:=33) _ (by decide)).mono ?_;rintro en w9 ⟨u,rfl,hu,hb⟩;exact⟨u,rfl,hb,hu,Af hbx' hb⟩
  case refine_22=>
   have k20:Fit 2 33 (sp 20) w':=(hdp 20 (mq (by kernel_rfl))).2
   (with_reducible refine Ac (w1:=w') (f := 24) (args:=#[.agg #[.slice y.1 y.2.1 y.2.2],sp 20]) ?_ ?_ ?_)
   .simp[Region.wanted,yielded,Act.put,go_sem]
   .simp[Act.eval,Act.put,go_sem]
   .refine(Bf (HY.out.below hbx') k20 (by decide) (by decide) (Bv.2 rfl)).mono ?_;rintro en w9 ⟨_,rfl,rfl,hb⟩;exact⟨_,rfl,hb,rfl,Af hbx' hb⟩
  case refine_23=>
   have k21:(sp 21)=.int .i64 0:=(hdp 21 (mq (by kernel_rfl))).2
   with_reducible refine Ad ?_ ?_
   all_goals simp[Region.wanted,yielded,execOp,Act.eval,Act.put,go_sem,k21]
  all_goals ((with_reducible refine Ad ?_ ?_);all_goals first|(simp only[Region.wanted];done)|simp[Region.wanted,yielded,execOp,Act.eval,Act.put,go_sem])
 .intro sp w9 hsp hbx';have HB9:=Ab (Af HB8.out hbx');clear hsp hbx';simp only[Al,Nat.reduceAdd];generalize sp 13=y13,sp 14=y14,sp 20=y20,sp 21=y21 at *
  go_simp
  go_wp2;go_ret;exact⟨rfl,HB9.out⟩
def Nv (t:Int):Nat:=(IntKind.u64.wrap t%6).toNat
theorem Zq (t:Int):IntKind.u64.wrap t%6=(Nv t:Int)/\Nv t<=5:=by
 unfold Nv;omega
theorem Zp {j:Nat}(h:j<=5):Nv (j:Int)=j:=by
 unfold Nv;rw[IntWalk.u64_in _ (by omega)];omega
def lenV:Value->Nat | .slice _ n _=>n|_=>0
def jA (i M S R:Nat)(w:World)(en:Ending)(w':World):Prop:=∃(b:Nat) (p:Option Addr) (c:Nat) (q:Option Addr) (d:Nat) (aa bb:List Nat),en=.returned (.tuple #[.pointer (some ⟨b,0,none⟩),.int .i64 ((M+1:Nat):Int),.agg #[.slice p (M+1) c,.slice q (M+1) d],.bool true])/\aa.length=M/\bb.length=M/\Au w' b (gP i) (gQ i) (gG i) (gH i)/\Aq w' 33 p (M+1) c (Fv (gQ i) S aa)/\Aq w' 33 q (M+1) d (Fv (gQ i) R bb)/\Below w.heap.size w w'
end Go.Proofs.YtokhckjemidbpaaGreatDoor
