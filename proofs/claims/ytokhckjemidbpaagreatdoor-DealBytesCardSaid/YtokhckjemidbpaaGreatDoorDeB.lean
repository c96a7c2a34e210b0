/- A dealing: its pledges, a peer's share, and New. -/
import Derived.Test.YtokhckjemidbpaaGreatDoorDeA
set_option maxRecDepth 1000000
set_option maxHeartbeats 16000000
set_option linter.all false
namespace Go.Proofs.YtokhckjemidbpaaGreatDoor
open Go Go.RowKit Go.Proofs.YtokhckjemidbpaaGreatDoor.Flow
abbrev P3:=Option Addr×Nat×Nat
structure S2 (W:World) (mk:P3->Value) (F1 F2:P3->World->Prop) (b:Nat) (d1 d2 d3 d4:Bool) (v1 v2 v3:Value) (w:World):Prop where
 pre:d4=false->Below W.heap.size W w
 p1:d4=false->d1=true->∃x:P3,v1=mk x/\F1 x w
 p2:d4=false->d2=true->∃x:P3,v2=mk x/\F2 x w
 p3:d4=false->d3=true->∃x y:P3,v3=.agg #[.slice x.1 x.2.1 x.2.2,.slice y.1 y.2.1 y.2.2]/\F1 x w/\F2 y w
 fin:d4=true->∃(w1:World) (x y:P3),Below W.heap.size W w1/\F1 x w1/\F2 y w1/\w=set2 w1 b (.slice x.1 x.2.1 x.2.2) (.slice y.1 y.2.1 y.2.2)
 o3:d3=true->d1=true/\d2=true
 o4:d4=true->d3=true
section
variable {W:World} {mk:P3->Value} {F1 F2:P3->World->Prop} {b:Nat} {d1 d2 d3 d4:Bool} {v1 v2 v3:Value} {w:World}
theorem S2.start:S2 W mk F1 F2 b false false false false v1 v2 v3 W.drew :=
 ⟨fun _=>(Bd _ _).drew,(fun _ e=>by cases e),(fun _ e=>by cases e),(fun _ e=>by cases e),(fun e=>by cases e),(fun e=>by cases e),fun e=>by cases e⟩
theorem S2.later {w':World}(h:S2 W mk F1 F2 b d1 d2 d3 false v1 v2 v3 w)(hb:Below w.heap.size w w')(h1:∀x,F1 x w->F1 x w')(h2:∀x,F2 x w->F2 x w'):S2 W mk F1 F2 b d1 d2 d3 false v1 v2 v3 w' :=
 ⟨fun e=>Ab (h.pre e) hb,fun e k=>let ⟨x,k1,k2⟩:=h.p1 e k;⟨x,k1,h1 x k2⟩,fun e k=>let ⟨x,k1,k2⟩:=h.p2 e k;⟨x,k1,h2 x k2⟩,
 fun e k=>let ⟨x,y,k1,k2,k3⟩:=h.p3 e k;⟨x,y,k1,h1 x k2,h2 y k3⟩,(fun e=>by cases e),h.o3,fun e=>by cases e⟩
theorem S2.n3 (h:S2 W mk F1 F2 b d1 d2 false d4 v1 v2 v3 w):d4=false:=by
 cases d4 with
 | false=>rfl
 | true=>have:=h.o4 rfl;cases this
theorem S2.n1 (h:S2 W mk F1 F2 b false d2 d3 d4 v1 v2 v3 w):d4=false:=by
 cases d3 with
 | false=>exact h.n3
 | true=>have:=(h.o3 rfl).1;cases this
theorem S2.n2 (h:S2 W mk F1 F2 b d1 false d3 d4 v1 v2 v3 w):d4=false:=by
 cases d3 with
 | false=>exact h.n3
 | true=>have:=(h.o3 rfl).2;cases this
theorem S2.put1 (h:S2 W mk F1 F2 b false d2 d3 false v1 v2 v3 w){x:P3}(hx:F1 x w):S2 W mk F1 F2 b true d2 d3 false (mk x) v2 v3 w :=
 ⟨h.pre,fun _ _=>⟨x,rfl,hx⟩,h.p2,(fun e k=>by have:=(h.o3 k).1;cases this),h.fin,(fun k=>by have:=(h.o3 k).1;cases this),h.o4⟩
theorem S2.put2 (h:S2 W mk F1 F2 b d1 false d3 false v1 v2 v3 w){x:P3}(hx:F2 x w):S2 W mk F1 F2 b d1 true d3 false v1 (mk x) v3 w :=
 ⟨h.pre,h.p1,fun _ _=>⟨x,rfl,hx⟩,(fun e k=>by have:=(h.o3 k).2;cases this),h.fin,(fun k=>by have:=(h.o3 k).2;cases this),h.o4⟩
theorem S2.put3 (h:S2 W mk F1 F2 b true true false false v1 v2 v3 w){x y:P3}(hx:F1 x w)(hy:F2 y w):S2 W mk F1 F2 b true true true false v1 v2 (.agg #[.slice x.1 x.2.1 x.2.2,.slice y.1 y.2.1 y.2.2]) w :=
 ⟨h.pre,h.p1,h.p2,fun _ _=>⟨x,y,rfl,hx,hy⟩,h.fin,fun _=>⟨rfl,rfl⟩,fun e=>by cases e⟩
theorem S2.put4 (h:S2 W mk F1 F2 b d1 d2 true false v1 v2 v3 w){x y:P3}(hx:F1 x w)(hy:F2 y w):S2 W mk F1 F2 b d1 d2 true true v1 v2 v3 (set2 w b (.slice x.1 x.2.1 x.2.2) (.slice y.1 y.2.1 y.2.2)) :=
 ⟨(fun e=>by cases e),(fun e=>by cases e),(fun e=>by cases e),(fun e=>by cases e),fun _=>⟨w,x,y,h.pre rfl,hx,hy,rfl⟩,h.o3,fun _=>rfl⟩
end
theorem Sz {w:World}{b:Nat}{v0 v1:Value}{T:TypeId}(h:w.heap[b]? = some (.cells #[v0,v1] T (0,0))) :
  (w.cell? ⟨b,0,none⟩=some v0/\w.cell? ⟨b,1,none⟩=some v1)/\w.frozen? ⟨b,0,none⟩=false/\w.frozen? ⟨b,1,none⟩=false:=by
 simp[World.cell?,World.frozen?,h]
theorem Oz {w:World}{b e n c B:Nat}{p:Option Addr}{Ns:List Nat}{T:TypeId}{x y:P3}{u v:Value}(h:Ba w e p n c Ns)(hb:w.heap[b]? = some (.cells #[.slice x.1 x.2.1 x.2.2,.slice y.1 y.2.1 y.2.2] T (0,0)))(hB:b<B)(hp:∀a,p=some a->B<=a.block):Ba (set2 w b u v) e p n c Ns:=by
 have hk:=put2 (u0:=u) (u1:=v) hb;refine⟨h.len,h.cap,h.max,h.nil,fun h0=>?_⟩;obtain⟨g,off,rfl,h2,h3⟩:=h.at_ h0
 have hg:g≠b:=by have:=hp _ rfl;dsimp only at this;omega
 refine⟨g,off,rfl,by rw[hk.size];exact h2,fun i N hN=>?_⟩;obtain⟨q,m,d,k1,k2,k3⟩:=h3 i N hN;exact⟨q,m,d,by rw[World.cell?_of_block (a:=⟨g,off+i,none⟩) (hk.old g hg)];exact k1,k2.off hb (Rv x y) (Nat.le_of_eq hk.size.symm) hk.old,k3⟩
theorem Lt {w:World}{b N:Nat}{q:P3}{T:TypeId}{x y:P3}{u v:Value}(h:Br w q N)(hb:w.heap[b]? = some (.cells #[.slice x.1 x.2.1 x.2.2,.slice y.1 y.2.1 y.2.2] T (0,0))):Br (set2 w b u v) q N:=by
 have hk:=put2 (u0:=u) (u1:=v) hb;exact h.off hb (Rv x y) (Nat.le_of_eq hk.size.symm) hk.old
theorem Yy {p:Option Addr}{n c W:Nat}(hc:W<=c)(w:World) :
  (Instr.sliceAt 62 (.slice p n c) none (some (.int .i64 (W:Int))) none).run Tryz.prog w=.ok (.slice p W c) w:=by
 have hel:Tryz.prog.elem 62 = 37 := by kernel_rfl
 have hu:Tryz.prog.underlying 62 = some (.slice (Tryz.prog.elem 62)):=by rw[hel];exact Tryz.underlying62
 rw[run_sliceAt_slice w 62 _ _ _ _ hu,run_slice_h w 62 _ _ _ hu .i64 _ (by omega) (by omega)];have hs:(sizeOf (Tryz.prog.elem 62)).run Tryz.prog w=.ok 1 w:=by rw[hel];simp[go_sem]
 rw[hs];simp only[Result.andThen_ok,sliced];have e:p.map (·.add (0*1))=p:=by
  cases p with
  | none=>rfl
  | some a=>obtain⟨b,off,sp⟩:=a;simp[Addr.add]
 rw[e];simp
theorem Wg {p:Option Addr}{n c L H:Nat}(hL:L<=H)(hc:H<=c)(w:World) :
  (Instr.sliceAt 62 (.slice p n c) (some (.int .i64 (L:Int))) (some (.int .i64 (H:Int))) none).run Tryz.prog w=.ok (.slice (Hk p c L) (H-L) (c-L)) w:=by
 have hel:Tryz.prog.elem 62 = 37 := by kernel_rfl
 have hu:Tryz.prog.underlying 62 = some (.slice (Tryz.prog.elem 62)):=by rw[hel];exact Tryz.underlying62
 rw[run_sliceAt_slice w 62 _ _ _ _ hu,run_slice_lh w 62 _ _ _ hu .i64 .i64 _ _ (by omega) (by omega) (by omega)];have hs:(sizeOf (Tryz.prog.elem 62)).run Tryz.prog w=.ok 1 w:=by rw[hel];simp[go_sem]
 rw[hs];have e:(c=L)=(c-L=0):=by
  refine propext ⟨fun h=>by omega,fun h=>by omega⟩
 simp[Result.andThen_ok,sliced,Hk,e]
theorem Ba.part {w:World}{e n c L H:Nat}{p:Option Addr}{Ns:List Nat}(h:Ba w e p n c Ns)(hL:L<=H)(hH:H<=n):Ba w e (Hk p c L) (H-L) (c-L) ((Ns.drop L).take (H-L)):=by
 have h1:=h.len;have h2:=h.cap;have h3:=h.max;refine⟨by rw[List.length_take,List.length_drop];omega,by omega,by omega,fun hn=>?_,fun h0=>?_⟩
 .unfold Hk at hn;split at hn
  .assumption
  .cases p with
   | none=>have:=h.nil rfl;omega
   | some a=>cases hn
 .obtain⟨b,off,rfl,hb,hc⟩:=h.at_ (by omega)
  refine⟨b,off+L,by unfold Hk;rw[if_neg (by omega),Option.map_some,add_plain],hb,fun i N hN=>?_⟩;rw[List.getElem?_take]at hN
  split at hN
  .rw[List.getElem?_drop]at hN
   obtain⟨q,m,d,k1,k2,k3⟩:=hc _ _ hN;exact⟨q,m,d,by rw[Nat.add_assoc];exact k1,k2,k3⟩
  .cases hN
theorem Ba.front {w:World}{e n c H:Nat}{p:Option Addr}{Ns:List Nat}(h:Ba w e p n c Ns)(hH:H<=n):Ba w e p H c (Ns.take H):=by
 have h1:=h.len;have h2:=h.cap;have h3:=h.max;refine⟨by rw[List.length_take];omega,by omega,by omega,h.nil,fun h0=>?_⟩;obtain⟨b,off,rfl,hb,hc⟩:=h.at_ (by omega)
 refine⟨b,off,rfl,hb,fun i N hN=>?_⟩;rw[List.getElem?_take]at hN
 split at hN
 .exact hc _ _ hN
 .cases hN
def Tg (A B:Nat)(w:World)(en:Ending)(w':World):Prop:=∃x y:P3,en=.returned (.tuple #[.agg #[.slice x.1 x.2.1 x.2.2,.slice y.1 y.2.1 y.2.2],.int .i64 0])/\Br w' x A/\Br w' y B/\Below w.heap.size w w'
theorem bO {w:World}{b P Q GG HH e1 e2 n c m d j NA NB:Nat}{p p2:Option Addr}{As Bs:List Nat}(hG:Bq w b P Q GG HH)(hA:Ba w e1 p n c As)(hB:Ba w e2 p2 m d Bs)(h1:e1<=200)(h2:e2<=200)(hn:n<=1000)(hm:m<=1000)(hj:1<=j/\j<=64)(hNA:Mn Q j As=NA)(hNB:Mn Q j Bs=NB) :
  Calls Tryz.prog 42 #[.agg #[.slice p n c,.slice p2 m d],.pointer (some ⟨b,0,none⟩),.int .i64 (j:Nat)] w (Tg NA NB w):=by
 have hx:=Bo.made 64 w (.slice p n c) (.slice p2 m d);have hz:(w.alloc (.cells #[.slice p n c,.slice p2 m d] 64)).heap.size=w.heap.size+1:=by simp
 have hb0:Below w.heap.size w (w.alloc (.cells #[.slice p n c,.slice p2 m d] 64)):=By;have hs:=Bo.made 75 (w.alloc (.cells #[.slice p n c,.slice p2 m d] 64)) (.slice none 0 0) (.slice none 0 0);have hb2:Below (w.alloc (.cells #[.slice p n c,.slice p2 m d] 64)).heap.size (w.alloc (.cells #[.slice p n c,.slice p2 m d] 64)) ((w.alloc (.cells #[.slice p n c,.slice p2 m d] 64)).alloc (.cells #[.slice none 0 0,.slice none 0 0] 75)):=By;have hx2:=hx.later hb2;have hba:=Ab hb0 hb2;rw[hz]at hs
 obtain⟨wa,hwa⟩:∃wa,((w.alloc (.cells #[.slice p n c,.slice p2 m d] 64)).alloc (.cells #[.slice none 0 0,.slice none 0 0] 75))=wa:=⟨_,rfl⟩
 rw[hwa]at hs hx2 hba
 have HXD:=Ac hx2;have HXS:=Ac hs;have HB0:=Ac hba;have HG0:=Ac (hG.below hba);have HA0:=Ac (hA.below hba);have HBB0:=Ac (hB.below hba);have HJ:Aa (decide (1<=(j:Int)/\(j:Int)<=64)=true):=⟨decide_eq_true (by omega)⟩
 have HJ2:Aa (j<=1000000):=⟨by omega⟩
 have HVA:=Ac hNA;have HVB:=Ac hNB;clear hG hA hB hx hs hb0 hb2 hx2 hba hNA hNB hj hz;go_enter Tryz.func42,Tryz.ntmps42
 go_wp2_with fail
 refine(Iz _ HJ.out).mono ?_;rintro en w1 ⟨rfl,b1⟩;have HXD1:=Ac (HXD.out.later b1);have HXS1:=Ac (HXS.out.later b1);have HG1:=Ac (HG0.out.below b1);have HA1:=Ac (HA0.out.below b1);have HBB1:=Ac (HBB0.out.below b1);have HB1:=Ac (Ab HB0.out b1);clear b1 HXD HXS HG0 HA0 HBB0 HB0 hwa
 go_wp2_with fail
 refine(Gb HG1.out).mono ?_;rintro en w2 ⟨r,rfl,hr,b2⟩;have HR2:=Ac hr;have HXD2:=Ac (HXD1.out.later b2);have HXS2:=Ac (HXS1.out.later b2);have HA2:=Ac (HA1.out.below b2);have HBB2:=Ac (HBB1.out.below b2);have HB2:=Ac (Ab HB1.out b2);clear hr b2 HXD1 HXS1 HG1 HA1 HBB1 HB1
 go_wp2_with fail
 refine(Ue _ HJ2.out).mono ?_;rintro en w3 ⟨_,rfl,⟨px,nx,cx,rfl,x1,x2⟩,b3⟩;have hb4:Below w3.heap.size w3 (w3.alloc (.cells #[.slice px nx cx] 37)):=By;have hx4:=Ae.made w3 (.slice px nx cx);have hb34:=Ab b3 hb4;obtain⟨w4,hw4⟩:∃w4,w3.alloc (.cells #[.slice px nx cx] 37)=w4:=⟨_,rfl⟩
 rw[hw4]at hb4 hx4 hb34
 obtain⟨bx,hbx⟩:∃x,w3.heap.size=x:=⟨_,rfl⟩
 rw[hbx]at hx4
 have HXX4:=Ac hx4;have HX4:=Ac ((Fit.of x1 x2).below hb4);have HXD4:=Ac (HXD2.out.later hb34);have HXS4:=Ac (HXS2.out.later hb34);have HR4:=Ac (HR2.out.below hb34);have HA4:=Ac (HA2.out.below hb34);have HB4:=Ac (HBB2.out.below hb34);have HBl:=Ac (Ab HB2.out hb34);clear b3 hb4 hx4 hb34 x1 x2 HXD2 HXS2 HR2 HA2 HBB2 HB2;go_wp2;refine Am (by kernel_rfl) (by kernel_rfl)
  [some (.pointer (some ⟨r,0,none⟩)),some (.pointer (some ⟨w.heap.size,0,none⟩)),some (.slice p n c),some (.agg #[.slice px nx cx]),none,some (.pointer (some ⟨r,0,none⟩)),some (.pointer (some ⟨w.heap.size,1,none⟩)),some (.slice p2 m d),some (.agg #[.slice px nx cx]),none,none,none,some (.int .i64 0)]
  [false,false,false,false,true,false,false,false,false,true,true,true,false] rfl
  (fun _ _=>True) (fun D sp w'=>S2 w4 (fun x=>.agg #[.slice x.1 x.2.1 x.2.2]) (fun x w=>Br w x NA) (fun x w=>Br w x NB) (w.heap.size+1) (D 4) (D 9) (D 10) (D 11) (sp 4) (sp 9) (sp 10) w') (fun _ _ _=>True) (fun _ _ _ _ _ _=>trivial)
  S2.start ?_ ?_
 .simp only[Bg,Nat.reduceAdd];refine⟨?_,?_,?_,?_,?_,?_,?_,?_,?_,?_,?_,?_,?_,trivial⟩
  case refine_3=>
   intro D sp w' hD hW hdp hg;have dc:D 4=false:=hW 4 (mq (by kernel_rfl));rw[dc]at hg
   have d4:=hg.n1;rw[d4]at hg
   have hp:=hg.pre rfl;have c0:=(HXD4.out.below hp HXD4.out.lt).cells.1
   (with_reducible refine Ai (w1:=w') (v:=.slice p n c) ?_ ?_ ?_)
   .simp[Region.wanted,yielded,Act.put,go_sem]
   .simp[execOp,Act.eval,Act.put,go_sem,c0]
   .exact⟨rfl,rfl⟩
  case refine_4=>
   intro D sp w' hD hW hdp hg;have dc:D 4=false:=hW 4 (mq (by kernel_rfl));rw[dc]at hg
   have d4:=hg.n1;rw[d4]at hg
   have hp:=hg.pre rfl;have c0:=(HXX4.out.below hp HXX4.out.lt).cell
   (with_reducible refine Ai (w1:=w') (v:=.agg #[.slice px nx cx]) ?_ ?_ ?_)
   .simp[Region.wanted,yielded,Act.put,go_sem]
   .simp[execOp,Act.eval,Act.put,go_sem,c0]
   .exact⟨rfl,rfl⟩
  case refine_5=>
   intro D sp w' hD hW hdp hg;rw[hD]at hg
   have d4:=hg.n1;rw[d4]at hg
   have hp:=hg.pre rfl
   (with_reducible refine Ad (w1:=w') (f := 102) (args:=#[.pointer (some ⟨r,0,none⟩),.slice p n c,.agg #[.slice px nx cx]]) ?_ ?_ ?_)
   .simp[Region.wanted,yielded,Act.put,go_sem]
   .simp[Act.eval,Act.put,go_sem]
   .refine(Rh (HR4.out.below hp) (HA4.out.below hp) (HX4.out.below hp) h1 (by decide) (by omega) HVA.out).mono ?_;rintro en w9 ⟨_,rfl,⟨p9,n9,c9,rfl,u1,u2⟩,hb⟩;have hu:Br w9 (p9,n9,c9) NA:=u1;exact⟨_,rfl,trivial,trivial,by simpa [upd,d4]using(hg.later hb (fun x k=>k.below hb) (fun x k=>k.below hb)).put1 hu⟩
  case refine_8=>
   intro D sp w' hD hW hdp hg;have dc:D 9=false:=hW 9 (mq (by kernel_rfl));rw[dc]at hg
   have d4:=hg.n2;rw[d4]at hg
   have hp:=hg.pre rfl;have c0:=(HXD4.out.below hp HXD4.out.lt).cells.2
   (with_reducible refine Ai (w1:=w') (v:=.slice p2 m d) ?_ ?_ ?_)
   .simp[Region.wanted,yielded,Act.put,go_sem]
   .simp[execOp,Act.eval,Act.put,go_sem,c0]
   .exact⟨rfl,rfl⟩
  case refine_9=>
   intro D sp w' hD hW hdp hg;have dc:D 9=false:=hW 9 (mq (by kernel_rfl));rw[dc]at hg
   have d4:=hg.n2;rw[d4]at hg
   have hp:=hg.pre rfl;have c0:=(HXX4.out.below hp HXX4.out.lt).cell
   (with_reducible refine Ai (w1:=w') (v:=.agg #[.slice px nx cx]) ?_ ?_ ?_)
   .simp[Region.wanted,yielded,Act.put,go_sem]
   .simp[execOp,Act.eval,Act.put,go_sem,c0]
   .exact⟨rfl,rfl⟩
  case refine_10=>
   intro D sp w' hD hW hdp hg;rw[hD]at hg
   have d4:=hg.n2;rw[d4]at hg
   have hp:=hg.pre rfl
   (with_reducible refine Ad (w1:=w') (f := 102) (args:=#[.pointer (some ⟨r,0,none⟩),.slice p2 m d,.agg #[.slice px nx cx]]) ?_ ?_ ?_)
   .simp[Region.wanted,yielded,Act.put,go_sem]
   .simp[Act.eval,Act.put,go_sem]
   .refine(Rh (HR4.out.below hp) (HB4.out.below hp) (HX4.out.below hp) h2 (by decide) (by omega) HVB.out).mono ?_;rintro en w9 ⟨_,rfl,⟨p9,n9,c9,rfl,u1,u2⟩,hb⟩;have hu:Br w9 (p9,n9,c9) NB:=u1;exact⟨_,rfl,trivial,trivial,by simpa [upd,d4]using(hg.later hb (fun x k=>k.below hb) (fun x k=>k.below hb)).put2 hu⟩
  case refine_11=>
   intro D sp w' hD hW hdp hg;have d1:D 4=true:=(hdp 4 (mq (by kernel_rfl))).1;have d2:D 9=true:=(hdp 9 (mq (by kernel_rfl))).1;rw[hD,d1,d2]at hg
   have d4:=hg.n3;rw[d4]at hg
   (with_reducible refine Bc (hg.p1 rfl rfl) fun x hx=>Bc (hg.p2 rfl rfl) fun y hy=>?_)
   have h1:=hx.1;have h2:=hy.1
   (with_reducible refine Ai (w1:=w') (v:=.agg #[.slice x.1 x.2.1 x.2.2,.slice y.1 y.2.1 y.2.2]) ?_ ?_ ?_)
   .simp only[Region.wanted]
   .simp[execOp,Act.eval,Act.put,go_sem,h1,h2]
   .exact⟨trivial,trivial,by simpa [upd,d1,d2,d4]using hg.put3 hx.2 hy.2⟩
  case refine_12=>
   intro D sp w' hD hW hdp hg;have d3:D 10=true:=(hdp 10 (mq (by kernel_rfl))).1;rw[hD,d3]at hg
   (with_reducible refine Bc (hg.p3 rfl rfl) fun x hx=>Bc hx fun y hy=>?_)
   have h1:=hy.1;have g0:=Sz (HXS4.out.below (hg.pre rfl) HXS4.out.lt).at_
   (with_reducible refine Aq (w1:=set2 w' (w.heap.size+1) (.slice x.1 x.2.1 x.2.2) (.slice y.1 y.2.1 y.2.2)) ?_ ?_ ?_)
   .simp only[Region.wanted]
   .simp[execOp,Act.eval,Act.put,go_sem,h1,g0.1.1,g0.1.2,g0.2.1,g0.2.2,set2]
   .exact⟨trivial,trivial,by simpa [upd,d3]using hg.put4 hy.2.1 hy.2.2⟩
  all_goals
   intro D sp w' hD hW hdp hg;simp[asked,Region.wanted,Oper.gives,execOp,Act.eval,Act.put,go_sem]
 .intro sp w9 hsp hg;obtain⟨w5,x,y,k1,k2,k3,k4⟩:=hg.fin rfl;have hbx5:=HXS4.out.below k1 HXS4.out.lt;have hbz:Bo 75 w9 (w.heap.size+1) (.slice x.1 x.2.1 x.2.2) (.slice y.1 y.2.1 y.2.2):=by rw[k4];exact hbx5.set _ _
  have HN1:Aa (Br w9 x NA):=⟨by rw[k4];exact Lt (x:=(none,0,0)) (y:=(none,0,0)) k2 hbx5.at_⟩
  have HN2:Aa (Br w9 y NB):=⟨by rw[k4];exact Lt (x:=(none,0,0)) (y:=(none,0,0)) k3 hbx5.at_⟩
  have HBF:Aa (Below w.heap.size w w9):=⟨by rw[k4];exact(Ab HBl.out k1).trans ((put2 hbx5.at_).bel _ (by omega))⟩
  obtain⟨k0,k5⟩:=hbz.cells;clear hsp hg k1 k2 k3 k4 hbx5 hbz hw4 hbx;simp only[Ak,Nat.reduceAdd];generalize sp 4=y4,sp 9=y9,sp 10=y10,sp 11=y11 at *
  go_simp
  go_wp2;exact bodyPost_ret (v:=.tuple #[.agg #[.slice x.1 x.2.1 x.2.2,.slice y.1 y.2.1 y.2.2],.int .i64 0]) (by simp[results,Tryz.results42,go_sem,k0,k5]) rfl ⟨x,y,rfl,HN1.out,HN2.out,HBF.out⟩
def gW (t:Nat)(vs ms:List Nat)(w:World)(en:Ending)(w':World):Prop:=∃(p:Option Addr) (c:Nat) (q:Option Addr) (d:Nat),en=.returned (.tuple #[.agg #[.slice p t c,.slice q t d],.int .i64 0])/\Ba w' 33 p t c vs/\Ba w' 33 q t d ms/\((∀a,p=some a->w.heap.size<=a.block)/\∀a,q=some a->w.heap.size<=a.block)/\Below w.heap.size w w'
theorem gC {w:World}{b P Q GG HH es er ed nd cd T M S R:Nat}{pd:Option Addr}{ds:List Nat}{vs vr:Value}(hG:Bq w b P Q GG HH)(hs:Fit es S vs w)(hr:Fit er R vr w)(hdl:Ba w ed pd nd cd ds)(hes:es<=200)(her:er<=200)(hed:ed<=200)(hn:nd<=1000)(hT:T=M+1)(hM:T<=64)(hl:2*M<=nd) :
  Calls Tryz.prog 38 #[.pointer (some ⟨b,0,none⟩),.int .i64 (T:Nat),vs,vr,.slice pd nd cd] w (gW (M+1) (Kh Q S (ds.take M)) (Kh Q R ((ds.drop M).take M)) w):=by
 obtain⟨ps,ns,cs,rfl,s1,s2⟩:=Aw hs;obtain⟨pr,nr,cr,rfl,r1,r2⟩:=Aw hr;have hbx:=dW.mk2 w (.slice ps ns cs) (.slice pr nr cr);have hz:(((w.alloc (.cells #[.slice ps ns cs] 37)).alloc (.cells #[.slice pr nr cr] 37))).heap.size=w.heap.size+1+1:=by simp
 have hd:=Bo.made 64 ((w.alloc (.cells #[.slice ps ns cs] 37)).alloc (.cells #[.slice pr nr cr] 37)) (.slice none 0 0) (.slice none 0 0);have hb2:Below (((w.alloc (.cells #[.slice ps ns cs] 37)).alloc (.cells #[.slice pr nr cr] 37))).heap.size ((w.alloc (.cells #[.slice ps ns cs] 37)).alloc (.cells #[.slice pr nr cr] 37)) (((w.alloc (.cells #[.slice ps ns cs] 37)).alloc (.cells #[.slice pr nr cr] 37)).alloc (.cells #[.slice none 0 0,.slice none 0 0] 64)):=By;have hx0:=hbx.b0.below hb2 hbx.b0.lt;have hx1:=hbx.b1.below hb2 hbx.b1.lt;have hba:=Ab hbx.bel hb2;rw[hz]at hd
 obtain⟨wa,hwa⟩:∃wa,(((w.alloc (.cells #[.slice ps ns cs] 37)).alloc (.cells #[.slice pr nr cr] 37)).alloc (.cells #[.slice none 0 0,.slice none 0 0] 64))=wa:=⟨_,rfl⟩
 rw[hwa]at hd hx0 hx1 hba
 obtain⟨M2,hM2'⟩:∃K,2*M=K:=⟨_,rfl⟩
 obtain⟨pb,hpb⟩:∃q,Hk pd cd M=q:=⟨_,rfl⟩
 obtain⟨cb,hcb⟩:∃q,cd-M=q:=⟨_,rfl⟩
 have hcap:=hdl.cap;have HL1:=Ac ((hdl.front (H:=M) (by omega)).below hba);have hp2:=(hdl.part (L:=M) (H:=M2) (by omega) (by omega)).below hba;rw[show M2-M=M by omega,hpb,hcb]at hp2
 have HL2:=Ac hp2;have HSL1:Aa (∀w',(Instr.sliceAt 62 (.slice pd nd cd) none (some (.int .i64 (M:Int))) none).run Tryz.prog w'=.ok (.slice pd M cd) w'):=⟨fun w'=>Yy (by omega) w'⟩
 have HSL2:Aa (∀w',(Instr.sliceAt 62 (.slice pd nd cd) (some (.int .i64 (M:Int))) (some (.int .i64 (M2:Int))) none).run Tryz.prog w'=.ok (.slice pb M cb) w'):=⟨fun w'=>by
  have h:=Wg (p:=pd) (n:=nd) (c:=cd) (L:=M) (H:=M2) (by omega) (by omega) w';rw[show M2-M=M by omega,hpb,hcb]at h
  exact h⟩
 have HXS:=Ac hx0;have HXR:=Ac hx1;have HXD:=Ac hd;have HB0:=Ac hba;have HG0:=Ac (hG.below hba);have HFS:=Ac ((Fit.of s1 s2).below hba);have HFR:=Ac ((Fit.of r1 r2).below hba);have HJ:Aa (decide (1<=(T:Int)/\(T:Int)<=64)=true):=⟨decide_eq_true (by omega)⟩
 obtain⟨VS,hVS⟩:∃l,Kh Q S (ds.take M)=l:=⟨_,rfl⟩
 obtain⟨MS,hMS⟩:∃l,Kh Q R ((ds.drop M).take M)=l:=⟨_,rfl⟩
 rw[hVS,hMS];have HVS:=Ac hVS;have HVM:=Ac hMS;have hTM:(T:Int)-1=M:=by omega
 have hM2:2*(M:Int)=M2:=by omega
 have hnlt:¬(nd:Int)<M2:=by omega
 have hWM2:IntKind.i64.wrap (M2:Int)=M2:=IntWalk.i64_in _ (by omega);have hm63:M<=63:=by omega
 have HM1:Aa (M<=63):=⟨by omega⟩
 have HMc:Aa (M<=cd/\M2<=cd):=⟨by omega⟩
 clear hG hs hr hdl s1 s2 r1 r2 hbx hz hd hb2 hx0 hx1 hba hVS hMS hpb hcb hp2 hM2' hT hM hl hcap;go_enter Tryz.func38,Tryz.ntmps38
 go_wp2_with fail
 refine(Iz _ HJ.out).mono ?_;rintro en w4 ⟨rfl,b1⟩;have HXS4:=Ac (HXS.out.below b1 HXS.out.lt);have HXR4:=Ac (HXR.out.below b1 HXR.out.lt);have HXD4:=Ac (HXD.out.later b1);have HG4:=Ac (HG0.out.below b1);have HFS4:=Ac (HFS.out.below b1);have HFR4:=Ac (HFR.out.below b1);have HL1':=Ac (HL1.out.below b1);have HL2':=Ac (HL2.out.below b1);have HBl:=Ac (Ab HB0.out b1);clear b1 HXS HXR HXD HG0 HFS HFR HL1 HL2 HB0 hwa;go_wp2;refine Aj (by kernel_rfl) (by kernel_rfl)
  [some (.slice pd nd cd),some (.int .i64 (M:Int)),some (.slice pd M cd),some (.slice pd nd cd),some (.int .i64 (M:Int)),some (.int .i64 (M:Int)),some (.int .i64 (M2:Int)),some (.slice pb M cb),some (.slice pd M cd),some (.slice pb M cb)]
  [false,false,false,false,false,false,false,false,false,false] rfl
  (fun w1 w2=>Below w1.heap.size w1 w2)
  (fun _ w'=>Below w4.heap.size w4 w')
  (fun i v w'=>match i with
   | _=>True)
  ?_ (Bd _ _).drew ?_ ?_
 .intro i v w1 w2 hf hb;split at hf
  .trivial
 .simp only[Bh,Nat.reduceAdd];refine⟨?_,?_,?_,?_,?_,?_,?_,?_,?_,?_,trivial⟩
  all_goals intro D sp w' hD hW hdp hbx'
  case refine_3=>
   have c0:=HSL1.out w'
   with_reducible refine Ag ?_ ?_
   all_goals simp[Region.wanted,yielded,execOp,Act.eval,Act.put,go_sem,c0]
  case refine_7=>
   (with_reducible refine Ai (w1:=w') (v:=.int .i64 (M2:Int)) ?_ ?_ ?_)
   .simp[Region.wanted,yielded,Act.put,go_sem]
   .simp[execOp,Act.eval,Act.put,go_sem,hM2,hWM2]
   .exact⟨rfl,rfl⟩
  case refine_8=>
   have c0:=HSL2.out w'
   with_reducible refine Ag ?_ ?_
   all_goals simp[Region.wanted,yielded,execOp,Act.eval,Act.put,go_sem,c0]
  all_goals ((with_reducible refine Ag ?_ ?_);all_goals first|(simp only[Region.wanted];done)|simp[Region.wanted,yielded,execOp,Act.eval,Act.put,go_sem])
 .intro sp wq hsp hbx';have HXS5:=Ac (HXS4.out.below hbx' HXS4.out.lt);have HXR5:=Ac (HXR4.out.below hbx' HXR4.out.lt);have HXD5:=Ac (HXD4.out.later hbx');have HG5:=Ac (HG4.out.below hbx');have HFS5:=Ac (HFS4.out.below hbx');have HFR5:=Ac (HFR4.out.below hbx');have HL15:=Ac (HL1'.out.below hbx');have HL25:=Ac (HL2'.out.below hbx');have HBl5:=Ac (Ab HBl.out hbx');clear hsp hbx' HXS4 HXR4 HXD4 HG4 HFS4 HFR4 HL1' HL2' HBl hTM hM2 hnlt hWM2 hm63;simp only[Ak]
  go_simp
  go_wp2;refine Am (by kernel_rfl) (by kernel_rfl)
   [some (.pointer (some ⟨b,0,none⟩)),some (.agg #[.slice ps ns cs]),some (.slice pd M cd),none,some (.pointer (some ⟨b,0,none⟩)),some (.agg #[.slice pr nr cr]),some (.slice pb M cb),none,none,none,some (.int .i64 0)]
   [false,false,false,true,false,false,false,true,true,true,false] rfl
   (fun _ _=>True) (fun D sp w'=>S2 wq (fun x=>.slice x.1 x.2.1 x.2.2) (fun x w=>x.2.1=M+1/\Ba w 33 x.1 (M+1) x.2.2 VS/\∀a,x.1=some a->wq.heap.size<=a.block) (fun x w=>x.2.1=M+1/\Ba w 33 x.1 (M+1) x.2.2 MS/\∀a,x.1=some a->wq.heap.size<=a.block) (w.heap.size+1+1) (D 3) (D 7) (D 8) (D 9) (sp 3) (sp 7) (sp 8) w') (fun _ _ _=>True) (fun _ _ _ _ _ _=>trivial)
   S2.start ?_ ?_
  .simp only[Bg,Nat.reduceAdd];refine⟨?_,?_,?_,?_,?_,?_,?_,?_,?_,?_,?_,trivial⟩
   case refine_2=>
    intro D sp w' hD hW hdp hg;have dc:D 3=false:=hW 3 (mq (by kernel_rfl));rw[dc]at hg
    have d4:=hg.n1;rw[d4]at hg
    have hp:=hg.pre rfl;have c0:=(HXS5.out.below hp HXS5.out.lt).cell
    (with_reducible refine Ai (w1:=w') (v:=.agg #[.slice ps ns cs]) ?_ ?_ ?_)
    .simp[Region.wanted,yielded,Act.put,go_sem]
    .simp[execOp,Act.eval,Act.put,go_sem,c0]
    .exact⟨rfl,rfl⟩
   case refine_4=>
    intro D sp w' hD hW hdp hg;rw[hD]at hg
    have d4:=hg.n1;rw[d4]at hg
    have hp:=hg.pre rfl
    (with_reducible refine Ad (w1:=w') (f := 100) (args:=#[.pointer (some ⟨b,0,none⟩),.agg #[.slice ps ns cs],.slice pd M cd]) ?_ ?_ ?_)
    .simp[Region.wanted,yielded,Act.put,go_sem]
    .simp[Act.eval,Act.put,go_sem]
    .refine(Uc (HG5.out.below hp) (HFS5.out.below hp) (HL15.out.below hp) hes hed (by have:=HM1.out;omega)).mono ?_;rintro en w9 ⟨_,rfl,⟨q9,c9,rfl,u1,u2⟩,hb⟩;rw[HVS.out]at u1
     have hu:(M+1=M+1)/\Ba w9 33 q9 (M+1) c9 VS/\∀a,q9=some a->wq.heap.size<=a.block:=⟨rfl,u1,fun a ha=>Eo hp.size (u2 a ha)⟩
     replace hu:=(show (fun x:P3=>x.2.1=M+1/\Ba w9 33 x.1 (M+1) x.2.2 VS/\∀a,x.1=some a->wq.heap.size<=a.block) (q9,M+1,c9) from hu)
     exact⟨_,rfl,trivial,trivial,by simpa [upd,d4]using(hg.later hb (fun x k=>⟨k.1,k.2.1.below hb,k.2.2⟩) (fun x k=>⟨k.1,k.2.1.below hb,k.2.2⟩)).put1 hu⟩
   case refine_6=>
    intro D sp w' hD hW hdp hg;have dc:D 7=false:=hW 7 (mq (by kernel_rfl));rw[dc]at hg
    have d4:=hg.n2;rw[d4]at hg
    have hp:=hg.pre rfl;have c0:=(HXR5.out.below hp HXR5.out.lt).cell
    (with_reducible refine Ai (w1:=w') (v:=.agg #[.slice pr nr cr]) ?_ ?_ ?_)
    .simp[Region.wanted,yielded,Act.put,go_sem]
    .simp[execOp,Act.eval,Act.put,go_sem,c0]
    .exact⟨rfl,rfl⟩
   case refine_8=>
    intro D sp w' hD hW hdp hg;rw[hD]at hg
    have d4:=hg.n2;rw[d4]at hg
    have hp:=hg.pre rfl
    (with_reducible refine Ad (w1:=w') (f := 100) (args:=#[.pointer (some ⟨b,0,none⟩),.agg #[.slice pr nr cr],.slice pb M cb]) ?_ ?_ ?_)
    .simp[Region.wanted,yielded,Act.put,go_sem]
    .simp[Act.eval,Act.put,go_sem]
    .refine(Uc (HG5.out.below hp) (HFR5.out.below hp) (HL25.out.below hp) her hed (by have:=HM1.out;omega)).mono ?_;rintro en w9 ⟨_,rfl,⟨q9,c9,rfl,u1,u2⟩,hb⟩;rw[HVM.out]at u1
     have hu:(M+1=M+1)/\Ba w9 33 q9 (M+1) c9 MS/\∀a,q9=some a->wq.heap.size<=a.block:=⟨rfl,u1,fun a ha=>Eo hp.size (u2 a ha)⟩
     replace hu:=(show (fun x:P3=>x.2.1=M+1/\Ba w9 33 x.1 (M+1) x.2.2 MS/\∀a,x.1=some a->wq.heap.size<=a.block) (q9,M+1,c9) from hu)
     exact⟨_,rfl,trivial,trivial,by simpa [upd,d4]using(hg.later hb (fun x k=>⟨k.1,k.2.1.below hb,k.2.2⟩) (fun x k=>⟨k.1,k.2.1.below hb,k.2.2⟩)).put2 hu⟩
   case refine_9=>
    intro D sp w' hD hW hdp hg;have d1:D 3=true:=(hdp 3 (mq (by kernel_rfl))).1;have d2:D 7=true:=(hdp 7 (mq (by kernel_rfl))).1;rw[hD,d1,d2]at hg
    have d4:=hg.n3;rw[d4]at hg
    (with_reducible refine Bc (hg.p1 rfl rfl) fun x hx=>Bc (hg.p2 rfl rfl) fun y hy=>?_)
    have h1:=hx.1;have h2:=hy.1
    (with_reducible refine Ai (w1:=w') (v:=.agg #[.slice x.1 x.2.1 x.2.2,.slice y.1 y.2.1 y.2.2]) ?_ ?_ ?_)
    .simp only[Region.wanted]
    .simp[execOp,Act.eval,Act.put,go_sem,h1,h2]
    .exact⟨trivial,trivial,by simpa [upd,d1,d2,d4]using hg.put3 hx.2 hy.2⟩
   case refine_10=>
    intro D sp w' hD hW hdp hg;have d3:D 8=true:=(hdp 8 (mq (by kernel_rfl))).1;rw[hD,d3]at hg
    (with_reducible refine Bc (hg.p3 rfl rfl) fun x hx=>Bc hx fun y hy=>?_)
    have h1:=hy.1;have g0:=Sz (HXD5.out.below (hg.pre rfl) HXD5.out.lt).at_
    (with_reducible refine Aq (w1:=set2 w' (w.heap.size+1+1) (.slice x.1 x.2.1 x.2.2) (.slice y.1 y.2.1 y.2.2)) ?_ ?_ ?_)
    .simp only[Region.wanted]
    .simp[execOp,Act.eval,Act.put,go_sem,h1,g0.1.1,g0.1.2,g0.2.1,g0.2.2,set2]
    .exact⟨trivial,trivial,by simpa [upd,d3]using hg.put4 hy.2.1 hy.2.2⟩
   all_goals
    intro D sp w' hD hW hdp hg;simp[asked,Region.wanted,Oper.gives,execOp,Act.eval,Act.put,go_sem]
  .intro sp w9 hsp hg;obtain⟨w5,x,y,k1,k2,k3,k4⟩:=hg.fin rfl;obtain⟨px,nx,cx⟩:=x;obtain⟨py,ny,cy⟩:=y
   dsimp only at k2 k3 k4
   obtain⟨rfl,k2,k2'⟩:=k2;obtain⟨rfl,k3,k3'⟩:=k3;have hbx5:=HXD5.out.below k1 HXD5.out.lt;have hbz:Bo 64 w9 (w.heap.size+1+1) (.slice px (M+1) cx) (.slice py (M+1) cy):=by rw[k4];exact hbx5.set _ _
   have HN1:Aa (Ba w9 33 px (M+1) cx VS):=⟨by rw[k4];exact Oz (x:=(none,0,0)) (y:=(none,0,0)) k2 hbx5.at_ HXD5.out.lt k2'⟩
   have HN2:Aa (Ba w9 33 py (M+1) cy MS):=⟨by rw[k4];exact Oz (x:=(none,0,0)) (y:=(none,0,0)) k3 hbx5.at_ HXD5.out.lt k3'⟩
   have HBF:Aa (Below w.heap.size w w9):=⟨by rw[k4];exact(Ab HBl5.out k1).trans ((put2 hbx5.at_).bel _ (by omega))⟩
   have HFR1:Aa (∀a,px=some a->w.heap.size<=a.block):=⟨fun a ha=>Eo HBl5.out.size (k2' a ha)⟩
   have HFR2:Aa (∀a,py=some a->w.heap.size<=a.block):=⟨fun a ha=>Eo HBl5.out.size (k3' a ha)⟩
   obtain⟨k0,k5⟩:=hbz.cells;clear hsp hg k1 k2 k3 k4 k2' k3' hbx5 hbz;simp only[Ak,Nat.reduceAdd];generalize sp 3=y3,sp 7=y7,sp 8=y8,sp 9=y9 at *
   go_simp
   go_wp2;exact bodyPost_ret (v:=.tuple #[.agg #[.slice px (M+1) cx,.slice py (M+1) cy],.int .i64 0]) (by simp[results,Tryz.results38,go_sem,k0,k5]) rfl ⟨px,cx,py,cy,rfl,HN1.out,HN2.out,⟨HFR1.out,HFR2.out⟩,HBF.out⟩
end Go.Proofs.YtokhckjemidbpaaGreatDoor
