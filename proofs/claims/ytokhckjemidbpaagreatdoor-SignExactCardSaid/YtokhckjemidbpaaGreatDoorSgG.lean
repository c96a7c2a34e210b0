/- Signatures in the laws' groups; the chapter's example lives (law11's lives). -/
import Derived.Test.YtokhckjemidbpaaGreatDoorSgD
set_option maxRecDepth 1000000
set_option maxHeartbeats 16000000
set_option linter.all false
namespace Go.Proofs.YtokhckjemidbpaaGreatDoor
open Go Go.RowKit Go.Proofs.YtokhckjemidbpaaGreatDoor.Flow
structure KD (B C:Nat) (w w':World):Prop where
 k:Ap B w w'
 cell:∀p v,C<=p.block->w.cell? p=some v->w'.cell? p=some v
 shape:∀g s,C<=g->w.shape? g=some s->w'.shape? g=some s
theorem KD.of {B C:Nat}{w w':World}(h:Below w.heap.size w w')(hB:B<=w.heap.size):KD B C w w':=⟨Ap.of h hB,fun _ _ _ hp=>cell_below h hp,fun _ _ _ hs=>Rd h hs⟩
theorem KD.trans {B C:Nat}{w1 w2 w3:World}(h:KD B C w1 w2)(k:KD B C w2 w3):KD B C w1 w3:=⟨h.k.trans k.k,fun p v c x=>k.cell p v c (h.cell p v c x),fun g s c x=>k.shape g s c (h.shape g s c x)⟩
theorem KD.drew (B C:Nat)(w:World):KD B C w w.drew:=⟨Ap.drew _ _,fun _ _ _ h=>h,fun _ _ _ h=>h⟩
theorem KD.mark {B C g:Nat}{w:World}(k:Nat)(hB:B<=g):KD B C w (w.freeze ⟨g,k,none⟩ 1) :=
 ⟨⟨(KC.mark (B:=B) k hB).bel,fun _ _ _ _ h=>Hj.stay h (by simp[World.freeze]) fun q _ o=>Jq _ _ _ _⟩,fun p v _ h=>by rw[Jq];exact h,fun j s _ h=>by rw[Pl];exact h⟩
theorem KD.store {B C b m d:Nat}{q:Option Addr}{w:World}(hb:Af w b (.slice q m d))(hB:B<=b)(hC:b<C)(v:Value):KD B C w (w.setCell ⟨b,0,none⟩ v) :=
 ⟨Ap.store hb hB v,fun p u hp hu=>by
  rw[<-hu];refine World.cell?_of_block (a:=p) ?_;have:b≠p.block:=by omega
  simp[World.setCell,Array.getElem?_modify,this],fun g s hg hs=>by
  rw[<-hs];have:b≠g:=by omega
  simp[World.shape?,World.setCell,Array.getElem?_modify,this]⟩
theorem Fit.kd {e N B C:Nat}{v:Value}{w w':World}(h:Fit e N v w)(k:KD B C w w'):Fit e N v w':=h.keep k.k
structure Gx (B C:Nat) (w:World) (P:Part):Prop where
 ok:Ax w P
 at_:0<P.n->∀q,P.p=some q->C<=q.block ∨ q.block<B
theorem Gx.kd {B C:Nat}{w w':World}{P:Part}(h:Gx B C w P)(k:KD B C w w'):Gx B C w' P:=by
 refine⟨⟨⟨h.ok.row.len,h.ok.row.cap,h.ok.row.max,fun h0=>?_⟩,h.ok.bytes⟩,h.at_⟩;obtain⟨k1,k2,k3,k4⟩:=h.ok.row.row h0;refine⟨k1,k2,k3,?_⟩;rcases k4 with e|⟨b,off,h1,h2,h3⟩
 .exact .inl e
 .refine .inr ⟨b,off,h1,Ej h2 k.k.bel.size,fun i x hx=>?_⟩;rcases h.at_ h0 _ h1 with hc|hb
  .exact k.cell _ _ hc (h3 i x hx)
  .rw[k.k.bel.cell (p:=⟨b,off+i,none⟩) hb];exact h3 i x hx
theorem Gx.old {B C:Nat}{w0 w:World}{P:Part}(h:Ax w0 P)(hB:w0.heap.size<=B)(k:Below w0.heap.size w0 w):Gx B C w P:=by
 refine⟨h.below k,fun h0 q hq=>.inr ?_⟩;rcases(h.row.row h0).at_ with h1|⟨b,off,h1,h2,_⟩
 .have:=h1.2.1;omega
 .rw[h1]at hq
  cases hq;have:b<w0.heap.size:=h2;show b<B;omega
def nI (B C n:Nat)(bs:List Nat)(v:Value)(w:World):Prop:=∃g,v=.slice (some ⟨g,0,none⟩) n n/\Gx B C w ⟨some ⟨g,0,none⟩,n,n,bs⟩
theorem nI.kd {B C n:Nat}{bs:List Nat}{v:Value}{w w':World}(h:nI B C n bs v w)(k:KD B C w w'):nI B C n bs v w':=let ⟨g,h1,h2⟩:=h;⟨g,h1,h2.kd k⟩
def bK (B C n:Nat)(bs:List Nat)(v:Value)(w:World):Prop:=∃g,v=.slice (some ⟨g,0,none⟩) n n/\w.shape? g=some (5,n)/\Gx B C w ⟨some ⟨g,0,none⟩,n,n,bs⟩/\C<=g/\B<=g
theorem bK.kd {B C n:Nat}{bs:List Nat}{v:Value}{w w':World}(h:bK B C n bs v w)(k:KD B C w w'):bK B C n bs v w':=let ⟨g,h1,h2,h3,h4,h5⟩:=h;⟨g,h1,k.shape _ _ h4 h2,h3.kd k,h4,h5⟩
theorem bK.made {B C:Nat}(w:World)(bs:List Nat)(hb:∀x∈bs,x<256)(hC:C<=w.heap.size)(hB:B<=w.heap.size)(hl:bs.length<=1000) :
  bK B C bs.length bs (.slice (some ⟨w.heap.size,0,none⟩) bs.length bs.length) (w.alloc (.cells (bs.map fun(x:Nat)=>Value.int .u8 (x:Int)).toArray 5)):=by
 have h1:(w.alloc (.cells (bs.map fun(x:Nat)=>Value.int .u8 (x:Int)).toArray 5)).heap[w.heap.size]? = some (.cells (bs.map fun(x:Nat)=>Value.int .u8 (x:Int)).toArray 5 (0,0)):=heap_alloc_new w _;exact⟨w.heap.size,rfl,by unfold World.shape?;rw[h1];simp,⟨⟨Mf h1 rfl (Dn hl (by decide)),hb⟩,fun _ q hq=>by cases hq;exact .inl hC⟩,hC,hB⟩
def dX (B C n:Nat)(Z:Prop)(bss:List (List Nat))(v:Value)(w:World):Prop:=∃(q:Nat) (L:List Part),v=.slice (some ⟨q,0,none⟩) n n/\Ck w (some ⟨q,0,none⟩) n n L/\(∀P∈L,Gx B C w P)/\C<=q/\(Z->Kd L)/\L.map (·.bs)=bss
theorem dX.kd {B C n:Nat}{Z:Prop}{bss:List (List Nat)}{v:Value}{w w':World}(h:dX B C n Z bss v w)(k:KD B C w w'):dX B C n Z bss v w':=by
 obtain⟨q,L,h1,h2,h3,h4,h5,h6⟩:=h;refine⟨q,L,h1,⟨h2.len,h2.cap,h2.max,fun i P hP=>((h3 P (List.mem_of_getElem? hP)).kd k).ok,fun h0=>?_⟩,fun P hP=>(h3 P hP).kd k,h4,h5,h6⟩;obtain⟨b,off,e1,e2,e3⟩:=h2.cells h0;cases e1;exact⟨q,0,rfl,Ej e2 k.k.bel.size,fun i P hP=>k.cell _ _ h4 (e3 i P hP)⟩
theorem dX.four {B C:Nat}(w:World)(P Q R S:Part)(hP:Gx B C w P)(hQ:Gx B C w Q)(hR:Gx B C w R)(hS:Gx B C w S)(zP:P.p=none->P.c=0)(zQ:Q.p=none->Q.c=0)(zR:R.p=none->R.c=0){Z:Prop}(zS:Z->S.p=none->S.c=0)(hC:C<=w.heap.size)(hB:B<=w.heap.size) :
  dX B C 4 Z [P.bs,Q.bs,R.bs,S.bs] (.slice (some ⟨w.heap.size,0,none⟩) 4 4) (w.alloc (.cells #[.slice P.p P.n P.c,.slice Q.p Q.n Q.c,.slice R.p R.n R.c,.slice S.p S.n S.c] 23)):=by
 have hb:KD B C w (w.alloc (.cells #[.slice P.p P.n P.c,.slice Q.p Q.n Q.c,.slice R.p R.n R.c,.slice S.p S.n S.c] 23)):=KD.of ((Bb _ _).alloc (As _) _) hB;refine⟨w.heap.size,[P,Q,R,S],rfl,kE w P Q R S hP.ok hQ.ok hR.ok hS.ok,fun X hX=>?_,hC,fun h=>jG zP zQ zR (zS h),rfl⟩;simp only[List.mem_cons,List.not_mem_nil,or_false]at hX;rcases hX with rfl|rfl|rfl|rfl
 .exact hP.kd hb
 .exact hQ.kd hb
 .exact hR.kd hb
 .exact hS.kd hb
theorem Pz.mark {d:Bool}{b N:Nat}{w:World}(h:Pz d b N w)(g k:Nat)(hg:b≠g):Pz d b N (w.freeze ⟨g,k,none⟩ 1):=by
 obtain⟨p,n,c,h1,h2⟩:=h;refine⟨p,n,c,?_,fun e=>Hj.stay (h2 e) (by simp[World.freeze]) fun q _ o=>Jq _ _ _ _⟩;unfold Af at *;rw[<-h1];simp[World.freeze,Array.getElem?_modify,hg.symm]
theorem Vr {w:World}{b P Q G H e A Y:Nat}{v u:Value}{pm:Option Addr}{nm cm:Nat}{msg:List Nat}(hg:Bc w b P Q G H)(hT:Tabs w)(hv:Fit e A v w)(hu:Fit e Y u w)(he:e<=30000)(hA:A<P)(hY:Y<P)(hs:Ak P<=16)(hm:Ax w ⟨pm,nm,cm,msg⟩) :
  Calls Tryz.prog 66 #[.pointer (some ⟨b,0,none⟩),v,u,.slice pm nm cm] w fun en w'=>∃x,en=.returned x/\Fit 33 (Hd P Q A Y msg) x w'/\Below w.heap.size w w':=by
 obtain⟨pa,na,ca,rfl,h1,h2⟩:=Aw hv;obtain⟨py,ny,cy,rfl,k1,k2⟩:=Aw hu;have hbx:=Yn.mk3 w (.slice pa na ca) (.slice py ny cy) (.slice none 0 0);have hsz3:(((w.alloc (.cells #[.slice pa na ca] 37)).alloc (.cells #[.slice py ny cy] 37)).alloc (.cells #[.slice none 0 0] 37)).heap.size=w.heap.size+1+1+1:=by simp
 obtain⟨wa,hwa⟩:∃wa,((w.alloc (.cells #[.slice pa na ca] 37)).alloc (.cells #[.slice py ny cy] 37)).alloc (.cells #[.slice none 0 0] 37)=wa:=⟨_,rfl⟩
 rw[hwa]at hbx hsz3
 have HBL:=Ab hbx.bel;have HX0:=Ab hbx.b0;have HX1:=Ab hbx.b1;have HZ0:=Ab hbx.b2;have HA:=Ab ((Fit.of h1 h2).below hbx.bel);have HY:=Ab ((Fit.of k1 k2).below hbx.bel);have HG:Aa (∀w',Ap (w.heap.size+1+1) wa w'->Bc w' b P Q G H):=⟨fun w' k=>(Jt.of hg (As _) HBL.out).keep ⟨k.bel.mono (by omega),k.nat⟩⟩
 have HT:=Ab hT;have HM:Aa (Gx (w.heap.size+1+1) (w.heap.size+1+1+1) wa ⟨pm,nm,cm,msg⟩):=⟨Gx.old hm (by omega) hbx.bel⟩
 have HSB:Aa (∀ {w':World},KD (w.heap.size+1+1) (w.heap.size+1+1+1) wa w'->w.heap.size+1+1<=w'.heap.size):=⟨fun hk=>by have:=hk.k.bel.size;omega⟩
 have HSC:Aa (∀ {w':World},KD (w.heap.size+1+1) (w.heap.size+1+1+1) wa w'->w.heap.size+1+1+1<=w'.heap.size):=⟨fun hk=>by have:=hk.k.bel.size;omega⟩
 have HCH0:Aa (∀sz,Ak P=sz->be (Ie (Cg [Fs,Az A sz,Az Y sz,msg]))%Q=Hd P Q A Y msg):=⟨fun sz h=>by subst h;rfl⟩
 obtain⟨CH,hCH⟩:∃C,Hd P Q A Y msg=C:=⟨_,rfl⟩
 rw[hCH]at HCH0 ⊢
 obtain⟨sz,hsz⟩:∃s,Ak P=s:=⟨_,rfl⟩
 have HCH:=Ab (HCH0.out sz hsz);rw[hsz]at hs
 have HSZ:=Ab hsz;have HSs:=Ab hs;have HAP:=Ab hA;have HYP:=Ab hY;have HQl:Aa (CH<Ar 33):=⟨by rw[<-hCH];exact Nat.lt_trans (Iw (by have:=hg.lims.2.2.1;omega)) hg.lims.2.2.2⟩
 clear h1 h2 k1 k2 hbx hg hv hu hT hm hCH hsz hA hY HCH0;go_enter Tryz.func66,Tryz.ntmps66;go_wp2;refine Ah (by kernel_rfl) (by kernel_rfl)
  [some (.pointer (some ⟨b,0,none⟩)),none,none,some (.pointer (some ⟨b,0,none⟩)),some (.agg #[.slice pa na ca]),none,some (.pointer (some ⟨b,0,none⟩)),some (.agg #[.slice py ny cy]),none,some (.slice pm nm cm),none,none,none]
  [false,true,true,false,false,true,false,false,true,false,true,true,true] rfl
  (fun w1 w2=>KD (w.heap.size+1+1) (w.heap.size+1+1+1) w1 w2)
  (fun D w'=>KD (w.heap.size+1+1) (w.heap.size+1+1+1) wa w'/\Pz (D 12) (w.heap.size+1+1) CH w')
  (fun i v w'=>match i with
   | 1=>bK (w.heap.size+1+1) (w.heap.size+1+1+1) 4 Fs v w'
   | 2=>bK (w.heap.size+1+1) (w.heap.size+1+1+1) 4 Fs v w'
   | 5=>nI (w.heap.size+1+1) (w.heap.size+1+1+1) sz (Az A sz) v w'
   | 8=>nI (w.heap.size+1+1) (w.heap.size+1+1+1) sz (Az Y sz) v w'
   | 10=>dX (w.heap.size+1+1) (w.heap.size+1+1+1) 4 (pm=none->cm=0) [Fs,Az A sz,Az Y sz,msg] v w'
   | 11=>Fit 33 CH v w'
   | 12=>True
   | _=>True)
  ?_ ⟨KD.drew _ _ _,Pz.fresh HZ0.out⟩ ?_ ?_
 .intro i v w1 w2 hf hb;split at hf
  .exact hf.kd hb
  .exact hf.kd hb
  .exact hf.kd hb
  .exact hf.kd hb
  .exact hf.kd hb
  .exact hf.kd hb
  .exact hf
  .trivial
 .simp only[Ba,Nat.reduceAdd];refine⟨?_,?_,?_,?_,?_,?_,?_,?_,?_,?_,?_,?_,?_,trivial⟩
  all_goals intro D sp w' hD hW hdp hbx'
  case refine_2=>
   (with_reducible refine Ai (w1:=w'.alloc (.cells #[.int .u8 115,.int .u8 105,.int .u8 103,.int .u8 110] 5)) (v:=.slice (some ⟨w'.heap.size,0,none⟩) 4 4) ?_ ?_ ?_)
   .simp only[Region.wanted]
   .simp[execOp,Act.eval,go_sem]
   .have hb:Below w'.heap.size w' (w'.alloc (.cells #[.int .u8 115,.int .u8 105,.int .u8 103,.int .u8 110] 5)):=Bx;exact⟨KD.of hb (HSB.out hbx'.1),bK.made w' Fs (by decide) (HSC.out hbx'.1) (HSB.out hbx'.1) (by decide),⟨hbx'.1.trans (KD.of hb (HSB.out hbx'.1)),by simpa [upd]using hbx'.2.later hb⟩⟩
  case refine_3=>
   have hx1:∃g,sp 1=.slice (some ⟨g,0,none⟩) 4 4/\w'.shape? g=some (5,4)/\Gx (w.heap.size+1+1) (w.heap.size+1+1+1) w' ⟨some ⟨g,0,none⟩,4,4,Fs⟩/\(w.heap.size+1+1+1)<=g/\(w.heap.size+1+1)<=g:=(hdp 1 (mq (by kernel_rfl))).2
   (with_reducible refine Ay hx1 fun g e10=>?_)
   have h1:=e10.1;have h7:=run_mark (w:=w') (n:=4) (c:=4) e10.2.1
   (with_reducible refine Ai (w1:=w'.freeze ⟨g,4,none⟩ 1) (v:=.slice (some ⟨g,0,none⟩) 4 4) ?_ ?_ ?_)
   .simp only[Region.wanted]
   .simp[execOp,Act.eval,Act.put,go_sem,h1,h7]
   .have hkc:=KD.mark (w:=w') (g:=g) (B:=(w.heap.size+1+1)) (C:=(w.heap.size+1+1+1)) 4 e10.2.2.2.2;exact⟨hkc,⟨g,rfl,hkc.shape _ _ e10.2.2.2.1 e10.2.1,e10.2.2.1.kd hkc,e10.2.2.2⟩,⟨hbx'.1.trans hkc,by simpa [upd]using Pz.mark hbx'.2 _ _ (by have:=e10.2.2.2.1;omega)⟩⟩
  case refine_5=>
   have c0:=(HX0.out.below hbx'.1.k.bel (by omega)).cell
   with_reducible refine Ad ?_ ?_
   all_goals simp[Region.wanted,yielded,execOp,Act.eval,Act.put,go_sem,c0]
  case refine_6=>
   (with_reducible refine Ac (w1:=w') (f := 133) (args:=#[.pointer (some ⟨b,0,none⟩),.agg #[.slice pa na ca]]) ?_ ?_ ?_)
   .simp[Region.wanted,yielded,Act.put,go_sem]
   .simp[Act.eval,Act.put,go_sem]
   .refine(Tp (HG.out w' hbx'.1.k) (HA.out.keep hbx'.1.k) he HAP.out HSZ.out HSs.out).mono ?_;rintro en w9 ⟨g9,rfl,hg9,hu,hb⟩;exact⟨_,rfl,KD.of hb (HSB.out hbx'.1),⟨g9,rfl,⟨Gw hu (by omega),fun _ q hq=>by cases hq;exact .inl (Dn (HSC.out hbx'.1) hg9)⟩⟩,⟨hbx'.1.trans (KD.of hb (HSB.out hbx'.1)),by simpa [upd]using hbx'.2.later hb⟩⟩
  case refine_8=>
   have c0:=(HX1.out.below hbx'.1.k.bel (by omega)).cell
   with_reducible refine Ad ?_ ?_
   all_goals simp[Region.wanted,yielded,execOp,Act.eval,Act.put,go_sem,c0]
  case refine_9=>
   (with_reducible refine Ac (w1:=w') (f := 133) (args:=#[.pointer (some ⟨b,0,none⟩),.agg #[.slice py ny cy]]) ?_ ?_ ?_)
   .simp[Region.wanted,yielded,Act.put,go_sem]
   .simp[Act.eval,Act.put,go_sem]
   .refine(Tp (HG.out w' hbx'.1.k) (HY.out.keep hbx'.1.k) he HYP.out HSZ.out HSs.out).mono ?_;rintro en w9 ⟨g9,rfl,hg9,hu,hb⟩;exact⟨_,rfl,KD.of hb (HSB.out hbx'.1),⟨g9,rfl,⟨Gw hu (by omega),fun _ q hq=>by cases hq;exact .inl (Dn (HSC.out hbx'.1) hg9)⟩⟩,⟨hbx'.1.trans (KD.of hb (HSB.out hbx'.1)),by simpa [upd]using hbx'.2.later hb⟩⟩
  case refine_11=>
   have hx2:∃g,sp 2=.slice (some ⟨g,0,none⟩) 4 4/\w'.shape? g=some (5,4)/\Gx (w.heap.size+1+1) (w.heap.size+1+1+1) w' ⟨some ⟨g,0,none⟩,4,4,Fs⟩/\(w.heap.size+1+1+1)<=g/\(w.heap.size+1+1)<=g:=(hdp 2 (mq (by kernel_rfl))).2
   (with_reducible refine Ay hx2 fun g e20=>?_)
   have hx5:∃g,sp 5=.slice (some ⟨g,0,none⟩) sz sz/\Gx (w.heap.size+1+1) (w.heap.size+1+1+1) w' ⟨some ⟨g,0,none⟩,sz,sz,Az A sz⟩:=(hdp 5 (mq (by kernel_rfl))).2
   (with_reducible refine Ay hx5 fun ga e50=>?_)
   have hx8:∃g,sp 8=.slice (some ⟨g,0,none⟩) sz sz/\Gx (w.heap.size+1+1) (w.heap.size+1+1+1) w' ⟨some ⟨g,0,none⟩,sz,sz,Az Y sz⟩:=(hdp 8 (mq (by kernel_rfl))).2
   (with_reducible refine Ay hx8 fun gy e80=>?_)
   have ea:=e20.1;have eb:=e50.1;have ec:=e80.1
   (with_reducible refine Ai (w1:=w'.alloc (.cells #[.slice (some ⟨g,0,none⟩) 4 4,.slice (some ⟨ga,0,none⟩) sz sz,.slice (some ⟨gy,0,none⟩) sz sz,.slice pm nm cm] 23)) (v:=.slice (some ⟨w'.heap.size,0,none⟩) 4 4) ?_ ?_ ?_)
   .simp only[Region.wanted]
   .simp[execOp,Act.eval,Act.put,go_sem,ea,eb,ec]
   .have hb:Below w'.heap.size w' (w'.alloc (.cells #[.slice (some ⟨g,0,none⟩) 4 4,.slice (some ⟨ga,0,none⟩) sz sz,.slice (some ⟨gy,0,none⟩) sz sz,.slice pm nm cm] 23)):=Bx;exact⟨KD.of hb (HSB.out hbx'.1),dX.four w' ⟨some ⟨g,0,none⟩,4,4,Fs⟩ ⟨some ⟨ga,0,none⟩,sz,sz,Az A sz⟩ ⟨some ⟨gy,0,none⟩,sz,sz,Az Y sz⟩ ⟨pm,nm,cm,msg⟩ e20.2.2.1 e50.2 e80.2 (HM.out.kd hbx'.1) (fun h=>by cases h) (fun h=>by cases h) (fun h=>by cases h) (fun h=>h) (HSC.out hbx'.1) (HSB.out hbx'.1),⟨hbx'.1.trans (KD.of hb (HSB.out hbx'.1)),by simpa [upd]using hbx'.2.later hb⟩⟩
  case refine_12=>
   have hx10:∃(q:Nat) (L:List Part),sp 10=.slice (some ⟨q,0,none⟩) 4 4/\Ck w' (some ⟨q,0,none⟩) 4 4 L/\(∀P∈L,Gx (w.heap.size+1+1) (w.heap.size+1+1+1) w' P)/\(w.heap.size+1+1+1)<=q/\((pm=none->cm=0)->Kd L)/\L.map (·.bs)=[Fs,Az A sz,Az Y sz,msg]:=(hdp 10 (mq (by kernel_rfl))).2
   (with_reducible refine Ay hx10 fun q e100=>Ay e100 fun L e101=>?_)
   have h1:=e101.1
   (with_reducible refine Ac (w1:=w') (f := 132) (args:=#[.pointer (some ⟨b,0,none⟩),.slice (some ⟨q,0,none⟩) 4 4]) ?_ ?_ ?_)
   .simp only[Region.wanted]
   .simp[Act.eval,Act.put,go_sem,h1]
   .refine(mC (HG.out w' hbx'.1.k) (HT.out.below (HBL.out.trans (hbx'.1.k.bel.mono (by omega))) HT.out.size) e101.2.1).mono ?_;rintro en w9 ⟨u,rfl,hu,hb⟩;rw[e101.2.2.2.2.2,HCH.out]at hu
    exact⟨u,rfl,KD.of hb (HSB.out hbx'.1),hu,⟨hbx'.1.trans (KD.of hb (HSB.out hbx'.1)),by simpa [upd]using hbx'.2.later hb⟩⟩
  case refine_13=>
   have hx:∃p n c,sp 11=.agg #[.slice p n c]/\Aj w' p n c (CH)/\CH<Ar (33):=(hdp 11 (mq (by kernel_rfl))).2
   (with_reducible refine Ay hx fun p hx1=>Ay hx1 fun n hx2=>Ay hx2 fun c hx3=>?_)
   have h1:=hx3.1;have hp:=hbx'.2.put (hx3.2.1)
   (with_reducible refine Ay hp fun q hy1=>Ay hy1 fun m hy2=>Ay hy2 fun k hy3=>?_)
   have h6:=hy3.1.cell;have h7:=hy3.1.free
   (with_reducible refine Aq (w1:=w'.setCell ⟨w.heap.size+1+1,0,none⟩ (.slice p n c)) ?_ ?_ ?_)
   .simp only[Region.wanted]
   .simp[execOp,Act.eval,Act.put,go_sem,h1,h6,h7]
   .have hkd:KD (w.heap.size+1+1) (w.heap.size+1+1+1) w' (w'.setCell ⟨w.heap.size+1+1,0,none⟩ (.slice p n c)):=KD.store hy3.1 (As _) (Nat.lt_succ_self _) _;exact⟨hkd,trivial,⟨hbx'.1.trans hkd,by have h8:=hy3.2;simpa [upd]using h8⟩⟩
  all_goals ((with_reducible refine Ad ?_ ?_);all_goals first|(simp only[Region.wanted];done)|simp[Region.wanted,yielded,execOp,Act.eval,Act.put,go_sem])
 .intro sp w8 hsp hk;obtain⟨hk1,pz,nz,cz,hz1,hz2⟩:=hk;have kz:=hz1.cell;have HZ:=Ab (hz2 rfl);have HB7:Aa (Below w.heap.size w w8):=⟨HBL.out.trans (hk1.k.bel.mono (by omega))⟩
  clear hsp hk1 hz1 hz2;simp only[An,Nat.reduceAdd];generalize sp 1=y1,sp 2=y2,sp 5=y5,sp 8=y8,sp 10=y10,sp 11=y11,sp 12=y12 at *
  go_simp
  go_wp2;exact bodyPost_ret (v:=.agg #[.slice pz nz cz]) (by simp[results,Tryz.results66,go_sem,kz]) rfl ⟨_,rfl,Fit.of HZ.out HQl.out,HB7.out⟩
def bJ (N M:Nat)(v:Value)(w:World):Prop:=∃(g:Nat) (x y:Option Addr×Nat×Nat),v=.slice (some ⟨g,0,none⟩) 2 2/\w.heap[g]? = some (.cells #[.slice x.1 x.2.1 x.2.2,.slice y.1 y.2.1 y.2.2] 37 (0,0))/\Gq w x N/\Gq w y M/\N<Ar 33/\M<Ar 33
theorem bJ.kn {N M B:Nat}{v:Value}{w w':World}(h:bJ N M v w)(k:KN B w w'):bJ N M v w' :=
 let ⟨g,x,y,h1,h2,h3,h4,h5,h6⟩:=h
 ⟨g,x,y,h1,k.blk _ _ h2 (fun _ _ _=>by simp),k.k.nat _ _ _ _ h3,k.k.nat _ _ _ _ h4,h5,h6⟩
theorem bJ.plist {N M g:Nat}{x y:Option Addr×Nat×Nat}{w:World}(h2:w.heap[g]? = some (.cells #[.slice x.1 x.2.1 x.2.2,.slice y.1 y.2.1 y.2.2] 37 (0,0)))(h3:Gq w x N)(h4:Gq w y M)(h5:N<Ar 33)(h6:M<Ar 33):Cp w 33 (some ⟨g,0,none⟩) 2 2 [N,M]:=by
 refine⟨rfl,As _,by decide,(fun e=>by cases e),fun _=>⟨g,0,rfl,(Kv h2).1,fun i K hK=>?_⟩⟩
 match i,hK with
 | 0,hK=>cases hK;exact⟨x.1,x.2.1,x.2.2,by simp[World.cell?,h2],h3,h5⟩
 | 1,hK=>cases hK;exact⟨y.1,y.2.1,y.2.2,by simp[World.cell?,h2],h4,h6⟩
theorem fT {P G S Z C:Nat}:Md P 1 ([G,Z].zip [S,C])=(1*(G^S%P)%P)*(Z^C%P)%P:=rfl
theorem hJ {w:World}{b P Q G H ea ey A Y CC SS:Nat}{va vy:Value}{x y:Option Addr×Nat×Nat}(hg:Bc w b P Q G H)(ha:Fit ea A va w)(hv:Fit ey Y vy w)(hea:ea<=33)(hey:ey<=33)(hC:Gq w x CC)(hS:Gq w y SS)(lC:CC<Ar 33)(lS:SS<Ar 33) :
  Calls Tryz.prog 86 #[.agg #[.slice x.1 x.2.1 x.2.2,.slice y.1 y.2.1 y.2.2],.pointer (some ⟨b,0,none⟩),va,vy] w fun en w'=>∃u,en=.returned u/\Fit 33 (Sx P A Y CC SS) u w'/\Below w.heap.size w w':=by
 obtain⟨pa,na,ca,rfl,h1,h2⟩:=Aw (ha.wide hea);obtain⟨py,ny,cy,rfl,h3,h4⟩:=Aw (hv.wide hey);have hs:=Ey.made w (.slice x.1 x.2.1 x.2.2) (.slice y.1 y.2.1 y.2.2);have hb0:Below w.heap.size w (w.alloc (.cells #[.slice x.1 x.2.1 x.2.2,.slice y.1 y.2.1 y.2.2] 125)):=Bx;have hz0:(w.alloc (.cells #[.slice x.1 x.2.1 x.2.2,.slice y.1 y.2.1 y.2.2] 125)).heap.size=w.heap.size+1:=by simp
 have hbx:=Yn.mk3 (w.alloc (.cells #[.slice x.1 x.2.1 x.2.2,.slice y.1 y.2.1 y.2.2] 125)) (.slice pa na ca) (.slice py ny cy) (.slice none 0 0);have q0:=hbx.b0;have q1:=hbx.b1;have q2:=hbx.b2;have hbl:=Ae hb0 hbx.bel;have hs2:=hs.below hbx.bel hs.lt;rw[hz0]at q0 q1 q2
 obtain⟨wa,hwa⟩:∃wa,((((w.alloc (.cells #[.slice x.1 x.2.1 x.2.2,.slice y.1 y.2.1 y.2.2] 125)).alloc (.cells #[.slice pa na ca] 37)).alloc (.cells #[.slice py ny cy] 37)).alloc (.cells #[.slice none 0 0] 37))=wa:=⟨_,rfl⟩
 rw[hwa]at q0 q1 q2 hbl hs2
 have HS9:=Ab hs2;have HXA:=Ab q0;have HXY:=Ab q1;have HZ0:=Ab q2;have HB3:=Ab hbl;have HA:=Ab ((Fit.of h1 h2).below hbl);have HAb:=Ab h2;have HY:=Ab ((Fit.of h3 h4).below hbl);have HCN:Aa (Gq wa x CC):=⟨hC.below hbl⟩
 have HSN:Aa (Gq wa y SS):=⟨hS.below hbl⟩
 have HCL:=Ab lC;have HSL:=Ab lS;have HG:=Ab (hg.below hbl);have HL:=Ab hg.lims;obtain⟨ZZ,hZZ⟩:∃Z,Tt P Y=Z:=⟨_,rfl⟩
 obtain⟨AA,hAA⟩:∃K,Md P 1 ([A,ZZ].zip [SS,CC])=K:=⟨_,rfl⟩
 have HZZ:=Ab hZZ;have HAA:=Ab hAA;have hAE:Sx P A Y CC SS=AA:=by
  unfold Sx;rw[hZZ,<-hAA,fT,Nat.one_mul,Nat.mod_mod]
 have hAAl:AA<P:=by rw[<-hAE];exact Nat.mod_lt _ (by have:=HL.out.1;omega)
 have HAAb:Aa (AA<Ar 33):=⟨Nat.lt_trans hAAl HL.out.2.1⟩
 rw[hAE];clear hAE hAAl hZZ hAA h1 h2 h3 h4 hs hb0 hz0 hbx q0 q1 q2 hbl hs2 hg ha hv hC hS;go_enter Tryz.func86,Tryz.ntmps86;go_wp2;refine Am (by kernel_rfl) (by kernel_rfl)
  [some (.pointer (some ⟨b,0,none⟩)),some (.agg #[.slice pa na ca]),some (.pointer (some ⟨b,0,none⟩)),some (.agg #[.slice py ny cy]),none,none,some (.pointer (some ⟨w.heap.size,1,none⟩)),some (.agg #[.slice y.1 y.2.1 y.2.2]),some (.pointer (some ⟨w.heap.size,0,none⟩)),some (.agg #[.slice x.1 x.2.1 x.2.2]),none,none,none,none,some (.int .i64 0),none,none,some (.int .i64 0)]
  [false,false,false,false,true,true,false,false,false,false,true,true,true,true,false,true,true,false] rfl
  (fun wA wB=>KN (wa.heap.size) wA wB)
  (fun D sp w'=>RG (wa.heap.size) wa [] w'/\Qt (D 15) (D 16) (sp 15) (wa.heap.size) (AA) w')
  (fun i v w'=>match i with
   | 4=>Fit 33 (ZZ) v w'
   | 5=>bJ A ZZ v w'
   | 10=>bJ SS CC v w'
   | 11=>Gh 33 AA (.int .i64 0) v w'
   | 12=>Gh 33 AA (.int .i64 0) v w'
   | 13=>Fit (33) (AA) v w'
   | _=>True)
  ?_ ⟨RG.start (As _) (fun x hx=>by cases hx),Qt.start (As _)⟩ ?_ ?_
 .intro i v wA wB hf hb;split at hf
  .exact hf.kn hb
  .exact hf.kn hb
  .exact hf.kn hb
  .exact hf.kn hb
  .exact hf.kn hb
  .exact hf.kn hb
  .trivial
 .simp only[Bf,Nat.reduceAdd];refine⟨?_,?_,?_,?_,?_,?_,?_,?_,?_,?_,?_,?_,?_,?_,?_,?_,?_,?_,trivial⟩
  all_goals intro D sp w' hD hW hdp hg
  case refine_2=>
   have c0:=(HXA.out.below hg.1.keep.bel HXA.out.lt).cell
   with_reducible refine Ad ?_ ?_
   all_goals simp[Region.wanted,yielded,execOp,Act.eval,Act.put,go_sem,c0]
  case refine_4=>
   have c0:=(HXY.out.below hg.1.keep.bel HXY.out.lt).cell
   with_reducible refine Ad ?_ ?_
   all_goals simp[Region.wanted,yielded,execOp,Act.eval,Act.put,go_sem,c0]
  case refine_5=>
   (with_reducible refine Ac (w1:=w') (f := 150) (args:=#[.pointer (some ⟨b,0,none⟩),.agg #[.slice py ny cy]]) ?_ ?_ ?_)
   .simp[Region.wanted,yielded,Act.put,go_sem]
   .simp[Act.eval,Act.put,go_sem]
   .refine(lF (HG.out.below hg.1.keep.bel) (HY.out.below hg.1.keep.bel) (by omega)).mono ?_;rintro en w9 ⟨u,rfl,hu,hb⟩;rw[HZZ.out]at hu
    exact⟨u,rfl,KN.of hb hg.1.base,hu,hg.1.later hb,by simpa [upd]using hg.2.later hb⟩
  case refine_6=>
   have hxb:∃p n c,sp 4=.agg #[.slice p n c]/\Aj w' p n c (ZZ)/\ZZ<Ar (33):=(hdp 4 (mq (by kernel_rfl))).2
   (with_reducible refine Ay hxb fun pb hxb1=>Ay hxb1 fun nb hxb2=>Ay hxb2 fun cb hxb3=>?_)
   have hb:=hxb3.1
   (with_reducible refine Ai (w1:=w'.alloc (.cells #[.slice pa na ca,.slice pb nb cb] 37)) (v:=.slice (some ⟨w'.heap.size,0,none⟩) 2 2) ?_ ?_ ?_)
   .simp only[Region.wanted]
   .simp[execOp,Act.eval,Act.put,go_sem,hb]
   .have hbl:Below w'.heap.size w' (w'.alloc (.cells #[.slice pa na ca,.slice pb nb cb] 37)):=Bx;exact⟨KN.of hbl hg.1.base,⟨w'.heap.size,(pa,na,ca),(pb,nb,cb),rfl,heap_alloc_new w' _,Hs ((HA.out.below hg.1.keep.bel).below hbl),hxb3.2.1.below hbl,HAb.out,hxb3.2.2⟩,hg.1.later hbl,by simpa [upd]using hg.2.later hbl⟩
  case refine_8=>
   have c0:=(HS9.out.below hg.1.keep.bel HS9.out.lt).cells.2
   with_reducible refine Ad ?_ ?_
   all_goals simp[Region.wanted,yielded,execOp,Act.eval,Act.put,go_sem,c0]
  case refine_10=>
   have c0:=(HS9.out.below hg.1.keep.bel HS9.out.lt).cells.1
   with_reducible refine Ad ?_ ?_
   all_goals simp[Region.wanted,yielded,execOp,Act.eval,Act.put,go_sem,c0]
  case refine_11=>
   (with_reducible refine Ai (w1:=w'.alloc (.cells #[.slice y.1 y.2.1 y.2.2,.slice x.1 x.2.1 x.2.2] 37)) (v:=.slice (some ⟨w'.heap.size,0,none⟩) 2 2) ?_ ?_ ?_)
   .simp only[Region.wanted]
   .simp[execOp,Act.eval,Act.put,go_sem]
   .have hbl:Below w'.heap.size w' (w'.alloc (.cells #[.slice y.1 y.2.1 y.2.2,.slice x.1 x.2.1 x.2.2] 37)):=Bx;exact⟨KN.of hbl hg.1.base,⟨w'.heap.size,y,x,rfl,heap_alloc_new w' _,(HSN.out.below hg.1.keep.bel).below hbl,(HCN.out.below hg.1.keep.bel).below hbl,HSL.out,HCL.out⟩,hg.1.later hbl,by simpa [upd]using hg.2.later hbl⟩
  case refine_12=>
   have hr:∃(g:Nat) (x y:Option Addr×Nat×Nat),sp 5=.slice (some ⟨g,0,none⟩) 2 2/\w'.heap[g]? = some (.cells #[.slice x.1 x.2.1 x.2.2,.slice y.1 y.2.1 y.2.2] 37 (0,0))/\Gq w' x A/\Gq w' y ZZ/\A<Ar 33/\ZZ<Ar 33:=(hdp 5 (mq (by kernel_rfl))).2
   (with_reducible refine Ay hr fun ga ha1=>Ay ha1 fun ua ha2=>Ay ha2 fun ta ha3=>?_)
   have hr:∃(g:Nat) (x y:Option Addr×Nat×Nat),sp 10=.slice (some ⟨g,0,none⟩) 2 2/\w'.heap[g]? = some (.cells #[.slice x.1 x.2.1 x.2.2,.slice y.1 y.2.1 y.2.2] 37 (0,0))/\Gq w' x SS/\Gq w' y CC/\SS<Ar 33/\CC<Ar 33:=(hdp 10 (mq (by kernel_rfl))).2
   (with_reducible refine Ay hr fun gb hb1=>Ay hb1 fun ub hb2=>Ay hb2 fun tb hb3=>?_)
   have ea:=ha3.1;have eb:=hb3.1
   (with_reducible refine Ac (w1:=w') (f := 149) (args:=#[.pointer (some ⟨b,0,none⟩),.slice (some ⟨ga,0,none⟩) 2 2,.slice (some ⟨gb,0,none⟩) 2 2]) ?_ ?_ ?_)
   .simp only[Region.wanted]
   .simp[Act.eval,Act.put,go_sem,ea,eb]
   .refine(fX (HG.out.below hg.1.keep.bel) (bJ.plist ha3.2.1 ha3.2.2.1 ha3.2.2.2.1 ha3.2.2.2.2.1 ha3.2.2.2.2.2) (bJ.plist hb3.2.1 hb3.2.2.1 hb3.2.2.2.1 hb3.2.2.2.2.1 hb3.2.2.2.2.2) (by decide) (by decide) (by decide) (by decide)).mono ?_;rintro en w9 ⟨_,rfl,⟨p9,n9,c9,rfl,u1,u2⟩,hb⟩;rw[if_pos rfl,HAA.out]at u1 u2
    exact⟨_,rfl,KN.of hb hg.1.base,⟨p9,n9,c9,rfl,u1,u2⟩,hg.1.later hb,by simpa [upd]using hg.2.later hb⟩
  case refine_13=>
   have k11:Gh 33 AA (.int .i64 0) (sp 11) w':=(hdp 11 (mq (by kernel_rfl))).2
   (with_reducible refine Ai (w1:=w') (v:=sp 11) ?_ ?_ ?_)
   .simp[Region.wanted,yielded,Act.put,go_sem]
   .simp[execOp,Act.eval,Act.put,go_sem]
   .exact⟨KN.same _ _,k11,hg.1,by simpa [upd]using hg.2⟩
  case refine_14=>
   have hx:∃p n c,sp 12=.tuple #[.agg #[.slice p n c],.int .i64 0]/\Aj w' p n c (AA)/\AA<Ar (33):=(hdp 12 (mq (by kernel_rfl))).2
   (with_reducible refine Ay hx fun p hx1=>Ay hx1 fun n hx2=>Ay hx2 fun c hx3=>?_)
   have h1:=hx3.1
   (with_reducible refine Ai (w1:=w') (v:=.agg #[.slice p n c]) ?_ ?_ ?_)
   .simp[Region.wanted,yielded,Act.put,go_sem]
   .simp[execOp,Act.eval,Act.put,go_sem,h1]
   .exact⟨KN.same _ _,⟨p,n,c,rfl,hx3.2⟩,hg.1,by simpa [upd]using hg.2⟩
  case refine_15=>
   have hx:∃p n c,sp 12=.tuple #[.agg #[.slice p n c],.int .i64 0]/\Aj w' p n c (AA)/\AA<Ar (33):=(hdp 12 (mq (by kernel_rfl))).2
   (with_reducible refine Ay hx fun p hx1=>Ay hx1 fun n hx2=>Ay hx2 fun c hx3=>?_)
   have h1:=hx3.1
   with_reducible refine Ad ?_ ?_
   all_goals simp[Region.wanted,yielded,execOp,Act.eval,Act.put,go_sem,h1]
  case refine_16=>
   have h9:D 16=false:=hW 16 (mq (by kernel_rfl));rw[hD,h9]at hg
   (with_reducible refine Ai (w1:=w'.alloc (.cells #[.slice none 0 0] 37)) (v:=.pointer (some ⟨w'.heap.size,0,none⟩)) ?_ ?_ ?_)
   .simp[Region.wanted,yielded,Act.put,go_sem]
   .simp[execOp,go_sem]
   .have hb:Below w'.heap.size w' (w'.alloc (.cells #[.slice none 0 0] 37)):=Bx;refine⟨KN.of hb hg.1.base,trivial,hg.1.later hb,?_⟩;have h8:=hg.2.made;simpa [upd,h9]using h8
  case refine_17=>
   have hx:∃p n c,sp 13=.agg #[.slice p n c]/\Aj w' p n c (AA)/\AA<Ar (33):=(hdp 13 (mq (by kernel_rfl))).2
   (with_reducible refine Ay hx fun p hx1=>Ay hx1 fun n hx2=>Ay hx2 fun c hx3=>?_)
   have h1:=hx3.1;have h9:D 15=true:=(hdp 15 (mq (by kernel_rfl))).1;rw[h9]at hg
   have hp:=hg.2.put (hx3.2.1)
   (with_reducible refine Ay hp fun b hy0=>Ay hy0 fun q hy1=>Ay hy1 fun m hy2=>Ay hy2 fun k hy3=>?_)
   have h3:=hy3.1;have h6:=hy3.2.2.1.cell;have h7:=hy3.2.2.1.free
   (with_reducible refine Aq (w1:=w'.setCell ⟨b,0,none⟩ (.slice p n c)) ?_ ?_ ?_)
   .simp[Region.wanted,yielded,Act.put,go_sem]
   .simp[execOp,Act.eval,Act.put,go_sem,h1,h3,h6,h7]
   .refine⟨KN.store hy3.2.2.1 (Dn (As _) hy3.2.1) _,trivial,hg.1.store_over hy3.2.2.1 (As _) hy3.2.1 (fun x hx=>by cases hx) _,?_⟩;have h8:=hy3.2.2.2;simpa [upd,h9]using h8
  all_goals ((with_reducible refine Ad ?_ ?_);all_goals first|(simp only[Region.wanted];done)|simp[Region.wanted,yielded,execOp,Act.eval,Act.put,go_sem])
 .intro sp w4 hsp hg;obtain⟨hg1,_,hmk⟩:=hg;obtain⟨b11,e11,hb11,pz,nz,cz,hxz,hnz⟩:=hmk rfl;replace hnz:=hnz rfl;have hbel:=hg1.keep.bel;have hz:=HZ0.out.below hbel HZ0.out.lt;have kx:=hxz.cell;have fz:=hz.free;have k8:=hz.cell;have kz:=(hz.set (.slice pz nz cz)).cell;have HN:=Ab (Fit.of (hnz.store hz (.slice pz nz cz)) HAAb.out);have HBf:Aa (Below w.heap.size w (w4.setCell ⟨w.heap.size+1+1+1,0,none⟩ (.slice pz nz cz))):=⟨(Ae HB3.out hbel).setCell (show w.heap.size<=w.heap.size+1+1+1 by omega) _⟩
  clear hsp hg1 hmk hxz hnz hb11 hbel hz hwa;simp only[An,Nat.reduceAdd];rw[e11];clear e11;generalize sp 4=y4,sp 5=y5,sp 10=y10,sp 11=y11,sp 12=y12,sp 13=y13,sp 16=y16 at *
  go_simp
  go_wp2;exact bodyPost_ret (v:=.agg #[.slice pz nz cz]) (by simp[results,Tryz.results86,go_sem,kz]) rfl ⟨_,rfl,HN.out,HBf.out⟩
theorem Nd {w:World}{b P Q G H e X:Nat}{v:Value}{pm:Option Addr}{nm cm:Nat}{msg:List Nat}(hg:Bc w b P Q G H)(hT:Tabs w)(hv:Fit e X v w)(he:e<=30000)(hP:Ak P<=16)(hQ:Ak Q<=16)(hm:Ax w ⟨pm,nm,cm,msg⟩)(hk:0<X/\X<Q) :
  Calls Tryz.prog 16 #[.pointer (some ⟨b,0,none⟩),v,.slice pm nm cm] w fun en w'=>∃u,en=.returned (.tuple #[u,.int .i64 0])/\Bp 0 (Lv P Q G X msg) u w'/\Below w.heap.size w w':=by
 obtain⟨px,nx,cx,rfl,h1,h2⟩:=Aw hv;have hb0:Below w.heap.size w (w.alloc (.cells #[.slice px nx cx] 37)):=Bx;have hX0:=Af.made w (.slice px nx cx);obtain⟨wa,hwa⟩:∃W,w.alloc (.cells #[.slice px nx cx] 37)=W:=⟨_,rfl⟩
 rw[hwa]at hb0 hX0
 have c0:=hX0.cell;have HX0:=Ab hX0;have HBL:=Ab hb0;have HX:=Ab ((Fit.of h1 h2).below hb0);have HGA:=Ab hg;have HT:=Ab hT;have HM:=Ab hm;have HPs:=Ab hP;have HQs:=Ab hQ;have HKy:=Ab hk;have HPU:=Ab (Kl (hg.below hb0) ((Fit.of h1 h2).below hb0) he hk);have HQl:=Ab hg.lims.2.2.2;have hP2:=hg.lims.1;have hQ2:=hg.lims.2.2.1;obtain⟨Y,hY⟩:∃Y,G^X%P=Y:=⟨_,rfl⟩
 obtain⟨KD,hKN⟩:∃K,Sw Q X msg=K:=⟨_,rfl⟩
 obtain⟨GK,hGK⟩:∃K,G^KD%P=K:=⟨_,rfl⟩
 obtain⟨CC,hCC⟩:∃C,Hd P Q GK Y msg=C:=⟨_,rfl⟩
 obtain⟨MM,hMM⟩:∃M,CC*X%Q=M:=⟨_,rfl⟩
 obtain⟨SS,hSS⟩:∃S,(KD+MM)%Q=S:=⟨_,rfl⟩
 obtain⟨SB,hSB⟩:∃S,Lv P Q G X msg=S:=⟨_,rfl⟩
 have HSB:Aa (Az CC (Ak Q)++Az SS (Ak Q)=SB):=⟨by
  rw[<-hSB];unfold Lv jS jT;rw[hKN,hGK,hY,hCC,hMM,hSS]⟩
 have HY:=Ab hY;have HKN:=Ab hKN;have HGK:=Ab hGK;have HCC:=Ab hCC;have HMM:=Ab hMM;have HSS:=Ab hSS;have HGKl:Aa (GK<P):=⟨by rw[<-hGK];exact Nat.mod_lt _ (by omega)⟩
 have HYl:Aa (Y<P):=⟨by rw[<-hY];exact Nat.mod_lt _ (by omega)⟩
 have HCl:Aa (CC<Q):=⟨by rw[<-hCC];exact Iw (by omega)⟩
 have HSl:Aa (SS<Q):=⟨by rw[<-hSS];exact Nat.mod_lt _ (by omega)⟩
 rw[hSB];clear hY hKN hGK hCC hMM hSS hSB h1 h2 hg hv hT hm hP hQ hk hX0 hb0 hP2 hQ2;go_enter Tryz.func16,Tryz.ntmps16
 go_wp2_with fail
 refine HPU.out.mono ?_;rintro en w1 ⟨_,rfl,⟨py,ny,cy,rfl,hy,ly⟩,hb1⟩;rw[HY.out]at hy ly
 have hb2:Below w1.heap.size w1 (w1.alloc (.cells #[.slice py ny cy] 37)):=Bx;have hX2:=Af.made w1 (.slice py ny cy);obtain⟨w2,hw2⟩:∃W,w1.alloc (.cells #[.slice py ny cy] 37)=W:=⟨_,rfl⟩
 rw[hw2]at hb2 hX2
 have hb02:=Ae hb1 hb2;have HB2:=Ab (Ae HBL.out hb02);have HX2:=Ab (HX0.out.below hb02 HX0.out.lt);have HXF2:=Ab (HX.out.below hb02);have HXY2:=Ab hX2;have HY2:=Ab ((Fit.of hy ly).below hb2);clear hy ly hb1 hb2 hb02 hX2 HX0 HX HBL hwa HPU c0;have c0:=HX2.out.cell
 go_wp2_with fail
 clear hw2;refine(lR (HGA.out.below HB2.out) (HT.out.below HB2.out HT.out.size) HXF2.out he HKy.out.2 HQs.out (HM.out.below HB2.out)).mono ?_;rintro en w3 ⟨_,rfl,⟨pk,nk,ck,rfl,hk3,lk3⟩,hb3⟩;rw[HKN.out]at hk3 lk3
 have hb4:Below w3.heap.size w3 (w3.alloc (.cells #[.slice pk nk ck] 37)):=Bx;have hX4:=Af.made w3 (.slice pk nk ck);obtain⟨w4,hw4⟩:∃W,w3.alloc (.cells #[.slice pk nk ck] 37)=W:=⟨_,rfl⟩
 rw[hw4]at hb4 hX4
 have hb34:=Ae hb3 hb4;have HB4:=Ab (Ae HB2.out hb34);have HXX:=Ab (HX2.out.below hb34 HX2.out.lt);have HXF:=Ab (HXF2.out.below hb34);have HXY:=Ab (HXY2.out.below hb34 HXY2.out.lt);have HY:Aa (Fit 33 Y (.agg #[.slice py ny cy]) w4):=⟨HY2.out.below hb34⟩
 have HXK:=Ab hX4;have HK:Aa (Fit 33 KD (.agg #[.slice pk nk ck]) w4):=⟨(Fit.of hk3 lk3).below hb4⟩
 have HG:=Ab (HGA.out.below HB4.out);have HT5:=Ab (HT.out.below HB4.out HT.out.size);have HM5:=Ab (HM.out.below HB4.out);clear hk3 lk3 hb3 hb4 hb34 hX4 HX2 HXF2 HXY2 HY2 c0;go_wp2;clear hw4;refine Am (by kernel_rfl) (by kernel_rfl)
  [some (.pointer (some ⟨b,0,none⟩)),some (.pointer (some ⟨b,0,none⟩)),some (.pointer (some ⟨b,0,none⟩)),none,some (.agg #[.slice pk nk ck]),none,some (.agg #[.slice py ny cy]),some (.slice pm nm cm),none,none,none]
  [false,false,false,true,false,true,false,false,true,true,true] rfl
  (fun wA wB=>KN (w4.heap.size) wA wB)
  (fun D sp w'=>RG (w4.heap.size) w4 [] w'/\Qt (D 9) (D 10) (sp 9) (w4.heap.size) (CC) w')
  (fun i v w'=>match i with
   | 3=>Fit 33 G v w'
   | 5=>Fit 33 (GK) v w'
   | 8=>Fit 33 (CC) v w'
   | _=>True)
  ?_ ⟨RG.start (As _) (fun x hx=>by cases hx),Qt.start (As _)⟩ ?_ ?_
 .intro i v wA wB hf hb;split at hf
  .exact hf.kn hb
  .exact hf.kn hb
  .exact hf.kn hb
  .trivial
 .simp only[Bf,Nat.reduceAdd];refine⟨?_,?_,?_,?_,?_,?_,?_,?_,?_,?_,?_,trivial⟩
  all_goals intro D sp w' hD hW hdp hg
  case refine_4=>
   (with_reducible refine Ac (w1:=w') (f := 26) (args:=#[.pointer (some ⟨b,0,none⟩)]) ?_ ?_ ?_)
   .simp[Region.wanted,yielded,Act.put,go_sem]
   .simp[Act.eval,Act.put,go_sem]
   .refine(Mm (HG.out.below hg.1.keep.bel)).mono ?_;rintro en w9 ⟨u,rfl,hu,hb⟩;exact⟨u,rfl,KN.of hb hg.1.base,hu,hg.1.later hb,by simpa [upd]using hg.2.later hb⟩
  case refine_5=>
   have c0:=(HXK.out.below hg.1.keep.bel HXK.out.lt).cell
   with_reducible refine Ad ?_ ?_
   all_goals simp[Region.wanted,yielded,execOp,Act.eval,Act.put,go_sem,c0]
  case refine_6=>
   have k3:Fit 33 G (sp 3) w':=(hdp 3 (mq (by kernel_rfl))).2
   (with_reducible refine Ac (w1:=w') (f := 25) (args:=#[.pointer (some ⟨b,0,none⟩),sp 3,.agg #[.slice pk nk ck]]) ?_ ?_ ?_)
   .simp[Region.wanted,yielded,Act.put,go_sem]
   .simp[Act.eval,Act.put,go_sem]
   .refine(Jb (HG.out.below hg.1.keep.bel) k3 (HK.out.below hg.1.keep.bel) (by decide) (by decide)).mono ?_;rintro en w9 ⟨u,rfl,hu,hb⟩;rw[HGK.out]at hu
    exact⟨u,rfl,KN.of hb hg.1.base,hu,hg.1.later hb,by simpa [upd]using hg.2.later hb⟩
  case refine_7=>
   have c0:=(HXY.out.below hg.1.keep.bel HXY.out.lt).cell
   with_reducible refine Ad ?_ ?_
   all_goals simp[Region.wanted,yielded,execOp,Act.eval,Act.put,go_sem,c0]
  case refine_9=>
   have k5:Fit 33 (GK) (sp 5) w':=(hdp 5 (mq (by kernel_rfl))).2
   (with_reducible refine Ac (w1:=w') (f := 66) (args:=#[.pointer (some ⟨b,0,none⟩),sp 5,.agg #[.slice py ny cy],.slice pm nm cm]) ?_ ?_ ?_)
   .simp[Region.wanted,yielded,Act.put,go_sem]
   .simp[Act.eval,Act.put,go_sem]
   .refine(Vr (HG.out.below hg.1.keep.bel) (HT5.out.below hg.1.keep.bel HT5.out.size) k5 (HY.out.below hg.1.keep.bel) (by decide) HGKl.out HYl.out HPs.out (HM5.out.below hg.1.keep.bel)).mono ?_;rintro en w9 ⟨u,rfl,hu,hb⟩;rw[HCC.out]at hu
    exact⟨u,rfl,KN.of hb hg.1.base,hu,hg.1.later hb,by simpa [upd]using hg.2.later hb⟩
  case refine_10=>
   have h9:D 10=false:=hW 10 (mq (by kernel_rfl));rw[hD,h9]at hg
   (with_reducible refine Ai (w1:=w'.alloc (.cells #[.slice none 0 0] 37)) (v:=.pointer (some ⟨w'.heap.size,0,none⟩)) ?_ ?_ ?_)
   .simp[Region.wanted,yielded,Act.put,go_sem]
   .simp[execOp,go_sem]
   .have hb:Below w'.heap.size w' (w'.alloc (.cells #[.slice none 0 0] 37)):=Bx;refine⟨KN.of hb hg.1.base,trivial,hg.1.later hb,?_⟩;have h8:=hg.2.made;simpa [upd,h9]using h8
  case refine_11=>
   have hx:∃p n c,sp 8=.agg #[.slice p n c]/\Aj w' p n c (CC)/\CC<Ar (33):=(hdp 8 (mq (by kernel_rfl))).2
   (with_reducible refine Ay hx fun p hx1=>Ay hx1 fun n hx2=>Ay hx2 fun c hx3=>?_)
   have h1:=hx3.1;have h9:D 9=true:=(hdp 9 (mq (by kernel_rfl))).1;rw[h9]at hg
   have hp:=hg.2.put (hx3.2.1)
   (with_reducible refine Ay hp fun b hy0=>Ay hy0 fun q hy1=>Ay hy1 fun m hy2=>Ay hy2 fun k hy3=>?_)
   have h3:=hy3.1;have h6:=hy3.2.2.1.cell;have h7:=hy3.2.2.1.free
   (with_reducible refine Aq (w1:=w'.setCell ⟨b,0,none⟩ (.slice p n c)) ?_ ?_ ?_)
   .simp[Region.wanted,yielded,Act.put,go_sem]
   .simp[execOp,Act.eval,Act.put,go_sem,h1,h3,h6,h7]
   .refine⟨KN.store hy3.2.2.1 (Dn (As _) hy3.2.1) _,trivial,hg.1.store_over hy3.2.2.1 (As _) hy3.2.1 (fun x hx=>by cases hx) _,?_⟩;have h8:=hy3.2.2.2;simpa [upd,h9]using h8
  all_goals ((with_reducible refine Ad ?_ ?_);all_goals first|(simp only[Region.wanted];done)|simp[Region.wanted,yielded,execOp,Act.eval,Act.put,go_sem])
 .intro sp w5 hsp hg;obtain⟨hg1,_,hmk⟩:=hg;obtain⟨b11,e11,hb11,pc,nc,cc,hxc,hnc⟩:=hmk rfl;replace hnc:=hnc rfl;have HXC5:=Ab hxc;have HNC5:=Ab (Fit.of (e:=33) hnc (Nat.lt_trans HCl.out HQl.out));have hbel:=hg1.keep.bel;have HB5:=Ab (Ae HB4.out hbel);have HXK5:=Ab (HXK.out.below hbel HXK.out.lt);have HK5:=Ab (HK.out.below hbel);have HXX5:=Ab (HXX.out.below hbel HXX.out.lt);have HXF5:=Ab (HXF.out.below hbel);clear hsp hg1 hmk hxc hnc hb11 hbel HXY HY HM5 HG HT5;simp only[An,Nat.reduceAdd];rw[e11];clear e11;generalize sp 3=y3,sp 5=y5,sp 8=y8,sp 10=y10 at *
  go_simp
  have c0:=HXX5.out.cell;have c1:=HXC5.out.cell;have c2:=HXK5.out.cell
  go_wp2_with fail
  refine(Yh (HGA.out.below HB5.out) HK5.out HNC5.out HXF5.out (by decide) (by decide) he).mono ?_;rintro en w6 ⟨_,rfl,⟨x,y,rfl,hC,hS⟩,hb6⟩;rw[HMM.out,HSS.out]at hS
  have HCv:=Ab hC;have HSv:=Ab hS;have HB6:=Ab (Ae HB5.out hb6);clear hC hS hb6 HXC5 HNC5 HXK5 HK5 HXX5 HXF5 c0 c1 c2
  go_wp2_with fail
  refine(Xb (Us.of (HGA.out.below HB6.out)) HQs.out HCv.out HSv.out HCl.out HSl.out HQl.out).mono ?_;rintro en w7 ⟨u,rfl,hu,hb7⟩;rw[HSB.out]at hu
  have HO:Aa (Bp 0 SB u w7):=⟨hu.zero⟩
  have HBf:=Ab (Ae HB6.out hb7);clear hu hb7;go_wp2
  go_ret2
  exact⟨_,rfl,HO.out,HBf.out⟩
theorem jQ {w:World}{b P Q G H e X:Nat}{v:Value}{pm:Option Addr}{nm cm:Nat}{msg:List Nat}(hg:Bc w b P Q G H)(_hT:Tabs w)(hv:Fit e X v w)(he:e<=30000)(_hP:Ak P<=16)(_hQ:Ak Q<=16)(_hm:Ax w ⟨pm,nm,cm,msg⟩)(hk:¬(0<X/\X<Q)) :
  Calls Tryz.prog 16 #[.pointer (some ⟨b,0,none⟩),v,.slice pm nm cm] w fun en w'=>en=.returned (.tuple #[.slice none 0 0,.int .i64 1])/\Below w.heap.size w w':=by
 obtain⟨px,nx,cx,rfl,h1,h2⟩:=Aw hv;have hb0:Below w.heap.size w (w.alloc (.cells #[.slice px nx cx] 37)):=Bx;have hX0:=Af.made w (.slice px nx cx);obtain⟨wa,hwa⟩:∃W,w.alloc (.cells #[.slice px nx cx] 37)=W:=⟨_,rfl⟩
 rw[hwa]at hb0 hX0
 have HBL:=Ab hb0;have HPU:=Ab (Ti (hg.below hb0) ((Fit.of h1 h2).below hb0) he hk);have c0:=hX0.cell;clear h1 h2 hg hv hk hX0 hb0;go_enter Tryz.func16,Tryz.ntmps16
 go_wp2_with fail
 refine HPU.out.mono ?_;rintro en w1 ⟨rfl,hb1⟩;have HB1:Aa (Below w.heap.size w (w1.alloc (.cells #[.slice none 0 0] 37))):=⟨Ae HBL.out (Ae hb1 ((Bb _ _).alloc (As _) _))⟩
 clear hb1;go_wp2
 go_ret2
 exact⟨rfl,HB1.out⟩
theorem Dh {w:World}{b P Q G H Y e nm cm ns cs:Nat}{v:Value}{pm ps:Option Addr}{msg sig:List Nat}(hg:Bc w b P Q G H)(hT:Tabs w)(hv:Fit e Y v w)(he:e<=33)(hP:Ak P<=16)(hQ:Ak Q<=16)(hm:Ax w ⟨pm,nm,cm,msg⟩)(hs:Ax w ⟨ps,ns,cs,sig⟩) :
  Calls Tryz.prog 27 #[.pointer (some ⟨b,0,none⟩),v,.slice pm nm cm,.slice ps ns cs] w fun en w'=>∃X,en=.returned (.bool X)/\(X=true ↔ Cv P Q G Y msg sig)/\Below w.heap.size w w':=by
 obtain⟨py,ny,cy,rfl,h1,h2⟩:=Aw (hv.wide he);have hb0:Below w.heap.size w (w.alloc (.cells #[.slice py ny cy] 37)):=Bx;have hX0:=Af.made w (.slice py ny cy);obtain⟨wa,hwa⟩:∃W,w.alloc (.cells #[.slice py ny cy] 37)=W:=⟨_,rfl⟩
 rw[hwa]at hb0 hX0
 have HX0:=Ab hX0;have HBL:=Ab hb0;have HY0:=Ab ((Fit.of h1 h2).below hb0);have HGA:=Ab hg;have HT:=Ab hT;have HM:=Ab hm;have HPs:=Ab hP;have HSG:=Ab (Vp (Us.of (hg.below hb0)) hQ (hs.below hb0));have hlims:=hg.lims;have HL:=Ab hlims;clear h1 h2 hg hv hT hm hP hs hX0 hb0 hlims;go_enter Tryz.func27,Tryz.ntmps27
 go_wp2_with fail
 refine HSG.out.mono ?_;rintro en w1 ⟨x,y,X,rfl,hX,hN,hb1⟩;have hb2:Below w1.heap.size w1 (w1.alloc (.cells #[.slice x.1 x.2.1 x.2.2,.slice y.1 y.2.1 y.2.2] 125)):=Bx;have hS2:=Ey.made w1 (.slice x.1 x.2.1 x.2.2) (.slice y.1 y.2.1 y.2.2);obtain⟨b9,hb9⟩:∃b,w1.heap.size=b:=⟨_,rfl⟩
 obtain⟨w2,hw2⟩:∃W,w1.alloc (.cells #[.slice x.1 x.2.1 x.2.2,.slice y.1 y.2.1 y.2.2] 125)=W:=⟨_,rfl⟩
 rw[hw2]at hb2 hS2
 rw[hb9]at hS2
 have hb12:=Ae hb1 hb2;have HS2:=Ab hS2;have HN2:Aa (Hc Q sig->Gq w2 x (be (sig.take (Ak Q)))/\Gq w2 y (be (sig.drop (Ak Q)))):=⟨fun h=>⟨(hN h).1.below hb2,(hN h).2.below hb2⟩⟩
 have HX2:=Ab (HX0.out.below hb12 HX0.out.lt);have HY2:=Ab (HY0.out.below hb12);have HB2:=Ab (Ae HBL.out hb12);have HXI:=Ab hX;clear hX hN hb1 hb2 hS2 hb12 HX0 HY0 HBL HSG hwa
 cases X with
 | false=>
  have HF:Aa (false=true ↔ Cv P Q G Y msg sig):=⟨⟨(fun h=>by cases h),fun h=>HXI.out.2 h.1⟩⟩
  go_wp2;go_ret;exact⟨false,rfl,HF.out,HB2.out⟩
 | true=>
  have hin:=HXI.out.1 rfl;have HIN:=Ab hin;have hn:=HN2.out hin;have HCN2:=Ab hn.1;have HSN2:=Ab hn.2;have c0:=HX2.out.cell;obtain⟨CC,hCC⟩:∃C,be (sig.take (Ak Q))=C:=⟨_,rfl⟩
  obtain⟨SS,hSS⟩:∃C,be (sig.drop (Ak Q))=C:=⟨_,rfl⟩
  rw[hCC]at HCN2
  rw[hSS]at HSN2
  have HCL:Aa (CC<Ar 33):=⟨by rw[<-hCC];exact Nat.lt_trans hin.2.1 HL.out.2.2.2⟩
  have HSL:Aa (SS<Ar 33):=⟨by rw[<-hSS];exact Nat.lt_trans hin.2.2 HL.out.2.2.2⟩
  have HOK:Aa (Cv P Q G Y msg sig ↔ Qf P Q Y/\Hd P Q (Sx P G Y CC SS) Y msg=CC):=⟨by
   unfold Cv;rw[hCC,hSS];exact⟨fun h=>h.2,fun h=>⟨hin,h⟩⟩⟩
  clear hCC hSS hin hn HN2 HXI
  by_cases hm:0<Y/\Y<P/\Y^Q%P=1
  .have HMT:Aa _:=⟨decide_eq_true hm⟩
   have HYl:=Ab hm.2.1;have HMM:Aa (Qf P Q Y):=⟨hm⟩
   clear hm
   go_wp2_with fail
   refine(Rl (HGA.out.below HB2.out) HY2.out (by decide)).mono ?_;rintro en w3 ⟨rfl,hb3⟩;rw[HMT.out];have HB3:=Ab (Ae HB2.out hb3);have HXY:=Ab (HX2.out.below hb3 HX2.out.lt);have HY:=Ab (HY2.out.below hb3);have HS9:=Ab (HS2.out.below hb3 HS2.out.lt);have HCN:Aa (Gq w3 x CC):=⟨HCN2.out.below hb3⟩
   have HSN:Aa (Gq w3 y SS):=⟨HSN2.out.below hb3⟩
   have HG:=Ab (HGA.out.below HB3.out);obtain⟨AA,hAA⟩:∃A,Sx P G Y CC SS=A:=⟨_,rfl⟩
   have HAE:=Ab hAA;have HAAl:Aa (AA<P):=⟨by rw[<-hAA];exact Nat.mod_lt _ (by have:=HL.out.1;omega)⟩
   have HT7:=Ab (HT.out.below HB3.out HT.out.size);have HM7:=Ab (HM.out.below HB3.out);obtain⟨CH,hCH⟩:∃C,Hd P Q AA Y msg=C:=⟨_,rfl⟩
   obtain⟨KC,hKC⟩:∃K,Bo CH CC=K:=⟨_,rfl⟩
   obtain⟨ANS,hANS⟩:∃A,((KC:Int)==0)=A:=⟨_,rfl⟩
   have hE:=hANS;have HCH:=Ab hCH;have HKc:=Ab hKC;have HF:Aa (ANS=true ↔ Cv P Q G Y msg sig):=⟨by
    rw[HOK.out,hAA,hCH,<-hANS,<-hKC,beq_iff_eq,Ce];exact⟨fun h=>⟨HMM.out,h⟩,fun h=>h.2⟩⟩
   clear hAA hb3 HX2 HY2 HS2 HCN2 HSN2 c0 hCH hKC hANS;go_wp2;clear hw2 hb9;refine Ah (by kernel_rfl) (by kernel_rfl)
    [some (.pointer (some ⟨b,0,none⟩)),some (.agg #[.slice x.1 x.2.1 x.2.2,.slice y.1 y.2.1 y.2.2]),some (.pointer (some ⟨b,0,none⟩)),some (.pointer (some ⟨b,0,none⟩)),none,some (.agg #[.slice py ny cy]),none,some (.agg #[.slice py ny cy]),some (.slice pm nm cm),none,some (.pointer (some ⟨b9,0,none⟩)),some (.agg #[.slice x.1 x.2.1 x.2.2]),none,some (.bool ANS),some (.bool ANS)]
    [false,false,false,false,true,false,true,false,false,true,false,false,true,false,false] rfl
    (fun w1 w2=>Below w1.heap.size w1 w2)
    (fun _ w'=>Below w3.heap.size w3 w')
    (fun i v w'=>match i with
     | 4=>Fit 33 G v w'
     | 6=>Fit 33 (AA) v w'
     | 9=>Fit 33 (CH) v w'
     | 12=>v=.int .i64 KC
     | _=>True)
    ?_ (Bb _ _).drew ?_ ?_
   .intro i v w1 w2 hf hb;split at hf
    .exact hf.below hb
    .exact hf.below hb
    .exact hf.below hb
    .exact hf
    .trivial
   .simp only[Ba,Nat.reduceAdd];refine⟨?_,?_,?_,?_,?_,?_,?_,?_,?_,?_,?_,?_,?_,?_,?_,trivial⟩
    all_goals intro D sp w' hD hW hdp hbx'
    case refine_2=>
     have c0:=(HS9.out.below hbx' HS9.out.lt).cells
     with_reducible refine Ad ?_ ?_
     all_goals simp[Region.wanted,yielded,execOp,Act.eval,Act.put,go_sem,c0.1,c0.2]
    case refine_5=>
     (with_reducible refine Ac (w1:=w') (f := 26) (args:=#[.pointer (some ⟨b,0,none⟩)]) ?_ ?_ ?_)
     .simp[Region.wanted,yielded,Act.put,go_sem]
     .simp[Act.eval,Act.put,go_sem]
     .refine(Mm (HG.out.below hbx')).mono ?_;rintro en w9 ⟨u,rfl,hu,hb⟩;exact⟨u,rfl,hb,hu,Ae hbx' hb⟩
    case refine_6|refine_8=>
     have c0:=(HXY.out.below hbx' HXY.out.lt).cell
     with_reducible refine Ad ?_ ?_
     all_goals simp[Region.wanted,yielded,execOp,Act.eval,Act.put,go_sem,c0]
    case refine_7=>
     have k4:Fit 33 G (sp 4) w':=(hdp 4 (mq (by kernel_rfl))).2
     (with_reducible refine Ac (w1:=w') (f := 86) (args:=#[.agg #[.slice x.1 x.2.1 x.2.2,.slice y.1 y.2.1 y.2.2],.pointer (some ⟨b,0,none⟩),sp 4,.agg #[.slice py ny cy]]) ?_ ?_ ?_)
     .simp[Region.wanted,yielded,Act.put,go_sem]
     .simp[Act.eval,Act.put,go_sem]
     .refine(hJ (HG.out.below hbx') k4 (HY.out.below hbx') (by decide) (by decide) (HCN.out.below hbx') (HSN.out.below hbx') HCL.out HSL.out).mono ?_;rintro en w9 ⟨u,rfl,hu,hb⟩;rw[HAE.out]at hu
      exact⟨u,rfl,hb,hu,Ae hbx' hb⟩
    case refine_10=>
     have k6:Fit 33 (AA) (sp 6) w':=(hdp 6 (mq (by kernel_rfl))).2
     (with_reducible refine Ac (w1:=w') (f := 66) (args:=#[.pointer (some ⟨b,0,none⟩),sp 6,.agg #[.slice py ny cy],.slice pm nm cm]) ?_ ?_ ?_)
     .simp[Region.wanted,yielded,Act.put,go_sem]
     .simp[Act.eval,Act.put,go_sem]
     .refine(Vr (HG.out.below hbx') (HT7.out.below hbx' HT7.out.size) k6 (HY.out.below hbx') (by decide) HAAl.out HYl.out HPs.out (HM7.out.below hbx')).mono ?_;rintro en w9 ⟨u,rfl,hu,hb⟩;rw[HCH.out]at hu
      exact⟨u,rfl,hb,hu,Ae hbx' hb⟩
    case refine_12=>
     have c0:=(HS9.out.below hbx' HS9.out.lt).cells.1
     with_reducible refine Ad ?_ ?_
     all_goals simp[Region.wanted,yielded,execOp,Act.eval,Act.put,go_sem,c0]
    case refine_13=>
     have k9:Fit 33 (CH) (sp 9) w':=(hdp 9 (mq (by kernel_rfl))).2
     (with_reducible refine Ac (w1:=w') (f := 24) (args:=#[sp 9,.agg #[.slice x.1 x.2.1 x.2.2]]) ?_ ?_ ?_)
     .simp[Region.wanted,yielded,Act.put,go_sem]
     .simp[Act.eval,Act.put,go_sem]
     .refine(Bu k9 (Fit.of (HCN.out.below hbx') HCL.out) (by decide) (by decide) HKc.out).mono ?_;rintro en w9 ⟨u,rfl,rfl,hb⟩;exact⟨_,rfl,hb,rfl,Ae hbx' hb⟩
    case refine_14=>
     have k12:(sp 12)=.int .i64 KC:=(hdp 12 (mq (by kernel_rfl))).2
     with_reducible refine Ad ?_ ?_
     all_goals simp[Region.wanted,yielded,execOp,Act.eval,Act.put,go_sem,k12,hE]
    all_goals ((with_reducible refine Ad ?_ ?_);all_goals first|(simp only[Region.wanted];done)|simp[Region.wanted,yielded,execOp,Act.eval,Act.put,go_sem])
   .intro sp w8 hsp hb8;have HBf:=Ab (Ae HB3.out hb8);clear hsp hb8 hE;simp only[An,Nat.reduceAdd];generalize sp 4=y4,sp 6=y6,sp 9=y9,sp 12=y12 at *
    go_simp
    go_wp2;go_ret;exact⟨ANS,rfl,HF.out,HBf.out⟩
  .have HMT:Aa _:=⟨decide_eq_false hm⟩
   have HF:Aa (false=true ↔ Cv P Q G Y msg sig):=⟨⟨(fun h=>by cases h),fun h=>absurd (HOK.out.1 h).1 hm⟩⟩
   clear hm
   go_wp2_with fail
   refine(Rl (HGA.out.below HB2.out) HY2.out (by decide)).mono ?_;rintro en w3 ⟨rfl,hb3⟩;rw[HMT.out];have HB3:=Ab (Ae HB2.out hb3);clear hb3 c0;go_wp2;go_ret;exact⟨false,rfl,HF.out,HB3.out⟩
theorem Ol (i:Nat)(hi:i<3):Ak (gP i)<=16:=by
 rw[Pk i hi]
 match i,hi with
 | 0,_=>decide
 | 1,_=>decide
 | 2,_=>decide
theorem pK:∀i,i<3->gQ i<gP i
 | 0,_=>by decide
 | 1,_=>by decide
 | 2,_=>by decide
 | _+3,h=>by omega
theorem Ql (i:Nat)(hi:i<3):Ak (gQ i)<=16:=Jf.2 (Nat.lt_trans (pK i hi) (Jf.1 (Ol i hi)))
theorem Ty (i:Nat)(hi:i<3):2<=gQ i:=by have:=(Ko i hi).1;omega
theorem dD (i:Nat)(hi:i<3):2<=gP i:=by have:=pK i hi;have:=Ty i hi;omega
theorem Fc (P Q G x:Nat)(msg:List Nat):Au (Lv P Q G x msg):=fun y hy=>by
 unfold Lv at hy;rcases List.mem_append.1 hy with h|h
 .exact(Gf _ _).reverse y h
 .exact(Gf _ _).reverse y h
theorem Bp.part {lo:Nat}{bs:List Nat}{v:Value}{w:World}(h:Bp lo bs v w)(h8:Au bs):∃p c,v=.slice p bs.length c/\Ax w ⟨p,bs.length,c,bs⟩/\(p=none->c=0) :=
 h.elim fun p c hv hr _ hz=>⟨p,c,hv,⟨hr,h8⟩,hz⟩
def cW (w:World):World:=w.alloc (.cells #[.int .u8 109] 5 (1,2))
theorem Tr (w:World):Below w.heap.size w (cW w):=Bx
theorem Wa (w:World):Ax (cW w) ⟨some ⟨w.heap.size,0,none⟩,1,1,[109]⟩:=by
 have h1:(cW w).heap[w.heap.size]? = some (.cells #[.int .u8 109] 5 (1,2)):=by
  unfold cW;rw[heap_alloc_new]
 exact⟨Mf (bs:=[109]) h1 rfl (by decide:1<=9223372036854775807),(by decide:∀x∈[109],x<256)⟩
theorem pR:2*Ak 101=2:=by decide
theorem qU:Cv 607 101 64 (64^7%607) [109] (Lv 607 101 64 7 [109]):=Sv (by decide) (by decide) (Nn 0 (by omega))
theorem Hr (w:World)(hr:Tabs w) :
  Calls Tryz.prog 13 #[] w fun e w'=>e=.returned (.bool true)/\Below w.heap.size w w':=by
 have HG0:=Ab (Fw w 0 hr);have HT:=Ab hr;clear hr;go_enter Tryz.func13,Tryz.ntmps13
 go_wp2_with fail
 refine HG0.out.mono ?_;rintro en w1 ⟨b,rfl,hg,hb1⟩;have hg':Bc w1 b 607 101 64 597:=hg;have HG:=Ab hg';have HB1:=Ab hb1;clear hg hg' hb1 HG0
 go_wp2_with fail
 refine(Co (n:=7) w1 (by omega)).mono ?_;rintro en w2 ⟨x2,rfl,h2,hb2⟩;have hcv:=Joins.run_convert_bytes_const_at (P:=Tryz.prog) w2 23 5 #[.int .u8 109] 1 1 w2.heap.size rfl Tryz.underlying23 Tryz.underlying5;have hbl:=Tr w2;have HP2:=Ab (Wa w2);have HX2:=Ab (h2.below hbl);have HBL:=Ab (Ae hb2 hbl);have HB2:=Ab (Ae HB1.out (Ae hb2 hbl));clear h2 hb2 hbl
 go_wp2_with fail
 refine Mt (w1:=cW w2) (by kernel_rfl) ?_;refine(Nd (HG.out.below HBL.out) (HT.out.below HB2.out HT.out.size) HX2.out (by decide) (Ol 0 (by omega)) (Ql 0 (by omega)) HP2.out (by decide)).mono ?_;rintro en w3 ⟨_,rfl,ho,hb3⟩;obtain⟨ps,cs,rfl,hps,_⟩:=ho.part (Fc _ _ _ _ _);obtain⟨SB,hSB⟩:∃S,Lv 607 101 64 7 [109]=S:=⟨_,rfl⟩
 have hl2:SB.length=2:=by rw[<-hSB,Jo];exact pR
 have HSB:=Ab hSB;rw[hSB,hl2]at hps
 simp only[hSB,hl2];have HPS:=Ab hps;have HG3:=Ab (HG.out.below (Ae HBL.out hb3));have HB3:=Ab (Ae HB2.out hb3);clear ho hps hb3 hcv hSB hl2 HG
 go_wp2_with fail
 refine(Co (n:=7) w3 (by omega)).mono ?_;rintro en w4 ⟨x4,rfl,h4,hb4⟩;have HX4:=Ab h4;have HG4:=Ab (HG3.out.below hb4);have HPS4:=Ab (HPS.out.below hb4);have HB4:=Ab (Ae HB3.out hb4);clear h4 hb4 HG3 HPS
 go_wp2_with fail
 refine(Kl HG4.out HX4.out (by decide) (by decide)).mono ?_;rintro en w5 ⟨_,rfl,⟨py,ny,cy,rfl,hy,ly⟩,hb5⟩;have hb6:Below w5.heap.size w5 (w5.alloc (.cells #[.slice py ny cy] 37)):=Bx;have hX6:=Af.made w5 (.slice py ny cy);obtain⟨w6,hw6⟩:∃W,w5.alloc (.cells #[.slice py ny cy] 37)=W:=⟨_,rfl⟩
 rw[hw6]at hb6 hX6
 have hb56:=Ae hb5 hb6;have HY:=Ab ((Fit.of hy ly).below hb6);have HX6:=Ab hX6;have HG6:=Ab (HG4.out.below hb56);have HPS6:=Ab (HPS4.out.below hb56);have HB6:=Ab (Ae HB4.out hb56);have c6:=hX6.cell;have hcv:=Joins.run_convert_bytes_const_at (P:=Tryz.prog) w6 23 5 #[.int .u8 109] 1 1 w6.heap.size rfl Tryz.underlying23 Tryz.underlying5;have hbl:=Tr w6;have HP7:=Ab (Wa w6);have HBL7:=Ab hbl;have HB7:=Ab (Ae HB6.out hbl);have c7:(cW w6).cell? ⟨w5.heap.size,0,none⟩=some (.slice py ny cy):=(hX6.below hbl hX6.lt).cell;clear hy ly hb5 hb6 hX6 hb56 hbl HG4 HPS4
 go_wp2_with fail
 refine Mt (w1:=cW w6) (by kernel_rfl) ?_;refine(Dh (HG6.out.below HBL7.out) (HT.out.below HB7.out HT.out.size) (HY.out.below HBL7.out) (by decide) (Ol 0 (by omega)) (Ql 0 (by omega)) HP7.out (HPS6.out.below HBL7.out)).mono ?_;rintro en w8 ⟨X,rfl,hX,hb8⟩;have hXt:X=true:=hX.2 (by rw[<-HSB.out];exact qU);subst hXt;have HB8:=Ab (Ae HB7.out hb8);clear hX hb8 hcv c6 c7;go_wp2;go_ret;exact⟨rfl,HB8.out⟩
theorem Sn {w:World}{Y e nm cm ns cs:Nat}{v:Value}{pm ps:Option Addr}{sig:List Nat}(hv:Fit e Y v w)(hs:Ax w ⟨ps,ns,cs,sig⟩) :
  Calls Tryz.prog 27 #[.pointer none,v,.slice pm nm cm,.slice ps ns cs] w fun en w'=>en=.returned (.bool false)/\Below w.heap.size w w':=by
 obtain⟨py,ny,cy,rfl,h1,h2⟩:=Aw hv;have hb0:Below w.heap.size w (w.alloc (.cells #[.slice py ny cy] 37)):=Bx;obtain⟨wa,hwa⟩:∃wa,w.alloc (.cells #[.slice py ny cy] 37)=wa:=⟨_,rfl⟩
 rw[hwa]at hb0
 have HS:=Ab (Vp (Q:=0) (g0:=.pointer none) (.inr ⟨rfl,rfl⟩) (by decide) (hs.below hb0));have HB:=Ab hb0;clear h1 h2 hv hs hb0;go_enter Tryz.func27,Tryz.ntmps27
 go_wp2_with fail
 refine HS.out.mono ?_;rintro en w1 ⟨x,y,X,rfl,hX,_,hb1⟩;have hXf:X=false:=by
  cases X with
  | false=>rfl
  | true=>exact absurd (hX.1 rfl).2.1 (Nat.not_lt_zero _)
 subst hXf;have HB2:Aa (Below w.heap.size w (w1.alloc (.cells #[.slice x.1 x.2.1 x.2.2,.slice y.1 y.2.1 y.2.2] 125))):=⟨Ae HB.out (Ae hb1 ((Bb _ _).alloc (As _) _))⟩
 clear hX hb1 HS;go_wp2;go_ret;exact⟨rfl,HB2.out⟩
end Go.Proofs.YtokhckjemidbpaaGreatDoor
