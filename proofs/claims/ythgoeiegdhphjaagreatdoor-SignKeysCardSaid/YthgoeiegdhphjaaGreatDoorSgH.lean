/- A signature's challenge (sign.challenge). -/
import Derived.Test.YthgoeiegdhphjaaGreatDoorAnsw
set_option maxRecDepth 1000000
set_option maxHeartbeats 16000000
set_option linter.all false
namespace Go.Proofs.YthgoeiegdhphjaaGreatDoor
open Go Go.RowKit Go.Proofs.YthgoeiegdhphjaaGreatDoor.Flow
structure KC (B:Nat) (w w':World):Prop where
 bel:Below B w w'
 cell:∀p v,w.cell? p=some v->w'.cell? p=some v
 shape:∀g s,w.shape? g=some s->w'.shape? g=some s
theorem Tp {w w':World}(h:Below w.heap.size w w'){g:Nat}{s:TypeId×Nat}(hs:w.shape? g=some s):w'.shape? g=some s:=by
 have hg:g<w.heap.size:=by
  rcases Nat.lt_or_ge g w.heap.size with k|k
  .exact k
  .unfold World.shape? at hs;rw[Array.getElem?_eq_none k]at hs
   cases hs
 unfold World.shape? at *;rw[h.block g hg];exact hs
theorem cell_below {w w':World}(h:Below w.heap.size w w'){p:Addr}{v:Value}(hp:w.cell? p=some v):w'.cell? p=some v:=by
 have hg:p.block<w.heap.size:=by
  rcases Nat.lt_or_ge p.block w.heap.size with k|k
  .exact k
  .unfold World.cell? at hp;rw[Array.getElem?_eq_none k]at hp
   cases hp
 rw[h.cell (p:=p) hg];exact hp
theorem Ga (w:World)(a:Addr)(n:Nat)(p:Addr):(w.freeze a n).cell? p=w.cell? p:=by
 unfold World.freeze;split
 .rfl
 .unfold World.cell?;simp only[Array.getElem?_modify]
  by_cases h:a.block=p.block
  .simp only[h,if_true]
   cases w.heap[p.block]? with
   | none=>rfl
   | some o=>cases o<;>rfl
  .simp only[h,if_false]
theorem La (w:World)(a:Addr)(n:Nat)(g:Nat):(w.freeze a n).shape? g=w.shape? g:=by
 unfold World.freeze;split
 .rfl
 .unfold World.shape?;simp only[Array.getElem?_modify]
  by_cases h:a.block=g
  .simp only[h,if_true]
   cases w.heap[g]? with
   | none=>rfl
   | some o=>cases o<;>rfl
  .simp only[h,if_false]
theorem KC.mark {B g:Nat}{w:World}(k:Nat)(hB:B<=g):KC B w (w.freeze ⟨g,k,none⟩ 1) :=
 ⟨⟨rfl,rfl,rfl,by simp[World.freeze],fun j hj=>by
  unfold World.freeze;simp only[Nat.one_ne_zero,if_false,Array.getElem?_modify];rw[if_neg (by omega)]⟩,fun p v h=>by rw[Ga];exact h,fun j s h=>by rw[La];exact h⟩
theorem run_mark {w:World}{g n c k:Nat}(hs:w.shape? g=some (5,k)):(convert 60 60 (.slice (some ⟨g,0,none⟩) n c)).run Tryz.prog w=.ok (.slice (some ⟨g,0,none⟩) n c) (w.freeze ⟨g,k,none⟩ 1):=by
 simp[convert,run_underlying Tryz.underlying60,run_underlying Tryz.underlying5,markStringish,hs]
theorem fO {P Q R S:Part}(h1:P.p=none->P.c=0)(h2:Q.p=none->Q.c=0)(h3:R.p=none->R.c=0)(h4:S.p=none->S.c=0):Xe [P,Q,R,S]:=fun X hX=>by
 simp only[List.mem_cons,List.not_mem_nil,or_false]at hX;rcases hX with rfl|rfl|rfl|rfl
 .exact h1
 .exact h2
 .exact h3
 .exact h4
structure KD (B C:Nat) (w w':World):Prop where
 k:Al B w w'
 cell:∀p v,C<=p.block->w.cell? p=some v->w'.cell? p=some v
 shape:∀g s,C<=g->w.shape? g=some s->w'.shape? g=some s
theorem KD.of {B C:Nat}{w w':World}(h:Below w.heap.size w w')(hB:B<=w.heap.size):KD B C w w':=⟨Al.of h hB,fun _ _ _ hp=>cell_below h hp,fun _ _ _ hs=>Tp h hs⟩
theorem KD.trans {B C:Nat}{w1 w2 w3:World}(h:KD B C w1 w2)(k:KD B C w2 w3):KD B C w1 w3:=⟨h.k.trans k.k,fun p v c x=>k.cell p v c (h.cell p v c x),fun g s c x=>k.shape g s c (h.shape g s c x)⟩
theorem KD.drew (B C:Nat)(w:World):KD B C w w.drew:=⟨Al.drew _ _,fun _ _ _ h=>h,fun _ _ _ h=>h⟩
theorem KD.mark {B C g:Nat}{w:World}(k:Nat)(hB:B<=g):KD B C w (w.freeze ⟨g,k,none⟩ 1) :=
 ⟨⟨(KC.mark (B:=B) k hB).bel,fun _ _ _ _ h=>Eo.stay h (by simp[World.freeze]) fun q _ o=>Ga _ _ _ _⟩,fun p v _ h=>by rw[Ga];exact h,fun j s _ h=>by rw[La];exact h⟩
theorem KD.store {B C b m d:Nat}{q:Option Addr}{w:World}(hb:Ae w b (.slice q m d))(hB:B<=b)(hC:b<C)(v:Value):KD B C w (w.setCell ⟨b,0,none⟩ v) :=
 ⟨Al.store hb hB v,fun p u hp hu=>by
  rw[<-hu];refine World.cell?_of_block (a:=p) ?_;have:b≠p.block:=by omega
  simp[World.setCell,Array.getElem?_modify,this],fun g s hg hs=>by
  rw[<-hs];have:b≠g:=by omega
  simp[World.shape?,World.setCell,Array.getElem?_modify,this]⟩
theorem Fit.kd {e N B C:Nat}{v:Value}{w w':World}(h:Fit e N v w)(k:KD B C w w'):Fit e N v w':=h.keep k.k
structure Ef (B C:Nat) (w:World) (P:Part):Prop where
 ok:Bf w P
 at_:0<P.n->∀q,P.p=some q->C<=q.block ∨ q.block<B
theorem Ef.kd {B C:Nat}{w w':World}{P:Part}(h:Ef B C w P)(k:KD B C w w'):Ef B C w' P:=by
 refine⟨⟨⟨h.ok.row.len,h.ok.row.cap,h.ok.row.max,fun h0=>?_⟩,h.ok.bytes⟩,h.at_⟩;obtain⟨k1,k2,k3,k4⟩:=h.ok.row.row h0;refine⟨k1,k2,k3,?_⟩;rcases k4 with e|⟨b,off,h1,h2,h3⟩
 .exact .inl e
 .refine .inr ⟨b,off,h1,Dm h2 k.k.bel.size,fun i x hx=>?_⟩;rcases h.at_ h0 _ h1 with hc|hb
  .exact k.cell _ _ hc (h3 i x hx)
  .rw[k.k.bel.cell (p:=⟨b,off+i,none⟩) hb];exact h3 i x hx
theorem Ef.old {B C:Nat}{w0 w:World}{P:Part}(h:Bf w0 P)(hB:w0.heap.size<=B)(k:Below w0.heap.size w0 w):Ef B C w P:=by
 refine⟨h.below k,fun h0 q hq=>.inr ?_⟩;rcases(h.row.row h0).at_ with h1|⟨b,off,h1,h2,_⟩
 .have:=h1.2.1;omega
 .rw[h1]at hq
  cases hq;have:b<w0.heap.size:=h2;show b<B;omega
def dP (B C n:Nat)(bs:List Nat)(v:Value)(w:World):Prop:=∃g,v=.slice (some ⟨g,0,none⟩) n n/\Ef B C w ⟨some ⟨g,0,none⟩,n,n,bs⟩
theorem dP.kd {B C n:Nat}{bs:List Nat}{v:Value}{w w':World}(h:dP B C n bs v w)(k:KD B C w w'):dP B C n bs v w':=let ⟨g,h1,h2⟩:=h;⟨g,h1,h2.kd k⟩
def Uy (B C n:Nat)(bs:List Nat)(v:Value)(w:World):Prop:=∃g,v=.slice (some ⟨g,0,none⟩) n n/\w.shape? g=some (5,n)/\Ef B C w ⟨some ⟨g,0,none⟩,n,n,bs⟩/\C<=g/\B<=g
theorem Uy.kd {B C n:Nat}{bs:List Nat}{v:Value}{w w':World}(h:Uy B C n bs v w)(k:KD B C w w'):Uy B C n bs v w':=let ⟨g,h1,h2,h3,h4,h5⟩:=h;⟨g,h1,k.shape _ _ h4 h2,h3.kd k,h4,h5⟩
theorem Uy.made {B C:Nat}(w:World)(bs:List Nat)(hb:∀x∈bs,x<256)(hC:C<=w.heap.size)(hB:B<=w.heap.size)(hl:bs.length<=1000) :
  Uy B C bs.length bs (.slice (some ⟨w.heap.size,0,none⟩) bs.length bs.length) (w.alloc (.cells (bs.map fun(x:Nat)=>Value.int .u8 (x:Int)).toArray 5)):=by
 have h1:(w.alloc (.cells (bs.map fun(x:Nat)=>Value.int .u8 (x:Int)).toArray 5)).heap[w.heap.size]? = some (.cells (bs.map fun(x:Nat)=>Value.int .u8 (x:Int)).toArray 5 (0,0)):=heap_alloc_new w _;exact⟨w.heap.size,rfl,by unfold World.shape?;rw[h1];simp,⟨⟨Mv h1 rfl (Ep hl (by decide)),hb⟩,fun _ q hq=>by cases hq;exact .inl hC⟩,hC,hB⟩
def Xi (B C n:Nat)(Z:Prop)(bss:List (List Nat))(v:Value)(w:World):Prop:=∃(q:Nat) (L:List Part),v=.slice (some ⟨q,0,none⟩) n n/\Cv w (some ⟨q,0,none⟩) n n L/\(∀P∈L,Ef B C w P)/\C<=q/\(Z->Xe L)/\L.map (·.bs)=bss
theorem Xi.kd {B C n:Nat}{Z:Prop}{bss:List (List Nat)}{v:Value}{w w':World}(h:Xi B C n Z bss v w)(k:KD B C w w'):Xi B C n Z bss v w':=by
 obtain⟨q,L,h1,h2,h3,h4,h5,h6⟩:=h;refine⟨q,L,h1,⟨h2.len,h2.cap,h2.max,fun i P hP=>((h3 P (List.mem_of_getElem? hP)).kd k).ok,fun h0=>?_⟩,fun P hP=>(h3 P hP).kd k,h4,h5,h6⟩;obtain⟨b,off,e1,e2,e3⟩:=h2.cells h0;cases e1;exact⟨q,0,rfl,Dm e2 k.k.bel.size,fun i P hP=>k.cell _ _ h4 (e3 i P hP)⟩
theorem Xi.four {B C:Nat}(w:World)(P Q R S:Part)(hP:Ef B C w P)(hQ:Ef B C w Q)(hR:Ef B C w R)(hS:Ef B C w S)(zP:P.p=none->P.c=0)(zQ:Q.p=none->Q.c=0)(zR:R.p=none->R.c=0){Z:Prop}(zS:Z->S.p=none->S.c=0)(hC:C<=w.heap.size)(hB:B<=w.heap.size) :
  Xi B C 4 Z [P.bs,Q.bs,R.bs,S.bs] (.slice (some ⟨w.heap.size,0,none⟩) 4 4) (w.alloc (.cells #[.slice P.p P.n P.c,.slice Q.p Q.n Q.c,.slice R.p R.n R.c,.slice S.p S.n S.c] 60)):=by
 have hb:KD B C w (w.alloc (.cells #[.slice P.p P.n P.c,.slice Q.p Q.n Q.c,.slice R.p R.n R.c,.slice S.p S.n S.c] 60)):=KD.of ((Bc _ _).alloc (Av _) _) hB;refine⟨w.heap.size,[P,Q,R,S],rfl,fY w P Q R S hP.ok hQ.ok hR.ok hS.ok,fun X hX=>?_,hC,fun h=>fO zP zQ zR (zS h),rfl⟩;simp only[List.mem_cons,List.not_mem_nil,or_false]at hX;rcases hX with rfl|rfl|rfl|rfl
 .exact hP.kd hb
 .exact hQ.kd hb
 .exact hR.kd hb
 .exact hS.kd hb
theorem Lr.mark {d:Bool}{b N:Nat}{w:World}(h:Lr d b N w)(g k:Nat)(hg:b≠g):Lr d b N (w.freeze ⟨g,k,none⟩ 1):=by
 obtain⟨p,n,c,h1,h2⟩:=h;refine⟨p,n,c,?_,fun e=>Eo.stay (h2 e) (by simp[World.freeze]) fun q _ o=>Ga _ _ _ _⟩;unfold Ae at *;rw[<-h1];simp[World.freeze,Array.getElem?_modify,hg.symm]
theorem Qm {w:World}{b P Q G H e A Y:Nat}{v u:Value}{pm:Option Addr}{nm cm:Nat}{msg:List Nat}(hg:Ay w b P Q G H)(hT:Tabs w)(hv:Fit e A v w)(hu:Fit e Y u w)(he:e<=30000)(hA:A<P)(hY:Y<P)(hs:As P<=16)(hm:Bf w ⟨pm,nm,cm,msg⟩) :
  Calls Tryz.prog 93 #[.pointer (some ⟨b,0,none⟩),v,u,.slice pm nm cm] w fun en w'=>∃x,en=.returned x/\Fit 33 (Jk P Q A Y msg) x w'/\Below w.heap.size w w':=by
 obtain⟨pa,na,ca,rfl,h1,h2⟩:=Aq hv;obtain⟨py,ny,cy,rfl,k1,k2⟩:=Aq hu;have hbx:=Ta.mk3 w (.slice pa na ca) (.slice py ny cy) (.slice none 0 0);have hsz3:(((w.alloc (.cells #[.slice pa na ca] 36)).alloc (.cells #[.slice py ny cy] 36)).alloc (.cells #[.slice none 0 0] 36)).heap.size=w.heap.size+1+1+1:=by simp
 obtain⟨wa,hwa⟩:∃wa,((w.alloc (.cells #[.slice pa na ca] 36)).alloc (.cells #[.slice py ny cy] 36)).alloc (.cells #[.slice none 0 0] 36)=wa:=⟨_,rfl⟩
 rw[hwa]at hbx hsz3
 have HBL:=Aa hbx.bel;have HX0:=Aa hbx.b0;have HX1:=Aa hbx.b1;have HZ0:=Aa hbx.b2;have HA:=Aa ((Fit.of h1 h2).below hbx.bel);have HY:=Aa ((Fit.of k1 k2).below hbx.bel);have HG:Ad (∀w',Al (w.heap.size+1+1) wa w'->Ay w' b P Q G H):=⟨fun w' k=>(Ho.of hg (Av _) HBL.out).keep ⟨k.bel.mono (by omega),k.nat⟩⟩
 have HT:=Aa hT;have HM:Ad (Ef (w.heap.size+1+1) (w.heap.size+1+1+1) wa ⟨pm,nm,cm,msg⟩):=⟨Ef.old hm (by omega) hbx.bel⟩
 have HSB:Ad (∀ {w':World},KD (w.heap.size+1+1) (w.heap.size+1+1+1) wa w'->w.heap.size+1+1<=w'.heap.size):=⟨fun hk=>by have:=hk.k.bel.size;omega⟩
 have HSC:Ad (∀ {w':World},KD (w.heap.size+1+1) (w.heap.size+1+1+1) wa w'->w.heap.size+1+1+1<=w'.heap.size):=⟨fun hk=>by have:=hk.k.bel.size;omega⟩
 have HCH0:Ad (∀sz,As P=sz->be (Pu (El [Ji,Bl A sz,Bl Y sz,msg]))%Q=Jk P Q A Y msg):=⟨fun sz h=>by subst h;rfl⟩
 obtain⟨CH,hCH⟩:∃C,Jk P Q A Y msg=C:=⟨_,rfl⟩
 rw[hCH]at HCH0 ⊢
 obtain⟨sz,hsz⟩:∃s,As P=s:=⟨_,rfl⟩
 have HCH:=Aa (HCH0.out sz hsz);rw[hsz]at hs
 have HSZ:=Aa hsz;have HSs:=Aa hs;have HAP:=Aa hA;have HYP:=Aa hY;have HQl:Ad (CH<Ao 33):=⟨by rw[<-hCH];exact Nat.lt_trans (Og (by have:=hg.lims.2.2.1;omega)) hg.lims.2.2.2⟩
 clear h1 h2 k1 k2 hbx hg hv hu hT hm hCH hsz hA hY HCH0;go_enter Tryz.func93,Tryz.ntmps93;go_wp2;refine Ak (by kernel_rfl) (by kernel_rfl)
  [some (.pointer (some ⟨b,0,none⟩)),none,none,some (.pointer (some ⟨b,0,none⟩)),some (.agg #[.slice pa na ca]),none,some (.pointer (some ⟨b,0,none⟩)),some (.agg #[.slice py ny cy]),none,some (.slice pm nm cm),none,none,none]
  [false,true,true,false,false,true,false,false,true,false,true,true,true] rfl
  (fun w1 w2=>KD (w.heap.size+1+1) (w.heap.size+1+1+1) w1 w2)
  (fun D w'=>KD (w.heap.size+1+1) (w.heap.size+1+1+1) wa w'/\Lr (D 12) (w.heap.size+1+1) CH w')
  (fun i v w'=>match i with
   | 1=>Uy (w.heap.size+1+1) (w.heap.size+1+1+1) 4 Ji v w'
   | 2=>Uy (w.heap.size+1+1) (w.heap.size+1+1+1) 4 Ji v w'
   | 5=>dP (w.heap.size+1+1) (w.heap.size+1+1+1) sz (Bl A sz) v w'
   | 8=>dP (w.heap.size+1+1) (w.heap.size+1+1+1) sz (Bl Y sz) v w'
   | 10=>Xi (w.heap.size+1+1) (w.heap.size+1+1+1) 4 (pm=none->cm=0) [Ji,Bl A sz,Bl Y sz,msg] v w'
   | 11=>Fit 33 CH v w'
   | 12=>True
   | _=>True)
  ?_ ⟨KD.drew _ _ _,Lr.fresh HZ0.out⟩ ?_ ?_
 .intro i v w1 w2 hf hb;split at hf
  .exact hf.kd hb
  .exact hf.kd hb
  .exact hf.kd hb
  .exact hf.kd hb
  .exact hf.kd hb
  .exact hf.kd hb
  .exact hf
  .trivial
 .simp only[Bb,Nat.reduceAdd];refine⟨?_,?_,?_,?_,?_,?_,?_,?_,?_,?_,?_,?_,?_,trivial⟩
  all_goals intro D sp w' hD hW hdp hbx'
  case refine_2=>
   (with_reducible refine Ai (w1:=w'.alloc (.cells #[.int .u8 115,.int .u8 105,.int .u8 103,.int .u8 110] 5)) (v:=.slice (some ⟨w'.heap.size,0,none⟩) 4 4) ?_ ?_ ?_)
   .simp only[Region.wanted]
   .simp[execOp,Act.eval,go_sem]
   .have hb:Below w'.heap.size w' (w'.alloc (.cells #[.int .u8 115,.int .u8 105,.int .u8 103,.int .u8 110] 5)):=Cf;exact⟨KD.of hb (HSB.out hbx'.1),Uy.made w' Ji (by decide) (HSC.out hbx'.1) (HSB.out hbx'.1) (by decide),⟨hbx'.1.trans (KD.of hb (HSB.out hbx'.1)),by simpa [upd]using hbx'.2.later hb⟩⟩
  case refine_3=>
   have hx1:∃g,sp 1=.slice (some ⟨g,0,none⟩) 4 4/\w'.shape? g=some (5,4)/\Ef (w.heap.size+1+1) (w.heap.size+1+1+1) w' ⟨some ⟨g,0,none⟩,4,4,Ji⟩/\(w.heap.size+1+1+1)<=g/\(w.heap.size+1+1)<=g:=(hdp 1 (mq (by kernel_rfl))).2
   (with_reducible refine Au hx1 fun g e10=>?_)
   have h1:=e10.1;have h7:=run_mark (w:=w') (n:=4) (c:=4) e10.2.1
   (with_reducible refine Ai (w1:=w'.freeze ⟨g,4,none⟩ 1) (v:=.slice (some ⟨g,0,none⟩) 4 4) ?_ ?_ ?_)
   .simp only[Region.wanted]
   .simp[execOp,Act.eval,Act.put,go_sem,h1,h7]
   .have hkc:=KD.mark (w:=w') (g:=g) (B:=(w.heap.size+1+1)) (C:=(w.heap.size+1+1+1)) 4 e10.2.2.2.2;exact⟨hkc,⟨g,rfl,hkc.shape _ _ e10.2.2.2.1 e10.2.1,e10.2.2.1.kd hkc,e10.2.2.2⟩,⟨hbx'.1.trans hkc,by simpa [upd]using Lr.mark hbx'.2 _ _ (by have:=e10.2.2.2.1;omega)⟩⟩
  case refine_5=>
   have c0:=(HX0.out.below hbx'.1.k.bel (by omega)).cell
   with_reducible refine Ac ?_ ?_
   all_goals simp[Region.wanted,yielded,execOp,Act.eval,Act.put,go_sem,c0]
  case refine_6=>
   (with_reducible refine Ab (w1:=w') (f := 148) (args:=#[.pointer (some ⟨b,0,none⟩),.agg #[.slice pa na ca]]) ?_ ?_ ?_)
   .simp[Region.wanted,yielded,Act.put,go_sem]
   .simp[Act.eval,Act.put,go_sem]
   .refine(Ov (HG.out w' hbx'.1.k) (HA.out.keep hbx'.1.k) he HAP.out HSZ.out HSs.out).mono ?_;rintro en w9 ⟨g9,rfl,hg9,hu,hb⟩;exact⟨_,rfl,KD.of hb (HSB.out hbx'.1),⟨g9,rfl,⟨Lh hu (by omega),fun _ q hq=>by cases hq;exact .inl (Ep (HSC.out hbx'.1) hg9)⟩⟩,⟨hbx'.1.trans (KD.of hb (HSB.out hbx'.1)),by simpa [upd]using hbx'.2.later hb⟩⟩
  case refine_8=>
   have c0:=(HX1.out.below hbx'.1.k.bel (by omega)).cell
   with_reducible refine Ac ?_ ?_
   all_goals simp[Region.wanted,yielded,execOp,Act.eval,Act.put,go_sem,c0]
  case refine_9=>
   (with_reducible refine Ab (w1:=w') (f := 148) (args:=#[.pointer (some ⟨b,0,none⟩),.agg #[.slice py ny cy]]) ?_ ?_ ?_)
   .simp[Region.wanted,yielded,Act.put,go_sem]
   .simp[Act.eval,Act.put,go_sem]
   .refine(Ov (HG.out w' hbx'.1.k) (HY.out.keep hbx'.1.k) he HYP.out HSZ.out HSs.out).mono ?_;rintro en w9 ⟨g9,rfl,hg9,hu,hb⟩;exact⟨_,rfl,KD.of hb (HSB.out hbx'.1),⟨g9,rfl,⟨Lh hu (by omega),fun _ q hq=>by cases hq;exact .inl (Ep (HSC.out hbx'.1) hg9)⟩⟩,⟨hbx'.1.trans (KD.of hb (HSB.out hbx'.1)),by simpa [upd]using hbx'.2.later hb⟩⟩
  case refine_11=>
   have hx2:∃g,sp 2=.slice (some ⟨g,0,none⟩) 4 4/\w'.shape? g=some (5,4)/\Ef (w.heap.size+1+1) (w.heap.size+1+1+1) w' ⟨some ⟨g,0,none⟩,4,4,Ji⟩/\(w.heap.size+1+1+1)<=g/\(w.heap.size+1+1)<=g:=(hdp 2 (mq (by kernel_rfl))).2
   (with_reducible refine Au hx2 fun g e20=>?_)
   have hx5:∃g,sp 5=.slice (some ⟨g,0,none⟩) sz sz/\Ef (w.heap.size+1+1) (w.heap.size+1+1+1) w' ⟨some ⟨g,0,none⟩,sz,sz,Bl A sz⟩:=(hdp 5 (mq (by kernel_rfl))).2
   (with_reducible refine Au hx5 fun ga e50=>?_)
   have hx8:∃g,sp 8=.slice (some ⟨g,0,none⟩) sz sz/\Ef (w.heap.size+1+1) (w.heap.size+1+1+1) w' ⟨some ⟨g,0,none⟩,sz,sz,Bl Y sz⟩:=(hdp 8 (mq (by kernel_rfl))).2
   (with_reducible refine Au hx8 fun gy e80=>?_)
   have ea:=e20.1;have eb:=e50.1;have ec:=e80.1
   (with_reducible refine Ai (w1:=w'.alloc (.cells #[.slice (some ⟨g,0,none⟩) 4 4,.slice (some ⟨ga,0,none⟩) sz sz,.slice (some ⟨gy,0,none⟩) sz sz,.slice pm nm cm] 60)) (v:=.slice (some ⟨w'.heap.size,0,none⟩) 4 4) ?_ ?_ ?_)
   .simp only[Region.wanted]
   .simp[execOp,Act.eval,Act.put,go_sem,ea,eb,ec]
   .have hb:Below w'.heap.size w' (w'.alloc (.cells #[.slice (some ⟨g,0,none⟩) 4 4,.slice (some ⟨ga,0,none⟩) sz sz,.slice (some ⟨gy,0,none⟩) sz sz,.slice pm nm cm] 60)):=Cf;exact⟨KD.of hb (HSB.out hbx'.1),Xi.four w' ⟨some ⟨g,0,none⟩,4,4,Ji⟩ ⟨some ⟨ga,0,none⟩,sz,sz,Bl A sz⟩ ⟨some ⟨gy,0,none⟩,sz,sz,Bl Y sz⟩ ⟨pm,nm,cm,msg⟩ e20.2.2.1 e50.2 e80.2 (HM.out.kd hbx'.1) (fun h=>by cases h) (fun h=>by cases h) (fun h=>by cases h) (fun h=>h) (HSC.out hbx'.1) (HSB.out hbx'.1),⟨hbx'.1.trans (KD.of hb (HSB.out hbx'.1)),by simpa [upd]using hbx'.2.later hb⟩⟩
  case refine_12=>
   have hx10:∃(q:Nat) (L:List Part),sp 10=.slice (some ⟨q,0,none⟩) 4 4/\Cv w' (some ⟨q,0,none⟩) 4 4 L/\(∀P∈L,Ef (w.heap.size+1+1) (w.heap.size+1+1+1) w' P)/\(w.heap.size+1+1+1)<=q/\((pm=none->cm=0)->Xe L)/\L.map (·.bs)=[Ji,Bl A sz,Bl Y sz,msg]:=(hdp 10 (mq (by kernel_rfl))).2
   (with_reducible refine Au hx10 fun q e100=>Au e100 fun L e101=>?_)
   have h1:=e101.1
   (with_reducible refine Ab (w1:=w') (f := 147) (args:=#[.pointer (some ⟨b,0,none⟩),.slice (some ⟨q,0,none⟩) 4 4]) ?_ ?_ ?_)
   .simp only[Region.wanted]
   .simp[Act.eval,Act.put,go_sem,h1]
   .refine(cU (HG.out w' hbx'.1.k) (HT.out.below (HBL.out.trans (hbx'.1.k.bel.mono (by omega))) HT.out.size) e101.2.1).mono ?_;rintro en w9 ⟨u,rfl,hu,hb⟩;rw[e101.2.2.2.2.2,HCH.out]at hu
    exact⟨u,rfl,KD.of hb (HSB.out hbx'.1),hu,⟨hbx'.1.trans (KD.of hb (HSB.out hbx'.1)),by simpa [upd]using hbx'.2.later hb⟩⟩
  case refine_13=>
   have hx:∃p n c,sp 11=.agg #[.slice p n c]/\Ag w' p n c (CH)/\CH<Ao (33):=(hdp 11 (mq (by kernel_rfl))).2
   (with_reducible refine Au hx fun p hx1=>Au hx1 fun n hx2=>Au hx2 fun c hx3=>?_)
   have h1:=hx3.1;have hp:=hbx'.2.put (hx3.2.1)
   (with_reducible refine Au hp fun q hy1=>Au hy1 fun m hy2=>Au hy2 fun k hy3=>?_)
   have h6:=hy3.1.cell;have h7:=hy3.1.free
   (with_reducible refine An (w1:=w'.setCell ⟨w.heap.size+1+1,0,none⟩ (.slice p n c)) ?_ ?_ ?_)
   .simp only[Region.wanted]
   .simp[execOp,Act.eval,Act.put,go_sem,h1,h6,h7]
   .have hkd:KD (w.heap.size+1+1) (w.heap.size+1+1+1) w' (w'.setCell ⟨w.heap.size+1+1,0,none⟩ (.slice p n c)):=KD.store hy3.1 (Av _) (Nat.lt_succ_self _) _;exact⟨hkd,trivial,⟨hbx'.1.trans hkd,by have h8:=hy3.2;simpa [upd]using h8⟩⟩
  all_goals ((with_reducible refine Ac ?_ ?_);all_goals first|(simp only[Region.wanted];done)|simp[Region.wanted,yielded,execOp,Act.eval,Act.put,go_sem])
 .intro sp w8 hsp hk;obtain⟨hk1,pz,nz,cz,hz1,hz2⟩:=hk;have kz:=hz1.cell;have HZ:=Aa (hz2 rfl);have HB7:Ad (Below w.heap.size w w8):=⟨HBL.out.trans (hk1.k.bel.mono (by omega))⟩
  clear hsp hk1 hz1 hz2;simp only[Am,Nat.reduceAdd];generalize sp 1=y1,sp 2=y2,sp 5=y5,sp 8=y8,sp 10=y10,sp 11=y11,sp 12=y12 at *
  go_simp
  go_wp2;exact bodyPost_ret (v:=.agg #[.slice pz nz cz]) (by simp[results,Tryz.results93,go_sem,kz]) rfl ⟨_,rfl,Fit.of HZ.out HQl.out,HB7.out⟩
end Go.Proofs.YthgoeiegdhphjaaGreatDoor
