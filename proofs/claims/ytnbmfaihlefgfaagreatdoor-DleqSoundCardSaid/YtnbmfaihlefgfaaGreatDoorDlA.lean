/- Proofs that two powers have one exponent: copied, areMembers, drawnOf, a claim's challenge. -/
import Derived.Laws.OwnMore
import Derived.Test.YtnbmfaihlefgfaaGreatDoorDlR
set_option maxRecDepth 1000000
set_option maxHeartbeats 16000000
set_option linter.all false
namespace Go.Proofs.YtnbmfaihlefgfaaGreatDoor
open Go Go.RowKit Go.Proofs.YtnbmfaihlefgfaaGreatDoor.Flow
structure KD (B C:Nat) (w w':World):Prop where
 k:Ao B w w'
 cell:∀p v,C<=p.block->w.cell? p=some v->w'.cell? p=some v
 shape:∀g s,C<=g->w.shape? g=some s->w'.shape? g=some s
theorem KD.of {B C:Nat}{w w':World}(h:Below w.heap.size w w')(hB:B<=w.heap.size):KD B C w w':=⟨Ao.of h hB,fun _ _ _ hp=>cell_below h hp,fun _ _ _ hs=>Qh h hs⟩
theorem KD.same (B C:Nat)(w:World):KD B C w w:=⟨Ao.same _ _,fun _ _ _ h=>h,fun _ _ _ h=>h⟩
theorem KD.trans {B C:Nat}{w1 w2 w3:World}(h:KD B C w1 w2)(k:KD B C w2 w3):KD B C w1 w3:=⟨h.k.trans k.k,fun p v c x=>k.cell p v c (h.cell p v c x),fun g s c x=>k.shape g s c (h.shape g s c x)⟩
theorem KD.drew (B C:Nat)(w:World):KD B C w w.drew:=⟨Ao.drew _ _,fun _ _ _ h=>h,fun _ _ _ h=>h⟩
theorem KD.mark {B C g:Nat}{w:World}(k:Nat)(hB:B<=g):KD B C w (w.freeze ⟨g,k,none⟩ 1) :=
 ⟨⟨(KC.mark (B:=B) k hB).bel,fun _ _ _ _ h=>Hp.stay h (by simp[World.freeze]) fun q _ o=>Lm _ _ _ _⟩,fun p v _ h=>by rw[Lm];exact h,fun j s _ h=>by rw[On];exact h⟩
structure Ft (B C:Nat) (w:World) (P:Part):Prop where
 ok:Au w P
 at_:0<P.n->∀q,P.p=some q->C<=q.block ∨ q.block<B
theorem Ft.kd {B C:Nat}{w w':World}{P:Part}(h:Ft B C w P)(k:KD B C w w'):Ft B C w' P:=by
 refine⟨⟨⟨h.ok.row.len,h.ok.row.cap,h.ok.row.max,fun h0=>?_⟩,h.ok.bytes⟩,h.at_⟩;obtain⟨k1,k2,k3,k4⟩:=h.ok.row.row h0;refine⟨k1,k2,k3,?_⟩;rcases k4 with e|⟨b,off,h1,h2,h3⟩
 .exact .inl e
 .refine .inr ⟨b,off,h1,De h2 k.k.bel.size,fun i x hx=>?_⟩;rcases h.at_ h0 _ h1 with hc|hb
  .exact k.cell _ _ hc (h3 i x hx)
  .rw[k.k.bel.cell (p:=⟨b,off+i,none⟩) hb];exact h3 i x hx
theorem Ft.old {B C:Nat}{w0 w:World}{P:Part}(h:Au w0 P)(hB:w0.heap.size<=B)(k:Below w0.heap.size w0 w):Ft B C w P:=by
 refine⟨h.below k,fun h0 q hq=>.inr ?_⟩;rcases(h.row.row h0).at_ with h1|⟨b,off,h1,h2,_⟩
 .have:=h1.2.1;omega
 .rw[h1]at hq
  cases hq;have:b<w0.heap.size:=h2;show b<B;omega
def mX (B C n:Nat)(bs:List Nat)(v:Value)(w:World):Prop:=∃g,v=.slice (some ⟨g,0,none⟩) n n/\Ft B C w ⟨some ⟨g,0,none⟩,n,n,bs⟩
theorem mX.kd {B C n:Nat}{bs:List Nat}{v:Value}{w w':World}(h:mX B C n bs v w)(k:KD B C w w'):mX B C n bs v w':=let ⟨g,h1,h2⟩:=h;⟨g,h1,h2.kd k⟩
def aR (B C n:Nat)(bs:List Nat)(v:Value)(w:World):Prop:=∃g,v=.slice (some ⟨g,0,none⟩) n n/\w.shape? g=some (5,n)/\Ft B C w ⟨some ⟨g,0,none⟩,n,n,bs⟩/\C<=g/\B<=g
theorem aR.kd {B C n:Nat}{bs:List Nat}{v:Value}{w w':World}(h:aR B C n bs v w)(k:KD B C w w'):aR B C n bs v w':=let ⟨g,h1,h2,h3,h4,h5⟩:=h;⟨g,h1,k.shape _ _ h4 h2,h3.kd k,h4,h5⟩
theorem aR.made {B C:Nat}(w:World)(bs:List Nat)(hb:∀x∈bs,x<256)(hC:C<=w.heap.size)(hB:B<=w.heap.size)(hl:bs.length<=1000) :
  aR B C bs.length bs (.slice (some ⟨w.heap.size,0,none⟩) bs.length bs.length) (w.alloc (.cells (bs.map fun(x:Nat)=>Value.int .u8 (x:Int)).toArray 5)):=by
 have h1:(w.alloc (.cells (bs.map fun(x:Nat)=>Value.int .u8 (x:Int)).toArray 5)).heap[w.heap.size]? = some (.cells (bs.map fun(x:Nat)=>Value.int .u8 (x:Int)).toArray 5 (0,0)):=heap_alloc_new w _;exact⟨w.heap.size,rfl,by unfold World.shape?;rw[h1];simp,⟨⟨Ik h1 rfl (Ec hl (by decide)),hb⟩,fun _ q hq=>by cases hq;exact .inl hC⟩,hC,hB⟩
def dJ (B C n:Nat)(Z:Prop)(bss:List (List Nat))(v:Value)(w:World):Prop:=∃(q:Nat) (L:List Part),v=.slice (some ⟨q,0,none⟩) n n/\Bv w (some ⟨q,0,none⟩) n n L/\(∀P∈L,Ft B C w P)/\C<=q/\(Z->Iy L)/\L.map (·.bs)=bss
theorem dJ.kd {B C n:Nat}{Z:Prop}{bss:List (List Nat)}{v:Value}{w w':World}(h:dJ B C n Z bss v w)(k:KD B C w w'):dJ B C n Z bss v w':=by
 obtain⟨q,L,h1,h2,h3,h4,h5,h6⟩:=h;refine⟨q,L,h1,⟨h2.len,h2.cap,h2.max,fun i P hP=>((h3 P (List.mem_of_getElem? hP)).kd k).ok,fun h0=>?_⟩,fun P hP=>(h3 P hP).kd k,h4,h5,h6⟩;obtain⟨b,off,e1,e2,e3⟩:=h2.cells h0;cases e1;exact⟨q,0,rfl,De e2 k.k.bel.size,fun i P hP=>k.cell _ _ h4 (e3 i P hP)⟩
theorem dJ.four {B C:Nat}(w:World)(P Q R S:Part)(hP:Ft B C w P)(hQ:Ft B C w Q)(hR:Ft B C w R)(hS:Ft B C w S)(zP:P.p=none->P.c=0)(zQ:Q.p=none->Q.c=0)(zR:R.p=none->R.c=0){Z:Prop}(zS:Z->S.p=none->S.c=0)(hC:C<=w.heap.size)(hB:B<=w.heap.size) :
  dJ B C 4 Z [P.bs,Q.bs,R.bs,S.bs] (.slice (some ⟨w.heap.size,0,none⟩) 4 4) (w.alloc (.cells #[.slice P.p P.n P.c,.slice Q.p Q.n Q.c,.slice R.p R.n R.c,.slice S.p S.n S.c] 60)):=by
 have hb:KD B C w (w.alloc (.cells #[.slice P.p P.n P.c,.slice Q.p Q.n Q.c,.slice R.p R.n R.c,.slice S.p S.n S.c] 60)):=KD.of ((Bd _ _).alloc (As _) _) hB;refine⟨w.heap.size,[P,Q,R,S],rfl,pV w P Q R S hP.ok hQ.ok hR.ok hS.ok,fun X hX=>?_,hC,fun h=>pL zP zQ zR (zS h),rfl⟩;simp only[List.mem_cons,List.not_mem_nil,or_false]at hX;rcases hX with rfl|rfl|rfl|rfl
 .exact hP.kd hb
 .exact hQ.kd hb
 .exact hR.kd hb
 .exact hS.kd hb
open Go Go.RowKit
theorem Tryz.info_Bs:(Tryz.prog.info? 60).map (fun i=>(i.zero,i.size,i.bytes))=some (some (.slice none 0 0),1,24):=by kernel_rfl
structure Gg (w:World) (B:Nat) (v:Value) (L:List Part):Prop where
 own:w.ownsRow B 60 1 v L.length (L.map fun P=>.slice P.p P.n P.c)
 ok:∀P∈L,Au w P
 off:∀P∈L,0<P.n->∀q,P.p=some q->v.ownBlock≠some q.block
theorem Gg.below {w w':World}{B:Nat}{v:Value}{L:List Part}(h:Gg w B v L)(hb:Below w.heap.size w w'):Gg w' B v L :=
 ⟨Oc h.own fun g hg=>hb.block g (Eb h.own g hg).2,fun P hP=>(h.ok P hP).below hb,h.off⟩
theorem Au.lt {w:World}{P:Part}(h:Au w P)(h0:0<P.n):∀q,P.p=some q->q.block<w.heap.size:=fun q hq=>by
 rcases(h.row.row h0).at_ with h1|⟨b,off,h1,h2,_⟩
 .have:=h1.2.1;omega
 .rw[h1]at hq
  cases hq;exact h2
theorem Gg.one {w:World}{B:Nat}{P:Part}(hB:B<=w.heap.size)(hP:Au w P) :
  Gg (w.alloc (.cells #[.slice P.p P.n P.c] 60)) B (.slice (some ⟨w.heap.size,0,none⟩) 1 1) [P]:=by
 have hb:Below w.heap.size w (w.alloc (.cells #[.slice P.p P.n P.c] 60)):=By;refine⟨World.ownsRow_lit (size:=1) w #[.slice P.p P.n P.c] 1 hB (by decide) rfl,fun Q hQ=>?_,fun Q hQ h0 q hq e=>?_⟩
 .rw[List.mem_singleton.1 hQ];exact hP.below hb
 .rw[List.mem_singleton.1 hQ]at hq h0
  have h1:=hP.lt h0 q hq;have h2:w.heap.size=q.block:=by simpa [Value.ownBlock]using e
  omega
theorem Au.grown {w w':World}{P:Part}{r:Option Nat}(h:Au w P)(hg:w.grownBy w' r)(hn:0<P.n->∀q,P.p=some q->r≠some q.block):Au w' P:=by
 refine⟨⟨h.row.len,h.row.cap,h.row.max,fun h0=>?_⟩,h.bytes⟩;obtain⟨k1,k2,k3,k4⟩:=h.row.row h0;refine⟨k1,k2,k3,?_⟩;rcases k4 with k|⟨b,off,h1,h2,h3⟩
 .exact .inl k
 .refine .inr ⟨b,off,h1,De h2 hg.size,fun i x hx=>?_⟩;rw[World.cell?_of_block (a:=⟨b,off+i,none⟩) (hg.block b h2 fun e=>hn h0 _ h1 e.symm)];exact h3 i x hx
theorem Gg.app {w:World}{B:Nat}{v:Value}{L:List Part}(h:Gg w B v L)(hB:B<=w.heap.size){P:Part}{a:Addr}{c:Nat}(hc:w.cell? a=some (.slice P.p P.n P.c))(hP:Au w P)(hn:0<P.n->∀q,P.p=some q->v.ownBlock≠some q.block)(hl:L.length<=1000000)(ty:TypeId) :
  ∃v' w',(Builtin.append_ #[216, 216] ty #[v,.slice (some a) 1 c]).run Tryz.prog w=.ok v' w'/\Gg w' B v' (L++[P])/\w.grownBy w' v.ownBlock/\dI w v v':=by
 obtain⟨i,hi,hz,hs,hb⟩:=info_parts Tryz.info_Bs;have ha0:a.add 0=a:=by obtain⟨b,o,s⟩:=a;simp[Addr.add]
 obtain⟨v',w',k1,k2,k3,k4⟩:=Yp Tryz.underlying216 hi hz hs hb rfl (by decide) h.own (a:=a) (m:=1) (c:=c) (news:=[.slice P.p P.n P.c]) rfl
  (fun j u hj=>by
   cases j with
   | zero=>simp at hj;subst hj;rw[ha0];exact hc
   | succ j=>simp at hj)
  (fun u hj=>by simp at hj;subst hj;rfl) (by simp only[maxLen];omega) (Ec (Nat.mul_le_mul (Nat.add_le_add_right hl 1) (show (24:Nat)<=24 by decide)) (by decide)) hB ty
 refine⟨v',w',k1,⟨by rw[List.length_append,List.map_append];exact k2,fun Q hQ=>?_,fun Q hQ h0 q hq e=>?_⟩,k3,k4⟩
 .rcases List.mem_append.1 hQ with hm|hm
  .exact(h.ok Q hm).grown k3 (h.off Q hm)
  .rw[List.mem_singleton.1 hm];exact hP.grown k3 hn
 .have h1:v.ownBlock≠some q.block/\q.block<w.heap.size:=by
   rcases List.mem_append.1 hQ with hm|hm
   .exact⟨h.off Q hm h0 q hq,(h.ok Q hm).lt h0 q hq⟩
   .rw[List.mem_singleton.1 hm]at hq h0
    exact⟨hn h0 q hq,hP.lt h0 q hq⟩
  rcases k4 with k5|k5
  .rw[k5]at e;exact h1.1 e
  .have:=k5 _ e;omega
theorem Gg.in_ {w:World}{B:Nat}{v:Value}{L:List Part}(h:Gg w B v L):∃p c,v=.slice p L.length c/\Bv w p L.length c L:=by
 rcases h.own.2 with ⟨e,hn⟩|⟨g,cap,cur,rfl,hbg,hg,hnc,hcm,hcs,ht⟩
 .have hL:L=[]:=List.eq_nil_of_length_eq_zero hn;subst hL;exact⟨none,0,e,Bv.none w none⟩
 .refine⟨_,_,rfl,⟨rfl,hnc,by simpa [maxLen]using hcm,fun i P hP=>h.ok P (List.mem_of_getElem? hP),fun _=>⟨g,0,rfl,(Gn hg).1,fun i P hP=>?_⟩⟩⟩;have:=h.own.cells (g:=g) rfl i (.slice P.p P.n P.c) (by rw[List.getElem?_map,hP];rfl);rw[add_plain g 0 i]at this
  exact this
theorem Qu {w:World}{e N:Nat}{v:Value}(h:Fit e N v w)(he:e<=300000) :
  Calls Tryz.prog 180 #[v] w fun en w'=>∃x,en=.returned x/\Fit e N x w'/\Below w.heap.size w w':=by
 obtain⟨pa,na,ca,rfl,h1,h2⟩:=Aw h;have hbx:=eF.mk2 w (.slice pa na ca) (.slice none 0 0);have hz:∀w',Fit 0 0 (.agg #[.slice none 0 0]) w':=fun w'=>Fit.of (Aj.nil w') (by decide)
 have HZ:=Ah hz;clear hz;go_enter Tryz.func180,Tryz.ntmps180
 go_wp2_with fail
 refine(Kj (h.below hbx.bel) (HZ.out _) (by omega) (by omega)).mono ?_;rintro en w1 ⟨x,rfl,hx,hb⟩;replace hbx:=hbx.later hb;obtain⟨pc,nc,cc,rfl,y1,_⟩:=hx;have c1:=hbx.b1.cell;have f1:=hbx.b1.free;have z1:=hbx.b1.lt;go_wp2;exact bodyPost_ret (v:=.agg #[.slice pc nc cc]) (by simp[results,Tryz.results180,go_sem,c1]) rfl ⟨_,rfl,Fit.of (y1.store hbx.b1 _) h2,hbx.bel.setCell (by simp) _⟩
def Tw (P Q N:Nat):Bool:=decide (0<N/\N<P/\N^Q%P=1)
theorem Og {P Q N:Nat}:Tw P Q N=true ↔ Cx P Q N:=decide_eq_true_iff
theorem bU {w:World}{bg P Q G H:Nat}(b:Nat)(e:Nat)(Ns:List Nat)(hb:b<w.heap.size)(hc:w.cell? ⟨b,0,none⟩=some (.pointer (some ⟨bg,0,none⟩)))(hg:Bb w bg P Q G H)(he:e<=30000) :
  Asks 182 #[.pointer (some ⟨b,0,none⟩)] w e Ns (fun N=>!Tw P Q N):=by
 refine⟨fun W N u hbw _ hu=>?_⟩;have hc':W.cell? ⟨b,0,none⟩=some (.pointer (some ⟨bg,0,none⟩)):=(hbw.cell (p:=⟨b,0,none⟩) hb).trans hc;obtain⟨pu,nu,cu,rfl,hu1,hu2⟩:=hu;have hbx:=Dg.mk1 W (.slice pu nu cu) 36;have hbW:b<W.heap.size:=De hb hbw.size;have hc2:(W.alloc (.cells #[.slice pu nu cu] 36)).cell? ⟨b,0,none⟩=some (.pointer (some ⟨bg,0,none⟩)):=(hbx.bel.cell (p:=⟨b,0,none⟩) hbW).trans hc';have HA:=Aa ((Fit.of hu1 hu2).below hbx.bel);have HG:=Aa ((hg.below hbw).below hbx.bel);have HBX:=Aa hbx.bel;clear hu1 hu2 hbx hc' hc hg;go_enter Tryz.func182,Tryz.ntmps182
 go_wp2_with fail
 refine(Zl HG.out HA.out he).mono ?_;rintro en w1 ⟨rfl,hb1⟩;obtain⟨X,hX⟩:∃X,decide (0<N/\N<P/\N^Q%P=1)=X:=⟨_,rfl⟩
 have HE:Ad (Tw P Q N=X):=⟨hX⟩
 rw[hX];have HB1:=Aa (Ae HBX.out hb1);clear hb1 hc2 hX;go_wp2;go_ret;exact⟨by rw[HE.out];rfl,HB1.out⟩
theorem Qx (p:Nat->Bool):∀l:List Nat,(!l.any fun x=>!p x)=l.all p
 | []=>rfl
 | a::l=>by
  have:=Qx p l;simp only[List.any_cons,List.all_cons];rw[<-this];cases p a<;>simp
theorem Ki {w:World}{bg P Q G H e n c:Nat}{p:Option Addr}{Ns:List Nat}(hg:Bb w bg P Q G H)(h:Cd w e p n c Ns)(he:e<=30000) :
  Calls Tryz.prog 126 #[.pointer (some ⟨bg,0,none⟩),.slice p n c] w fun en w'=>en=.returned (.bool (Ns.all (Tw P Q)))/\Below w.heap.size w w':=by
 have hbx:=Dg.mk1 w (.pointer (some ⟨bg,0,none⟩)) 25;have HP:=Aa (h.below hbx.bel);have HA:=Aa (bU (w:=w.alloc (.cells #[.pointer (some ⟨bg,0,none⟩)] 25)) w.heap.size e Ns (by simp) hbx.c0 (hg.below hbx.bel) he);have HBX:=Aa hbx.bel;obtain⟨X,hX⟩:∃X,(Ns.any fun N=>!Tw P Q N)=X:=⟨_,rfl⟩
 have HE:Ad (Ns.all (Tw P Q) = !X):=⟨by rw[<-hX,Qx]⟩
 have HX:=Aa hX;clear h hbx hg hX;go_enter Tryz.func126,Tryz.ntmps126
 go_wp2_with fail
 refine(Jw _ e p n c Ns _ _ (enters_of Tryz.func182 (by kernel_rfl) rfl) _ HP.out HA.out).mono ?_;rintro en w1 ⟨rfl,hb1⟩;rw[HX.out];have HB1:=Aa (Ae HBX.out hb1);clear hb1;go_wp2;go_ret;exact⟨by rw[HE.out];rfl,HB1.out⟩
theorem Pi {w:World}{g e:Nat}{us:List (Option Addr×Nat×Nat)}{Ns:List Nat}{T:TypeId}{m:Nat×Nat}(h:w.heap[g]? = some (.cells (us.map sv).toArray T m))(ht:Pt w e us Ns)(hn:Ns.length<=1000000):Cd w e (some ⟨g,0,none⟩) Ns.length Ns.length Ns:=by
 refine⟨rfl,As _,by omega,(fun e=>by cases e),fun _=>⟨g,0,rfl,(Gn h).1,fun i N hN=>?_⟩⟩;obtain⟨x,k1,k2,k3⟩:=ht.at_ i N hN
 exact⟨x.1,x.2.1,x.2.2,by simp[World.cell?,h,k1,sv],k2,k3⟩
def aQ (B C n:Nat)(bs:List Nat)(v:Value)(w:World):Prop:=∃p c,v=.slice p n c/\Ft B C w ⟨p,n,c,bs⟩/\(p=none->c=0)
theorem aQ.kd {B C n:Nat}{bs:List Nat}{v:Value}{w w':World}(h:aQ B C n bs v w)(k:KD B C w w'):aQ B C n bs v w':=let ⟨p,c,h1,h2,h3⟩:=h;⟨p,c,h1,h2.kd k,h3⟩
theorem aV (L:List Part):whole L=(L.map (·.bs)).flatten:=by simp[whole,List.flatMap_def]
theorem Xh (P A B:Nat)(side:List Nat):(Ji P A B side).length=4+(Al P+(Al P+side.length)):=by
 unfold Ji Mr;simp[Bp];omega
theorem Ci.prt {B C lo n:Nat}{bs:List Nat}{v:Value}{w:World}(h:Ci lo bs v w)(hl:C<=lo)(h8:Ay bs)(hn:bs.length=n):aQ B C n bs v w:=by
 subst hn;exact h.elim fun p c hv hr hw hz=>⟨p,c,hv,⟨⟨hr,h8⟩,fun _ q hq=>.inl (Ec hl (hw q hq))⟩,hz⟩
theorem Zu {w:World}{b P Q G H e A Y:Nat}{v u:Value}{pm:Option Addr}{nm cm:Nat}{msg:List Nat}(hg:Bb w b P Q G H)(hv:Fit e A v w)(hu:Fit e Y u w)(he:e<=30000)(hA:A<P)(hY:Y<P)(hs:Al P<=16)(hm:Au w ⟨pm,nm,cm,msg⟩)(hz:pm=none->cm=0)(hn:nm<=1000) :
  Calls Tryz.prog 181 #[.pointer (some ⟨b,0,none⟩),v,u,.slice pm nm cm] w fun en w'=>∃p c,en=.returned (.slice p (Ji P A Y msg).length c)/\Au w' ⟨p,(Ji P A Y msg).length,c,Ji P A Y msg⟩/\Below w.heap.size w w':=by
 obtain⟨pa,na,ca,rfl,h1,h2⟩:=Aw hv;obtain⟨py,ny,cy,rfl,k1,k2⟩:=Aw hu;have hbx:=eF.mk2 w (.slice pa na ca) (.slice py ny cy);have hsz3:((w.alloc (.cells #[.slice pa na ca] 36)).alloc (.cells #[.slice py ny cy] 36)).heap.size=w.heap.size+1+1:=by simp
 obtain⟨wa,hwa⟩:∃wa,(w.alloc (.cells #[.slice pa na ca] 36)).alloc (.cells #[.slice py ny cy] 36)=wa:=⟨_,rfl⟩
 rw[hwa]at hbx hsz3
 have HBL:=Aa hbx.bel;have HX0:=Aa hbx.b0;have HX1:=Aa hbx.b1;have HA:=Aa ((Fit.of h1 h2).below hbx.bel);have HY:=Aa ((Fit.of k1 k2).below hbx.bel);have HG:Ad (∀w',Ao (w.heap.size+1+1) wa w'->Bb w' b P Q G H):=⟨fun w' k=>(Kp.of hg (As _) HBL.out).keep ⟨k.bel.mono (by omega),k.nat⟩⟩
 have HM:Ad (Ft (w.heap.size+1+1) (w.heap.size+1+1) wa ⟨pm,nm,cm,msg⟩):=⟨Ft.old hm (by omega) hbx.bel⟩
 have HZM:=Aa hz;have HSB:Ad (∀ {w':World},KD (w.heap.size+1+1) (w.heap.size+1+1) wa w'->w.heap.size+1+1<=w'.heap.size):=⟨fun hk=>by have:=hk.k.bel.size;omega⟩
 have HSC:=HSB;have HM8:Ad (Ay (Ji P A Y msg)):=⟨Zw P A Y hm.bytes⟩
 have hlen:=Xh P A Y msg;have hml:nm=msg.length:=hm.row.len;obtain⟨sz,hsz⟩:∃s,Al P=s:=⟨_,rfl⟩
 have hmm:[Mr,Ar A sz,Ar Y sz,msg].flatten=Ji P A Y msg:=by subst hsz;unfold Ji;simp
 rw[hsz]at hs hlen
 obtain⟨MM,hMM⟩:∃M,Ji P A Y msg=M:=⟨_,rfl⟩
 rw[hMM]at hlen HM8 hmm ⊢
 obtain⟨LL,hLL⟩:∃L,MM.length=L:=⟨_,rfl⟩
 have HLL:=Aa hLL;have HMM:=Aa hmm;have HLb:Ad (LL<=100000):=⟨by omega⟩
 have HSZ:=Aa hsz;have HSs:=Aa hs;have HAP:=Aa hA;have HYP:=Aa hY;rw[hLL];clear h1 h2 k1 k2 hbx hg hv hu hm hsz hA hY hlen hml hmm hMM hLL hz;go_enter Tryz.func181,Tryz.ntmps181;go_wp2;refine Ai (by kernel_rfl) (by kernel_rfl)
  [none,none,some (.pointer (some ⟨b,0,none⟩)),some (.agg #[.slice pa na ca]),none,some (.pointer (some ⟨b,0,none⟩)),some (.agg #[.slice py ny cy]),none,some (.slice pm nm cm),none,none,none]
  [true,true,false,false,true,false,false,true,false,true,true,true] rfl
  (fun w1 w2=>KD (w.heap.size+1+1) (w.heap.size+1+1) w1 w2)
  (fun D w'=>KD (w.heap.size+1+1) (w.heap.size+1+1) wa w'/\True)
  (fun i v w'=>match i with
   | 0=>aR (w.heap.size+1+1) (w.heap.size+1+1) 4 Mr v w'
   | 1=>aR (w.heap.size+1+1) (w.heap.size+1+1) 4 Mr v w'
   | 4=>mX (w.heap.size+1+1) (w.heap.size+1+1) sz (Ar A sz) v w'
   | 7=>mX (w.heap.size+1+1) (w.heap.size+1+1) sz (Ar Y sz) v w'
   | 9=>dJ (w.heap.size+1+1) (w.heap.size+1+1) 4 (pm=none->cm=0) [Mr,Ar A sz,Ar Y sz,msg] v w'
   | 10=>aQ (w.heap.size+1+1) (w.heap.size+1+1) LL MM v w'
   | 11=>aQ (w.heap.size+1+1) (w.heap.size+1+1) LL MM v w'
   | _=>True)
  ?_ ⟨KD.drew _ _ _,trivial⟩ ?_ ?_
 .intro i v w1 w2 hf hb;split at hf
  .exact hf.kd hb
  .exact hf.kd hb
  .exact hf.kd hb
  .exact hf.kd hb
  .exact hf.kd hb
  .exact hf.kd hb
  .exact hf.kd hb
  .trivial
 .simp only[Ba,Nat.reduceAdd];refine⟨?_,?_,?_,?_,?_,?_,?_,?_,?_,?_,?_,?_,trivial⟩
  all_goals intro D sp w' hD hW hdp hbx'
  case refine_1=>
   (with_reducible refine Ag (w1:=w'.alloc (.cells #[.int .u8 100,.int .u8 108,.int .u8 101,.int .u8 113] 5)) (v:=.slice (some ⟨w'.heap.size,0,none⟩) 4 4) ?_ ?_ ?_)
   .simp only[Region.wanted]
   .simp[execOp,Act.eval,go_sem]
   .have hb:Below w'.heap.size w' (w'.alloc (.cells #[.int .u8 100,.int .u8 108,.int .u8 101,.int .u8 113] 5)):=By;exact⟨KD.of hb (HSB.out hbx'.1),aR.made w' Mr (by decide) (HSC.out hbx'.1) (HSB.out hbx'.1) (by decide),⟨hbx'.1.trans (KD.of hb (HSB.out hbx'.1)),trivial⟩⟩
  case refine_2=>
   have hx1:∃g,sp 0=.slice (some ⟨g,0,none⟩) 4 4/\w'.shape? g=some (5,4)/\Ft (w.heap.size+1+1) (w.heap.size+1+1) w' ⟨some ⟨g,0,none⟩,4,4,Mr⟩/\(w.heap.size+1+1)<=g/\(w.heap.size+1+1)<=g:=(hdp 0 (mq (by kernel_rfl))).2
   (with_reducible refine Aq hx1 fun g e10=>?_)
   have h1:=e10.1;have h7:=run_mark (w:=w') (n:=4) (c:=4) e10.2.1
   (with_reducible refine Ag (w1:=w'.freeze ⟨g,4,none⟩ 1) (v:=.slice (some ⟨g,0,none⟩) 4 4) ?_ ?_ ?_)
   .simp only[Region.wanted]
   .simp[execOp,Act.eval,Act.put,go_sem,h1,h7]
   .have hkc:=KD.mark (w:=w') (g:=g) (B:=(w.heap.size+1+1)) (C:=(w.heap.size+1+1)) 4 e10.2.2.2.2;exact⟨hkc,⟨g,rfl,hkc.shape _ _ e10.2.2.2.1 e10.2.1,e10.2.2.1.kd hkc,e10.2.2.2⟩,⟨hbx'.1.trans hkc,trivial⟩⟩
  case refine_4=>
   have c0:=(HX0.out.below hbx'.1.k.bel (by omega)).cell
   with_reducible refine Ac ?_ ?_
   all_goals simp[Region.wanted,yielded,execOp,Act.eval,Act.put,go_sem,c0]
  case refine_5=>
   (with_reducible refine Ab (w1:=w') (f := 166) (args:=#[.pointer (some ⟨b,0,none⟩),.agg #[.slice pa na ca]]) ?_ ?_ ?_)
   .simp[Region.wanted,yielded,Act.put,go_sem]
   .simp[Act.eval,Act.put,go_sem]
   .refine(Nc (HG.out w' hbx'.1.k) (HA.out.keep hbx'.1.k) he HAP.out HSZ.out HSs.out).mono ?_;rintro en w9 ⟨g9,rfl,hg9,hu,hb⟩;exact⟨_,rfl,KD.of hb (HSB.out hbx'.1),⟨g9,rfl,⟨Ib hu (by omega),fun _ q hq=>by cases hq;exact .inl (Ec (HSC.out hbx'.1) hg9)⟩⟩,⟨hbx'.1.trans (KD.of hb (HSB.out hbx'.1)),trivial⟩⟩
  case refine_7=>
   have c0:=(HX1.out.below hbx'.1.k.bel (by omega)).cell
   with_reducible refine Ac ?_ ?_
   all_goals simp[Region.wanted,yielded,execOp,Act.eval,Act.put,go_sem,c0]
  case refine_8=>
   (with_reducible refine Ab (w1:=w') (f := 166) (args:=#[.pointer (some ⟨b,0,none⟩),.agg #[.slice py ny cy]]) ?_ ?_ ?_)
   .simp[Region.wanted,yielded,Act.put,go_sem]
   .simp[Act.eval,Act.put,go_sem]
   .refine(Nc (HG.out w' hbx'.1.k) (HY.out.keep hbx'.1.k) he HYP.out HSZ.out HSs.out).mono ?_;rintro en w9 ⟨g9,rfl,hg9,hu,hb⟩;exact⟨_,rfl,KD.of hb (HSB.out hbx'.1),⟨g9,rfl,⟨Ib hu (by omega),fun _ q hq=>by cases hq;exact .inl (Ec (HSC.out hbx'.1) hg9)⟩⟩,⟨hbx'.1.trans (KD.of hb (HSB.out hbx'.1)),trivial⟩⟩
  case refine_10=>
   have hx1:∃g,sp 1=.slice (some ⟨g,0,none⟩) 4 4/\w'.shape? g=some (5,4)/\Ft (w.heap.size+1+1) (w.heap.size+1+1) w' ⟨some ⟨g,0,none⟩,4,4,Mr⟩/\(w.heap.size+1+1)<=g/\(w.heap.size+1+1)<=g:=(hdp 1 (mq (by kernel_rfl))).2
   (with_reducible refine Aq hx1 fun g e10=>?_)
   have hx4:∃g,sp 4=.slice (some ⟨g,0,none⟩) sz sz/\Ft (w.heap.size+1+1) (w.heap.size+1+1) w' ⟨some ⟨g,0,none⟩,sz,sz,Ar A sz⟩:=(hdp 4 (mq (by kernel_rfl))).2
   (with_reducible refine Aq hx4 fun ga e40=>?_)
   have hx7:∃g,sp 7=.slice (some ⟨g,0,none⟩) sz sz/\Ft (w.heap.size+1+1) (w.heap.size+1+1) w' ⟨some ⟨g,0,none⟩,sz,sz,Ar Y sz⟩:=(hdp 7 (mq (by kernel_rfl))).2
   (with_reducible refine Aq hx7 fun gy e70=>?_)
   have ea:=e10.1;have eb:=e40.1;have ec:=e70.1
   (with_reducible refine Ag (w1:=w'.alloc (.cells #[.slice (some ⟨g,0,none⟩) 4 4,.slice (some ⟨ga,0,none⟩) sz sz,.slice (some ⟨gy,0,none⟩) sz sz,.slice pm nm cm] 60)) (v:=.slice (some ⟨w'.heap.size,0,none⟩) 4 4) ?_ ?_ ?_)
   .simp only[Region.wanted]
   .simp[execOp,Act.eval,Act.put,go_sem,ea,eb,ec]
   .have hb:Below w'.heap.size w' (w'.alloc (.cells #[.slice (some ⟨g,0,none⟩) 4 4,.slice (some ⟨ga,0,none⟩) sz sz,.slice (some ⟨gy,0,none⟩) sz sz,.slice pm nm cm] 60)):=By;exact⟨KD.of hb (HSB.out hbx'.1),dJ.four w' ⟨some ⟨g,0,none⟩,4,4,Mr⟩ ⟨some ⟨ga,0,none⟩,sz,sz,Ar A sz⟩ ⟨some ⟨gy,0,none⟩,sz,sz,Ar Y sz⟩ ⟨pm,nm,cm,msg⟩ e10.2.2.1 e40.2 e70.2 (HM.out.kd hbx'.1) (fun h=>by cases h) (fun h=>by cases h) (fun h=>by cases h) (fun h=>h) (HSC.out hbx'.1) (HSB.out hbx'.1),⟨hbx'.1.trans (KD.of hb (HSB.out hbx'.1)),trivial⟩⟩
  case refine_11=>
   have hx9:∃(q:Nat) (L:List Part),sp 9=.slice (some ⟨q,0,none⟩) 4 4/\Bv w' (some ⟨q,0,none⟩) 4 4 L/\(∀P∈L,Ft (w.heap.size+1+1) (w.heap.size+1+1) w' P)/\(w.heap.size+1+1)<=q/\((pm=none->cm=0)->Iy L)/\L.map (·.bs)=[Mr,Ar A sz,Ar Y sz,msg]:=(hdp 9 (mq (by kernel_rfl))).2
   (with_reducible refine Aq hx9 fun q e90=>Aq e90 fun L e91=>?_)
   have h1:=e91.1;have hw:whole L=MM:=by rw[aV,e91.2.2.2.2.2];exact HMM.out
   (with_reducible refine Ab (w1:=w') (f := 218) (args:=#[.slice (some ⟨q,0,none⟩) 4 4]) ?_ ?_ ?_)
   .simp only[Region.wanted]
   .simp[Act.eval,Act.put,go_sem,h1]
   .refine(Ue w' _ 4 4 L e91.2.1 (e91.2.2.2.2.1 HZM.out) (by rw[hw,HLL.out];exact HLb.out)).mono ?_;rintro en w9 ⟨u,rfl,hu,hb⟩;rw[hw]at hu
    exact⟨u,rfl,KD.of hb (HSB.out hbx'.1),hu.prt (HSC.out hbx'.1) HM8.out HLL.out,⟨hbx'.1.trans (KD.of hb (HSB.out hbx'.1)),trivial⟩⟩
  case refine_12=>
   have k10:aQ (w.heap.size+1+1) (w.heap.size+1+1) LL MM (sp 10) w':=(hdp 10 (mq (by kernel_rfl))).2
   (with_reducible refine Ag (w1:=w') (v:=sp 10) ?_ ?_ ?_)
   .simp[Region.wanted,yielded,Act.put,go_sem]
   .simp[execOp,Act.eval,Act.put,go_sem]
   .exact⟨KD.same _ _ _,k10,hbx'⟩
  all_goals ((with_reducible refine Ac ?_ ?_);all_goals first|(simp only[Region.wanted];done)|simp[Region.wanted,yielded,execOp,Act.eval,Act.put,go_sem])
 .intro sp w8 hsp hk;obtain⟨pz,cz,ez,hz,_⟩:aQ (w.heap.size+1+1) (w.heap.size+1+1) LL MM (sp 11) w8:=hsp 11 rfl;have HZ:=Aa hz.ok;have HB7:Ad (Below w.heap.size w w8):=⟨HBL.out.trans (hk.1.k.bel.mono (by omega))⟩
  clear hsp hk hz;simp only[Am,Nat.reduceAdd];rw[ez];clear ez;generalize sp 0=y0,sp 1=y1,sp 4=y4,sp 7=y7,sp 9=y9,sp 10=y10 at *
  go_simp
  go_wp2;go_ret;exact⟨pz,cz,rfl,HZ.out,HB7.out⟩
end Go.Proofs.YtnbmfaihlefgfaaGreatDoor
