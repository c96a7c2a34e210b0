/- Proofs that two powers have one exponent: copied, areMembers, drawnOf, a claim's challenge. -/
import Derived.Test.YthgoeiegdhphjaaGreatDoorAnsw
import Derived.Laws.OwnMore
set_option maxRecDepth 1000000
set_option maxHeartbeats 16000000
set_option linter.unusedSimpArgs false
set_option linter.unusedVariables false
namespace Go.Proofs.YthgoeiegdhphjaaGreatDoor
open Go Go.RowKit Go.Proofs.YthgoeiegdhphjaaGreatDoor.Flow
structure KD (B C:Nat) (w w':World):Prop where
 k:Ap B w w'
 cell:∀p v,C<=p.block->w.cell? p=some v->w'.cell? p=some v
 shape:∀g s,C<=g->w.shape? g=some s->w'.shape? g=some s
theorem KD.of {B C:Nat}{w w':World}(h:Below w.heap.size w w')(hB:B<=w.heap.size):KD B C w w':=⟨Ap.of h hB,fun _ _ _ hp=>cell_below h hp,fun _ _ _ hs=>Py h hs⟩
theorem KD.same (B C:Nat)(w:World):KD B C w w:=⟨Ap.same _ _,fun _ _ _ h=>h,fun _ _ _ h=>h⟩
theorem KD.trans {B C:Nat}{w1 w2 w3:World}(h:KD B C w1 w2)(k:KD B C w2 w3):KD B C w1 w3:=⟨h.k.trans k.k,fun p v c x=>k.cell p v c (h.cell p v c x),fun g s c x=>k.shape g s c (h.shape g s c x)⟩
theorem KD.drew (B C:Nat)(w:World):KD B C w w.drew:=⟨Ap.drew _ _,fun _ _ _ h=>h,fun _ _ _ h=>h⟩
theorem KD.mark {B C g:Nat}{w:World}(k:Nat)(hB:B<=g):KD B C w (w.freeze ⟨g,k,none⟩ 1) :=
 ⟨⟨(KC.mark (B:=B) k hB).bel,fun _ _ _ _ h=>Hi.stay h (by simp[World.freeze]) fun q _ o=>Ld _ _ _ _⟩,fun p v _ h=>by rw[Ld];exact h,fun j s _ h=>by rw[Og];exact h⟩
structure Fm (B C:Nat) (w:World) (P:Part):Prop where
 ok:Ar w P
 at_:0<P.n->∀q,P.p=some q->C<=q.block ∨ q.block<B
theorem Fm.kd {B C:Nat}{w w':World}{P:Part}(h:Fm B C w P)(k:KD B C w w'):Fm B C w' P:=by
 refine⟨⟨⟨h.ok.row.len,h.ok.row.cap,h.ok.row.max,fun h0=>?_⟩,h.ok.bytes⟩,h.at_⟩;obtain⟨k1,k2,k3,k4⟩:=h.ok.row.row h0;refine⟨k1,k2,k3,?_⟩;rcases k4 with e|⟨b,off,h1,h2,h3⟩
 .exact .inl e
 .refine .inr ⟨b,off,h1,Nat.lt_of_lt_of_le h2 k.k.bel.size,fun i x hx=>?_⟩;rcases h.at_ h0 _ h1 with hc|hb
  .exact k.cell _ _ hc (h3 i x hx)
  .rw[k.k.bel.cell (p:=⟨b,off+i,none⟩) hb];exact h3 i x hx
theorem Fm.old {B C:Nat}{w0 w:World}{P:Part}(h:Ar w0 P)(hB:w0.heap.size<=B)(k:Below w0.heap.size w0 w):Fm B C w P:=by
 refine⟨h.below k,fun h0 q hq=>.inr ?_⟩;rcases(h.row.row h0).at_ with h1|⟨b,off,h1,h2,_⟩
 .have:=h1.2.1;omega
 .rw[h1]at hq
  cases hq;have:b<w0.heap.size:=h2;show b<B;omega
def nM (B C n:Nat)(bs:List Nat)(v:Value)(w:World):Prop:=∃g,v=.slice (some ⟨g,0,none⟩) n n/\Fm B C w ⟨some ⟨g,0,none⟩,n,n,bs⟩
theorem nM.kd {B C n:Nat}{bs:List Nat}{v:Value}{w w':World}(h:nM B C n bs v w)(k:KD B C w w'):nM B C n bs v w':=let ⟨g,h1,h2⟩:=h;⟨g,h1,h2.kd k⟩
def aY (B C n:Nat)(bs:List Nat)(v:Value)(w:World):Prop:=∃g,v=.slice (some ⟨g,0,none⟩) n n/\w.shape? g=some (5,n)/\Fm B C w ⟨some ⟨g,0,none⟩,n,n,bs⟩/\C<=g/\B<=g
theorem aY.kd {B C n:Nat}{bs:List Nat}{v:Value}{w w':World}(h:aY B C n bs v w)(k:KD B C w w'):aY B C n bs v w':=let ⟨g,h1,h2,h3,h4,h5⟩:=h;⟨g,h1,k.shape _ _ h4 h2,h3.kd k,h4,h5⟩
theorem aY.made {B C:Nat}(w:World)(bs:List Nat)(hb:∀x∈bs,x<256)(hC:C<=w.heap.size)(hB:B<=w.heap.size)(hl:bs.length<=1000) :
  aY B C bs.length bs (.slice (some ⟨w.heap.size,0,none⟩) bs.length bs.length) (w.alloc (.cells (bs.map fun(x:Nat)=>Value.int .u8 (x:Int)).toArray 5)):=by
 have h1:(w.alloc (.cells (bs.map fun(x:Nat)=>Value.int .u8 (x:Int)).toArray 5)).heap[w.heap.size]? = some (.cells (bs.map fun(x:Nat)=>Value.int .u8 (x:Int)).toArray 5 (0,0)):=heap_alloc_new w _;exact⟨w.heap.size,rfl,by unfold World.shape?;rw[h1];simp,⟨⟨Ih h1 rfl (Nat.le_trans hl (by decide)),hb⟩,fun _ q hq=>by cases hq;exact .inl hC⟩,hC,hB⟩
def dU (B C n:Nat)(Z:Prop)(bss:List (List Nat))(v:Value)(w:World):Prop:=∃(q:Nat) (L:List Part),v=.slice (some ⟨q,0,none⟩) n n/\Bp w (some ⟨q,0,none⟩) n n L/\(∀P∈L,Fm B C w P)/\C<=q/\(Z->Iv L)/\L.map (·.bs)=bss
theorem dU.kd {B C n:Nat}{Z:Prop}{bss:List (List Nat)}{v:Value}{w w':World}(h:dU B C n Z bss v w)(k:KD B C w w'):dU B C n Z bss v w':=by
 obtain⟨q,L,h1,h2,h3,h4,h5,h6⟩:=h;refine⟨q,L,h1,⟨h2.len,h2.cap,h2.max,fun i P hP=>((h3 P (List.mem_of_getElem? hP)).kd k).ok,fun h0=>?_⟩,fun P hP=>(h3 P hP).kd k,h4,h5,h6⟩;obtain⟨b,off,e1,e2,e3⟩:=h2.cells h0;cases e1;exact⟨q,0,rfl,Nat.lt_of_lt_of_le e2 k.k.bel.size,fun i P hP=>k.cell _ _ h4 (e3 i P hP)⟩
theorem dU.four {B C:Nat}(w:World)(P Q R S:Part)(hP:Fm B C w P)(hQ:Fm B C w Q)(hR:Fm B C w R)(hS:Fm B C w S)(zP:P.p=none->P.c=0)(zQ:Q.p=none->Q.c=0)(zR:R.p=none->R.c=0){Z:Prop}(zS:Z->S.p=none->S.c=0)(hC:C<=w.heap.size)(hB:B<=w.heap.size) :
  dU B C 4 Z [P.bs,Q.bs,R.bs,S.bs] (.slice (some ⟨w.heap.size,0,none⟩) 4 4) (w.alloc (.cells #[.slice P.p P.n P.c,.slice Q.p Q.n Q.c,.slice R.p R.n R.c,.slice S.p S.n S.c] 60)):=by
 have hb:KD B C w (w.alloc (.cells #[.slice P.p P.n P.c,.slice Q.p Q.n Q.c,.slice R.p R.n R.c,.slice S.p S.n S.c] 60)):=KD.of ((Below.refl _ _).alloc (Nat.le_refl _) _) hB;refine⟨w.heap.size,[P,Q,R,S],rfl,qF w P Q R S hP.ok hQ.ok hR.ok hS.ok,fun X hX=>?_,hC,fun h=>pX zP zQ zR (zS h),rfl⟩;simp only[List.mem_cons,List.not_mem_nil,or_false]at hX;rcases hX with rfl|rfl|rfl|rfl
 .exact hP.kd hb
 .exact hQ.kd hb
 .exact hR.kd hb
 .exact hS.kd hb
open Go Go.RowKit
theorem Tryz.info_Bs:(Tryz.prog.info? 60).map (fun i=>(i.zero,i.size,i.bytes))=some (some (.slice none 0 0),1,24):=by kernel_rfl
structure Gb (w:World) (B:Nat) (v:Value) (L:List Part):Prop where
 own:w.ownsRow B 60 1 v L.length (L.map fun P=>.slice P.p P.n P.c)
 ok:∀P∈L,Ar w P
 off:∀P∈L,0<P.n->∀q,P.p=some q->v.ownBlock≠some q.block
theorem Gb.below {w w':World}{B:Nat}{v:Value}{L:List Part}(h:Gb w B v L)(hb:Below w.heap.size w w'):Gb w' B v L :=
 ⟨Nw h.own fun g hg=>hb.block g (Dx h.own g hg).2,fun P hP=>(h.ok P hP).below hb,h.off⟩
theorem Ar.lt {w:World}{P:Part}(h:Ar w P)(h0:0<P.n):∀q,P.p=some q->q.block<w.heap.size:=fun q hq=>by
 rcases(h.row.row h0).at_ with h1|⟨b,off,h1,h2,_⟩
 .have:=h1.2.1;omega
 .rw[h1]at hq
  cases hq;exact h2
theorem Gb.one {w:World}{B:Nat}{P:Part}(hB:B<=w.heap.size)(hP:Ar w P) :
  Gb (w.alloc (.cells #[.slice P.p P.n P.c] 60)) B (.slice (some ⟨w.heap.size,0,none⟩) 1 1) [P]:=by
 have hb:Below w.heap.size w (w.alloc (.cells #[.slice P.p P.n P.c] 60)):=Bt;refine⟨World.ownsRow_lit (size:=1) w #[.slice P.p P.n P.c] 1 hB (by decide) rfl,fun Q hQ=>?_,fun Q hQ h0 q hq e=>?_⟩
 .rw[List.mem_singleton.1 hQ];exact hP.below hb
 .rw[List.mem_singleton.1 hQ]at hq h0
  have h1:=hP.lt h0 q hq;have h2:w.heap.size=q.block:=by simpa [Value.ownBlock]using e
  omega
theorem Ar.grown {w w':World}{P:Part}{r:Option Nat}(h:Ar w P)(hg:w.grownBy w' r)(hn:0<P.n->∀q,P.p=some q->r≠some q.block):Ar w' P:=by
 refine⟨⟨h.row.len,h.row.cap,h.row.max,fun h0=>?_⟩,h.bytes⟩;obtain⟨k1,k2,k3,k4⟩:=h.row.row h0;refine⟨k1,k2,k3,?_⟩;rcases k4 with k|⟨b,off,h1,h2,h3⟩
 .exact .inl k
 .refine .inr ⟨b,off,h1,Nat.lt_of_lt_of_le h2 hg.size,fun i x hx=>?_⟩;rw[World.cell?_of_block (a:=⟨b,off+i,none⟩) (hg.block b h2 fun e=>hn h0 _ h1 e.symm)];exact h3 i x hx
theorem Gb.app {w:World}{B:Nat}{v:Value}{L:List Part}(h:Gb w B v L)(hB:B<=w.heap.size){P:Part}{a:Addr}{c:Nat}(hc:w.cell? a=some (.slice P.p P.n P.c))(hP:Ar w P)(hn:0<P.n->∀q,P.p=some q->v.ownBlock≠some q.block)(hl:L.length<=1000000)(ty:TypeId) :
  ∃v' w',(Builtin.append_ #[203, 203] ty #[v,.slice (some a) 1 c]).run Tryz.prog w=.ok v' w'/\Gb w' B v' (L++[P])/\w.grownBy w' v.ownBlock/\dS w v v':=by
 obtain⟨i,hi,hz,hs,hb⟩:=info_parts Tryz.info_Bs;have ha0:a.add 0=a:=by obtain⟨b,o,s⟩:=a;simp[Addr.add]
 obtain⟨v',w',k1,k2,k3,k4⟩:=Yq Tryz.underlying203 hi hz hs hb rfl (by decide) h.own (a:=a) (m:=1) (c:=c) (news:=[.slice P.p P.n P.c]) rfl
  (fun j u hj=>by
   cases j with
   | zero=>simp at hj;subst hj;rw[ha0];exact hc
   | succ j=>simp at hj)
  (fun u hj=>by simp at hj;subst hj;rfl) (by simp only[maxLen];omega) (Nat.le_trans (Nat.mul_le_mul (Nat.add_le_add_right hl 1) (show (24:Nat)<=24 by decide)) (by decide)) hB ty
 refine⟨v',w',k1,⟨by rw[List.length_append,List.map_append];exact k2,fun Q hQ=>?_,fun Q hQ h0 q hq e=>?_⟩,k3,k4⟩
 .rcases List.mem_append.1 hQ with hm|hm
  .exact(h.ok Q hm).grown k3 (h.off Q hm)
  .rw[List.mem_singleton.1 hm];exact hP.grown k3 hn
 .have h1:v.ownBlock≠some q.block/\q.block<w.heap.size:=by
   rcases List.mem_append.1 hQ with hm|hm
   .exact⟨h.off Q hm h0 q hq,(h.ok Q hm).lt h0 q hq⟩
   .rw[List.mem_singleton.1 hm]at hq h0
    exact⟨hn h0 q hq,hP.lt h0 q hq⟩
  rcases k4 with k5|k5
  .rw[k5]at e;exact h1.1 e
  .have:=k5 _ e;omega
theorem Gb.in_ {w:World}{B:Nat}{v:Value}{L:List Part}(h:Gb w B v L):∃p c,v=.slice p L.length c/\Bp w p L.length c L:=by
 rcases h.own.2 with ⟨e,hn⟩|⟨g,cap,cur,rfl,hbg,hg,hnc,hcm,hcs,ht⟩
 .have hL:L=[]:=List.eq_nil_of_length_eq_zero hn;subst hL;exact⟨none,0,e,Bp.none w none⟩
 .refine⟨_,_,rfl,⟨rfl,hnc,by simpa [maxLen]using hcm,fun i P hP=>h.ok P (List.mem_of_getElem? hP),fun _=>⟨g,0,rfl,(Array.getElem?_eq_some_iff.1 hg).1,fun i P hP=>?_⟩⟩⟩;have:=h.own.cells (g:=g) rfl i (.slice P.p P.n P.c) (by rw[List.getElem?_map,hP];rfl);rw[add_plain g 0 i]at this
  exact this
def Mh:List Nat:=[100,108,101,113]
def Nb (P Q A B Y Z U V:Nat)(side:List Nat):Nat :=
 be (Km (Bw [Mh,Au A (Am P),Au B (Am P),Au Y (Am P),Au Z (Am P),Au U (Am P),Au V (Am P),side]))%Q
def Jg (P A B:Nat)(side:List Nat):List Nat:=Mh++(Au A (Am P)++(Au B (Am P)++side))
def rY (P Q A B x:Nat)(side:List Nat):Nat:=Ym Q x (Jg P A B side)
def rZ (P Q A B x:Nat)(side:List Nat):Nat:=Nb P Q A B (A^x%P) (B^x%P) (A^rY P Q A B x side%P) (B^rY P Q A B x side%P) side
def sG (P Q A B x:Nat)(side:List Nat):Nat:=(rY P Q A B x side+rZ P Q A B x side*x%Q)%Q
def mD (P Q A B x:Nat)(side:List Nat):List Nat:=Au (rZ P Q A B x side) (Am Q)++Au (sG P Q A B x side) (Am Q)
def aC (P Q A B Y Z:Nat):Prop:=Cg P Q A/\Cg P Q B/\Cg P Q Y/\Cg P Q Z
noncomputable def Gt (P Q A B Y Z:Nat) (side proof:List Nat):Prop :=
 Fu Q proof/\aC P Q A B Y Z /\
  Nb P Q A B Y Z (Jq P A Y (be (proof.take (Am Q))) (be (proof.drop (Am Q)))) (Jq P B Z (be (proof.take (Am Q))) (be (proof.drop (Am Q)))) side=be (proof.take (Am Q))
theorem Rh {P Q A B Y Z U V:Nat}{side:List Nat}(hQ:0<Q):Nb P Q A B Y Z U V side<Q:=Nat.mod_lt _ hQ
theorem qQ {P Q A B x:Nat}{side:List Nat}(hQ:0<Q):rZ P Q A B x side<Q:=Rh hQ
theorem dE (P Q A B x:Nat)(side:List Nat):(mD P Q A B x side).length=2*Am Q:=by
 unfold mD;rw[List.length_append,Br,Br];omega
theorem iC (P Q A B x:Nat)(side:List Nat):Aw (mD P Q A B x side):=fun y hy=>by
 unfold mD at hy;rcases List.mem_append.1 hy with h|h
 .exact(Fb _ _).reverse y h
 .exact(Fb _ _).reverse y h
theorem aB (P A B:Nat){side:List Nat}(h:Aw side):Aw (Jg P A B side):=fun y hy=>by
 unfold Jg Mh at hy;rcases List.mem_append.1 hy with h1|h1
 .simp only[List.mem_cons,List.not_mem_nil,or_false]at h1;omega
 .rcases List.mem_append.1 h1 with h2|h2
  .exact(Fb _ _).reverse y h2
  .rcases List.mem_append.1 h2 with h3|h3
   .exact(Fb _ _).reverse y h3
   .exact h y h3
theorem mC {P Q A B x y p r c s:Nat}{side:List Nat}(hP:2<=P)(hA:Cg P Q A)(hB:Cg P Q B)(hc:c<Q)(h1:(p+c*x%Q)%Q=s)(h2:(r+c*y%Q)%Q=s)(h3:Nb P Q A B (A^x%P) (B^y%P) (A^p%P) (B^r%P) side=c) :
  Gt P Q A B (A^x%P) (B^y%P) side (Au c (Am Q)++Au s (Am Q)):=by
 have hQ:0<Q:=by omega
 have hs:s<Q:=by rw[<- h1];exact Nat.mod_lt _ hQ
 obtain⟨k1,k2,k3⟩:=qO hc hs;have e1:Jq P A (A^x%P) c s=A^p%P:=by rw[<- h1];exact Yl hP hQ hA.2.2
 have e2:Jq P B (B^y%P) c s=B^r%P:=by rw[<- h2];exact Yl hP hQ hB.2.2
 unfold Gt;rw[k2,k3,e1,e2];exact⟨k1,⟨hA,hB,Ww hP hQ hA.2.2 x,Ww hP hQ hB.2.2 y⟩,h3⟩
theorem oY {P Q A B x:Nat}{side:List Nat}(hP:2<=P)(hQ:0<Q)(hA:Cg P Q A)(hB:Cg P Q B) :
  Gt P Q A B (A^x%P) (B^x%P) side (mD P Q A B x side):=by
 unfold mD;exact mC hP hA hB (qQ hQ) rfl rfl rfl
theorem Ql {w:World}{e N:Nat}{v:Value}(h:Fit e N v w)(he:e<=300000) :
  Calls Tryz.prog 113 #[v] w fun en w'=>∃x,en=.returned x/\Fit e N x w'/\Below w.heap.size w w':=by
 obtain⟨pa,na,ca,rfl,h1,h2⟩:=Av h;have hbx:=eP.mk2 w (.slice pa na ca) (.slice none 0 0);have hz:∀w',Fit 0 0 (.agg #[.slice none 0 0]) w':=fun w'=>Fit.of (Ah.nil w') (by decide)
 have HZ:=Lib.hid hz;clear hz;go_enter Tryz.func113,Tryz.ntmps113
 go_wp2_with fail
 refine(Kb (h.below hbx.bel) (HZ.out _) (by omega) (by omega)).mono ?_;rintro en w1 ⟨x,rfl,hx,hb⟩
 replace hbx:=hbx.later hb
 obtain⟨pc,nc,cc,rfl,y1,_⟩:=hx;have c1:=hbx.b1.cell;have f1:=hbx.b1.free;have z1:=hbx.b1.lt;go_wp2;exact bodyPost_ret (v:=.agg #[.slice pc nc cc]) (by simp[results,Tryz.results113,go_sem,c1]) rfl ⟨_,rfl,Fit.of (y1.store hbx.b1 _) h2,hbx.bel.setCell (by simp) _⟩
def Wp (P Q N:Nat):Bool:=decide (0<N/\N<P/\N^Q%P=1)
theorem Sk {P Q N:Nat}:Wp P Q N=true ↔ Cg P Q N:=decide_eq_true_iff
theorem cE {w:World}{bg P Q G H:Nat}(b:Nat)(e:Nat)(Ns:List Nat)(hb:b<w.heap.size)(hc:w.cell? ⟨b,0,none⟩=some (.pointer (some ⟨bg,0,none⟩)))(hg:Ax w bg P Q G H)(he:e<=30000) :
  Asks 163 #[.pointer (some ⟨b,0,none⟩)] w e Ns (fun N=>!Wp P Q N):=by
 refine⟨fun W N u hbw _ hu=>?_⟩;have hc':W.cell? ⟨b,0,none⟩=some (.pointer (some ⟨bg,0,none⟩)):=(hbw.cell (p:=⟨b,0,none⟩) hb).trans hc;obtain⟨pu,nu,cu,rfl,hu1,hu2⟩:=hu;have hbx:=Dh.mk1 W (.slice pu nu cu) 36;have hbW:b<W.heap.size:=Nat.lt_of_lt_of_le hb hbw.size;have hc2:(W.alloc (.cells #[.slice pu nu cu] 36)).cell? ⟨b,0,none⟩=some (.pointer (some ⟨bg,0,none⟩)):=(hbx.bel.cell (p:=⟨b,0,none⟩) hbW).trans hc';have HA:=Ac ((Fit.of hu1 hu2).below hbx.bel);have HG:=Ac ((hg.below hbw).below hbx.bel);have HBX:=Ac hbx.bel;clear hu1 hu2 hbx hc' hc hg;go_enter Tryz.func163,Tryz.ntmps163
 go_wp2_with fail
 refine(Zr HG.out HA.out he).mono ?_;rintro en w1 ⟨rfl,hb1⟩;obtain⟨X,hX⟩:∃X,decide (0<N/\N<P/\N^Q%P=1)=X:=⟨_,rfl⟩
 have HE:Aa (Wp P Q N=X):=⟨hX⟩
 rw[hX];have HB1:=Ac (Ae HBX.out hb1);clear hb1 hc2 hX;go_wp2;go_ret;exact⟨by rw[HE.out];rfl,HB1.out⟩
theorem Qp (p:Nat->Bool):∀l:List Nat,(!l.any fun x=>!p x)=l.all p
 | []=>rfl
 | a::l=>by
  have:=Qp p l;simp only[List.any_cons,List.all_cons];rw[<- this];cases p a<;>simp
theorem Nh {w:World}{bg P Q G H e n c:Nat}{p:Option Addr}{Ns:List Nat}(hg:Ax w bg P Q G H)(h:Bz w e p n c Ns)(he:e<=30000) :
  Calls Tryz.prog 112 #[.pointer (some ⟨bg,0,none⟩),.slice p n c] w fun en w'=>en=.returned (.bool (Ns.all (Wp P Q)))/\Below w.heap.size w w':=by
 have hbx:=Dh.mk1 w (.pointer (some ⟨bg,0,none⟩)) 25;have HP:=Ac (h.below hbx.bel);have HA:=Ac (cE (w:=w.alloc (.cells #[.pointer (some ⟨bg,0,none⟩)] 25)) w.heap.size e Ns (by simp) hbx.c0 (hg.below hbx.bel) he);have HBX:=Ac hbx.bel;obtain⟨X,hX⟩:∃X,(Ns.any fun N=>!Wp P Q N)=X:=⟨_,rfl⟩
 have HE:Aa (Ns.all (Wp P Q) = !X):=⟨by rw[<- hX,Qp]⟩
 have HX:=Ac hX;clear h hbx hg hX;go_enter Tryz.func112,Tryz.ntmps112
 go_wp2_with fail
 refine(Js _ e p n c Ns _ _ (enters_of Tryz.func163 (by kernel_rfl) rfl) _ HP.out HA.out).mono ?_;rintro en w1 ⟨rfl,hb1⟩;rw[HX.out];have HB1:=Ac (Ae HBX.out hb1);clear hb1;go_wp2;go_ret;exact⟨by rw[HE.out];rfl,HB1.out⟩
theorem Uv {w:World}{g e:Nat}{us:List (Option Addr×Nat×Nat)}{Ns:List Nat}{T:TypeId}{m:Nat×Nat}(h:w.heap[g]? = some (.cells (us.map sv).toArray T m))(ht:Qt w e us Ns)(hn:Ns.length<=1000000):Bz w e (some ⟨g,0,none⟩) Ns.length Ns.length Ns:=by
 refine⟨rfl,Nat.le_refl _,by omega,(fun e=>by cases e),fun _=>⟨g,0,rfl,(Array.getElem?_eq_some_iff.1 h).1,fun i N hN=>?_⟩⟩;obtain⟨x,k1,k2,k3⟩:=ht.at_ i N hN
 exact⟨x.1,x.2.1,x.2.2,by simp[World.cell?,h,k1,sv],k2,k3⟩
def aX (B C n:Nat)(bs:List Nat)(v:Value)(w:World):Prop:=∃p c,v=.slice p n c/\Fm B C w ⟨p,n,c,bs⟩/\(p=none->c=0)
theorem aX.kd {B C n:Nat}{bs:List Nat}{v:Value}{w w':World}(h:aX B C n bs v w)(k:KD B C w w'):aX B C n bs v w':=let ⟨p,c,h1,h2,h3⟩:=h;⟨p,c,h1,h2.kd k,h3⟩
theorem bE (L:List Part):whole L=(L.map (·.bs)).flatten:=by simp[whole,List.flatMap_def]
theorem Xf (P A B:Nat)(side:List Nat):(Jg P A B side).length=4+(Am P+(Am P+side.length)):=by
 unfold Jg Mh;simp[Br];omega
theorem Cs.prt {B C lo n:Nat}{bs:List Nat}{v:Value}{w:World}(h:Cs lo bs v w)(hl:C<=lo)(h8:Aw bs)(hn:bs.length=n):aX B C n bs v w:=by
 subst hn;exact h.elim fun p c hv hr hw hz=>⟨p,c,hv,⟨⟨hr,h8⟩,fun _ q hq=>.inl (Nat.le_trans hl (hw q hq))⟩,hz⟩
theorem aA {w:World}{b P Q G H e A Y:Nat}{v u:Value}{pm:Option Addr}{nm cm:Nat}{msg:List Nat}(hg:Ax w b P Q G H)(hv:Fit e A v w)(hu:Fit e Y u w)(he:e<=30000)(hA:A<P)(hY:Y<P)(hs:Am P<=16)(hm:Ar w ⟨pm,nm,cm,msg⟩)(hz:pm=none->cm=0)(hn:nm<=1000) :
  Calls Tryz.prog 114 #[.pointer (some ⟨b,0,none⟩),v,u,.slice pm nm cm] w fun en w'=>∃p c,en=.returned (.slice p (Jg P A Y msg).length c)/\Ar w' ⟨p,(Jg P A Y msg).length,c,Jg P A Y msg⟩/\Below w.heap.size w w':=by
 obtain⟨pa,na,ca,rfl,h1,h2⟩:=Av hv;obtain⟨py,ny,cy,rfl,k1,k2⟩:=Av hu;have hbx:=eP.mk2 w (.slice pa na ca) (.slice py ny cy);have hsz3:((w.alloc (.cells #[.slice pa na ca] 36)).alloc (.cells #[.slice py ny cy] 36)).heap.size=w.heap.size+1+1:=by simp
 obtain⟨wa,hwa⟩:∃wa,(w.alloc (.cells #[.slice pa na ca] 36)).alloc (.cells #[.slice py ny cy] 36)=wa:=⟨_,rfl⟩
 rw[hwa]at hbx hsz3
 have HBL:=Ac hbx.bel;have HX0:=Ac hbx.b0;have HX1:=Ac hbx.b1;have HA:=Ac ((Fit.of h1 h2).below hbx.bel);have HY:=Ac ((Fit.of k1 k2).below hbx.bel);have HG:Aa (∀w',Ap (w.heap.size+1+1) wa w'->Ax w' b P Q G H):=⟨fun w' k=>(Kg.of hg (Nat.le_refl _) HBL.out).keep ⟨k.bel.mono (by omega),k.nat⟩⟩
 have HM:Aa (Fm (w.heap.size+1+1) (w.heap.size+1+1) wa ⟨pm,nm,cm,msg⟩):=⟨Fm.old hm (by omega) hbx.bel⟩
 have HZM:=Ac hz;have HSB:Aa (∀ {w':World},KD (w.heap.size+1+1) (w.heap.size+1+1) wa w'->w.heap.size+1+1<=w'.heap.size):=⟨fun hk=>by have:=hk.k.bel.size;omega⟩
 have HSC:=HSB;have HM8:Aa (Aw (Jg P A Y msg)):=⟨aB P A Y hm.bytes⟩
 have hlen:=Xf P A Y msg;have hml:nm=msg.length:=hm.row.len;obtain⟨sz,hsz⟩:∃s,Am P=s:=⟨_,rfl⟩
 have hmm:[Mh,Au A sz,Au Y sz,msg].flatten=Jg P A Y msg:=by subst hsz;unfold Jg;simp
 rw[hsz]at hs hlen
 obtain⟨MM,hMM⟩:∃M,Jg P A Y msg=M:=⟨_,rfl⟩
 rw[hMM]at hlen HM8 hmm ⊢
 obtain⟨LL,hLL⟩:∃L,MM.length=L:=⟨_,rfl⟩
 have HLL:=Ac hLL;have HMM:=Ac hmm;have HLb:Aa (LL<=100000):=⟨by omega⟩
 have HSZ:=Ac hsz;have HSs:=Ac hs;have HAP:=Ac hA;have HYP:=Ac hY;rw[hLL];clear h1 h2 k1 k2 hbx hg hv hu hm hsz hA hY hlen hml hmm hMM hLL hz;go_enter Tryz.func114,Tryz.ntmps114;go_wp2;refine Ai (by kernel_rfl) (by kernel_rfl)
  [none,none,some (.pointer (some ⟨b,0,none⟩)),some (.agg #[.slice pa na ca]),none,some (.pointer (some ⟨b,0,none⟩)),some (.agg #[.slice py ny cy]),none,some (.slice pm nm cm),none,none,none]
  [true,true,false,false,true,false,false,true,false,true,true,true] rfl
  (fun w1 w2=>KD (w.heap.size+1+1) (w.heap.size+1+1) w1 w2)
  (fun D w'=>KD (w.heap.size+1+1) (w.heap.size+1+1) wa w'/\True)
  (fun i v w'=>match i with
   | 0=>aY (w.heap.size+1+1) (w.heap.size+1+1) 4 Mh v w'
   | 1=>aY (w.heap.size+1+1) (w.heap.size+1+1) 4 Mh v w'
   | 4=>nM (w.heap.size+1+1) (w.heap.size+1+1) sz (Au A sz) v w'
   | 7=>nM (w.heap.size+1+1) (w.heap.size+1+1) sz (Au Y sz) v w'
   | 9=>dU (w.heap.size+1+1) (w.heap.size+1+1) 4 (pm=none->cm=0) [Mh,Au A sz,Au Y sz,msg] v w'
   | 10=>aX (w.heap.size+1+1) (w.heap.size+1+1) LL MM v w'
   | 11=>aX (w.heap.size+1+1) (w.heap.size+1+1) LL MM v w'
   | _=>True)
  ?_ ⟨KD.drew _ _ _,trivial⟩ ?_ ?_
 .intro i v w1 w2 hf hb;split at hf
  .exact hf.kd hb
  .exact hf.kd hb
  .exact hf.kd hb
  .exact hf.kd hb
  .exact hf.kd hb
  .exact hf.kd hb
  .exact hf.kd hb
  .trivial
 .simp only[Ba,Nat.reduceAdd];refine⟨?_,?_,?_,?_,?_,?_,?_,?_,?_,?_,?_,?_,trivial⟩
  all_goals intro D sp w' hD hW hdp hbx'
  case refine_1 =>
   (with_reducible refine Ag (w1:=w'.alloc (.cells #[.int .u8 100,.int .u8 108,.int .u8 101,.int .u8 113] 5)) (v:=.slice (some ⟨w'.heap.size,0,none⟩) 4 4) ?_ ?_ ?_)
   .simp only[Region.wanted]
   .simp[execOp,Act.eval,go_sem]
   .have hb:Below w'.heap.size w' (w'.alloc (.cells #[.int .u8 100,.int .u8 108,.int .u8 101,.int .u8 113] 5)):=Bt;exact⟨KD.of hb (HSB.out hbx'.1),aY.made w' Mh (by decide) (HSC.out hbx'.1) (HSB.out hbx'.1) (by decide),⟨hbx'.1.trans (KD.of hb (HSB.out hbx'.1)),trivial⟩⟩
  case refine_2 =>
   have hx1:∃g,sp 0=.slice (some ⟨g,0,none⟩) 4 4/\w'.shape? g=some (5,4)/\Fm (w.heap.size+1+1) (w.heap.size+1+1) w' ⟨some ⟨g,0,none⟩,4,4,Mh⟩/\(w.heap.size+1+1)<=g/\(w.heap.size+1+1)<=g:=(hdp 0 (mq (by kernel_rfl))).2
   (with_reducible refine Exists.elim hx1 fun g e10=>?_)
   have h1:=e10.1;have h7:=run_mark (w:=w') (n:=4) (c:=4) e10.2.1
   (with_reducible refine Ag (w1:=w'.freeze ⟨g,4,none⟩ 1) (v:=.slice (some ⟨g,0,none⟩) 4 4) ?_ ?_ ?_)
   .simp only[Region.wanted]
   .simp[execOp,Act.eval,Act.put,go_sem,h1,h7]
   .have hkc:=KD.mark (w:=w') (g:=g) (B:=(w.heap.size+1+1)) (C:=(w.heap.size+1+1)) 4 e10.2.2.2.2;exact⟨hkc,⟨g,rfl,hkc.shape _ _ e10.2.2.2.1 e10.2.1,e10.2.2.1.kd hkc,e10.2.2.2⟩,⟨hbx'.1.trans hkc,trivial⟩⟩
  case refine_4 =>
   have c0:=(HX0.out.below hbx'.1.k.bel (by omega)).cell
   with_reducible refine Ad ?_ ?_
   all_goals simp[Region.wanted,yielded,execOp,Act.eval,Act.put,go_sem,c0]
  case refine_5 =>
   (with_reducible refine Ab (w1:=w') (f := 148) (args:=#[.pointer (some ⟨b,0,none⟩),.agg #[.slice pa na ca]]) ?_ ?_ ?_)
   .simp[Region.wanted,yielded,Act.put,go_sem]
   .simp[Act.eval,Act.put,go_sem]
   .refine(Mv (HG.out w' hbx'.1.k) (HA.out.keep hbx'.1.k) he HAP.out HSZ.out HSs.out).mono ?_;rintro en w9 ⟨g9,rfl,hg9,hu,hb⟩;exact⟨_,rfl,KD.of hb (HSB.out hbx'.1),⟨g9,rfl,⟨Ji hu (by omega),fun _ q hq=>by cases hq;exact .inl (Nat.le_trans (HSC.out hbx'.1) hg9)⟩⟩,⟨hbx'.1.trans (KD.of hb (HSB.out hbx'.1)),trivial⟩⟩
  case refine_7 =>
   have c0:=(HX1.out.below hbx'.1.k.bel (by omega)).cell
   with_reducible refine Ad ?_ ?_
   all_goals simp[Region.wanted,yielded,execOp,Act.eval,Act.put,go_sem,c0]
  case refine_8 =>
   (with_reducible refine Ab (w1:=w') (f := 148) (args:=#[.pointer (some ⟨b,0,none⟩),.agg #[.slice py ny cy]]) ?_ ?_ ?_)
   .simp[Region.wanted,yielded,Act.put,go_sem]
   .simp[Act.eval,Act.put,go_sem]
   .refine(Mv (HG.out w' hbx'.1.k) (HY.out.keep hbx'.1.k) he HYP.out HSZ.out HSs.out).mono ?_;rintro en w9 ⟨g9,rfl,hg9,hu,hb⟩;exact⟨_,rfl,KD.of hb (HSB.out hbx'.1),⟨g9,rfl,⟨Ji hu (by omega),fun _ q hq=>by cases hq;exact .inl (Nat.le_trans (HSC.out hbx'.1) hg9)⟩⟩,⟨hbx'.1.trans (KD.of hb (HSB.out hbx'.1)),trivial⟩⟩
  case refine_10 =>
   have hx1:∃g,sp 1=.slice (some ⟨g,0,none⟩) 4 4/\w'.shape? g=some (5,4)/\Fm (w.heap.size+1+1) (w.heap.size+1+1) w' ⟨some ⟨g,0,none⟩,4,4,Mh⟩/\(w.heap.size+1+1)<=g/\(w.heap.size+1+1)<=g:=(hdp 1 (mq (by kernel_rfl))).2
   (with_reducible refine Exists.elim hx1 fun g e10=>?_)
   have hx4:∃g,sp 4=.slice (some ⟨g,0,none⟩) sz sz/\Fm (w.heap.size+1+1) (w.heap.size+1+1) w' ⟨some ⟨g,0,none⟩,sz,sz,Au A sz⟩:=(hdp 4 (mq (by kernel_rfl))).2
   (with_reducible refine Exists.elim hx4 fun ga e40=>?_)
   have hx7:∃g,sp 7=.slice (some ⟨g,0,none⟩) sz sz/\Fm (w.heap.size+1+1) (w.heap.size+1+1) w' ⟨some ⟨g,0,none⟩,sz,sz,Au Y sz⟩:=(hdp 7 (mq (by kernel_rfl))).2
   (with_reducible refine Exists.elim hx7 fun gy e70=>?_)
   have ea:=e10.1;have eb:=e40.1;have ec:=e70.1
   (with_reducible refine Ag (w1:=w'.alloc (.cells #[.slice (some ⟨g,0,none⟩) 4 4,.slice (some ⟨ga,0,none⟩) sz sz,.slice (some ⟨gy,0,none⟩) sz sz,.slice pm nm cm] 60)) (v:=.slice (some ⟨w'.heap.size,0,none⟩) 4 4) ?_ ?_ ?_)
   .simp only[Region.wanted]
   .simp[execOp,Act.eval,Act.put,go_sem,ea,eb,ec]
   .have hb:Below w'.heap.size w' (w'.alloc (.cells #[.slice (some ⟨g,0,none⟩) 4 4,.slice (some ⟨ga,0,none⟩) sz sz,.slice (some ⟨gy,0,none⟩) sz sz,.slice pm nm cm] 60)):=Bt;exact⟨KD.of hb (HSB.out hbx'.1),dU.four w' ⟨some ⟨g,0,none⟩,4,4,Mh⟩ ⟨some ⟨ga,0,none⟩,sz,sz,Au A sz⟩ ⟨some ⟨gy,0,none⟩,sz,sz,Au Y sz⟩ ⟨pm,nm,cm,msg⟩ e10.2.2.1 e40.2 e70.2 (HM.out.kd hbx'.1) (fun h=>by cases h) (fun h=>by cases h) (fun h=>by cases h) (fun h=>h) (HSC.out hbx'.1) (HSB.out hbx'.1),⟨hbx'.1.trans (KD.of hb (HSB.out hbx'.1)),trivial⟩⟩
  case refine_11 =>
   have hx9:∃(q:Nat) (L:List Part),sp 9=.slice (some ⟨q,0,none⟩) 4 4/\Bp w' (some ⟨q,0,none⟩) 4 4 L/\(∀P∈L,Fm (w.heap.size+1+1) (w.heap.size+1+1) w' P)/\(w.heap.size+1+1)<=q/\((pm=none->cm=0)->Iv L)/\L.map (·.bs)=[Mh,Au A sz,Au Y sz,msg]:=(hdp 9 (mq (by kernel_rfl))).2
   (with_reducible refine Exists.elim hx9 fun q e90=>Exists.elim e90 fun L e91=>?_)
   have h1:=e91.1;have hw:whole L=MM:=by rw[bE,e91.2.2.2.2.2];exact HMM.out
   (with_reducible refine Ab (w1:=w') (f := 164) (args:=#[.slice (some ⟨q,0,none⟩) 4 4]) ?_ ?_ ?_)
   .simp only[Region.wanted]
   .simp[Act.eval,Act.put,go_sem,h1]
   .refine(Ue w' _ 4 4 L e91.2.1 (e91.2.2.2.2.1 HZM.out) (by rw[hw,HLL.out];exact HLb.out)).mono ?_;rintro en w9 ⟨u,rfl,hu,hb⟩;rw[hw]at hu
    exact⟨u,rfl,KD.of hb (HSB.out hbx'.1),hu.prt (HSC.out hbx'.1) HM8.out HLL.out,⟨hbx'.1.trans (KD.of hb (HSB.out hbx'.1)),trivial⟩⟩
  case refine_12 =>
   have k10:aX (w.heap.size+1+1) (w.heap.size+1+1) LL MM (sp 10) w':=(hdp 10 (mq (by kernel_rfl))).2
   (with_reducible refine Ag (w1:=w') (v:=sp 10) ?_ ?_ ?_)
   .simp[Region.wanted,yielded,Act.put,go_sem]
   .simp[execOp,Act.eval,Act.put,go_sem]
   .exact⟨KD.same _ _ _,k10,hbx'⟩
  all_goals ((with_reducible refine Ad ?_ ?_);all_goals first|(simp only[Region.wanted];done)|simp[Region.wanted,yielded,execOp,Act.eval,Act.put,go_sem])
 .intro sp w8 hsp hk;obtain⟨pz,cz,ez,hz,_⟩:aX (w.heap.size+1+1) (w.heap.size+1+1) LL MM (sp 11) w8:=hsp 11 rfl;have HZ:=Ac hz.ok;have HB7:Aa (Below w.heap.size w w8):=⟨HBL.out.trans (hk.1.k.bel.mono (by omega))⟩
  clear hsp hk hz;simp only[An,Nat.reduceAdd];rw[ez];clear ez;generalize sp 0=y0,sp 1=y1,sp 4=y4,sp 7=y7,sp 9=y9,sp 10=y10 at *
  go_simp
  go_wp2;go_ret;exact⟨pz,cz,rfl,HZ.out,HB7.out⟩
end Go.Proofs.YthgoeiegdhphjaaGreatDoor
