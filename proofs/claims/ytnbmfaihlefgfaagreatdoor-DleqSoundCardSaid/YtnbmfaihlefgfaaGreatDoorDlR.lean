/- The document's challenge of a claim (ref12.Answer). -/
import Derived.Test.YtnbmfaihlefgfaaGreatDoorSdA
set_option maxRecDepth 1000000
set_option maxHeartbeats 16000000
set_option linter.all false
namespace Go.Proofs.YtnbmfaihlefgfaaGreatDoor
open Go Go.RowKit Go.Proofs.YtnbmfaihlefgfaaGreatDoor.Flow
structure KT (T:TypeId) (B:Nat) (w w':World):Prop where
 k:Ao B w w'
 blk:∀(g:Nat) (vs:Array Value) (U:TypeId) (m:Nat×Nat),w.heap[g]? = some (.cells vs U m)->(U≠T ∨ ∃(j:Nat) (u:Value),vs[j]? = some u/\∀q k d,u≠Value.slice q k d)->w'.heap[g]? = some (.cells vs U m)
theorem KT.of {T:TypeId}{B:Nat}{w w':World}(h:Below w.heap.size w w')(hB:B<=w.heap.size):KT T B w w' :=
 ⟨Ao.of h hB,fun g _ _ _ ho _=>by rw[h.block g (Gn ho).1];exact ho⟩
theorem KT.same (T:TypeId)(B:Nat)(w:World):KT T B w w:=⟨Ao.same _ _,fun _ _ _ _ h _=>h⟩
theorem Fit.kt {T:TypeId}{e N B:Nat}{v:Value}{w w':World}(h:Fit e N v w)(k:KT T B w w'):Fit e N v w':=h.keep k.k
theorem KT.trans {T:TypeId}{B:Nat}{w1 w2 w3:World}(h:KT T B w1 w2)(k:KT T B w2 w3):KT T B w1 w3:=⟨h.k.trans k.k,fun _ _ _ _ ho hU=>k.blk _ _ _ _ (h.blk _ _ _ _ ho hU) hU⟩
theorem KT.drew (T:TypeId)(B:Nat)(w:World):KT T B w w.drew:=⟨Ao.drew _ _,fun _ _ _ _ h _=>h⟩
theorem Ring.kt {T:TypeId}{B r M f:Nat}{w w':World}(h:Ring w r M f)(k:KT T B w w')(hT : 143 ≠ T):Ring w' r M f:=by
 obtain⟨p,n,c,h1,h2,h3⟩:=h.at_.ex
 exact⟨⟨p,n,c,k.blk _ _ _ _ h1 (.inl hT),k.k.nat _ _ _ _ h2,h3⟩,h.two,h.lim,h.few⟩
theorem Aj.off {w w':World}{p:Option Addr}{n c N b:Nat}{vs:Array Value}{T:TypeId}{m:Nat×Nat}(h:Aj w p n c N)(hb:w.heap[b]? = some (.cells vs T m))(hs:∀(j:Nat) (u:Value),vs[j]? = some u->∃q k d,u=.slice q k d)(hz:w.heap.size<=w'.heap.size)(ho:∀g,g≠b->w'.heap[g]? = w.heap[g]?):Aj w' p n c N:=by
 rcases Nat.eq_zero_or_pos n with rfl|h0
 .obtain⟨ws,r1,r2,r3,r4⟩:=h.ex;refine⟨ws,⟨r1.len,r1.cap,r1.max,?_⟩,r2,r3,r4⟩;rcases r1.at_ with k|⟨g,off,k1,k2,k3⟩
  .exact .inl k
  .refine .inr ⟨g,off,k1,De k2 hz,fun i x hx=>?_⟩;have:ws=[]:=List.eq_nil_of_length_eq_zero r1.len.symm;rw[this]at hx;cases hx
 .refine Hp.stay h hz fun q hq o=>World.cell?_of_block (a:=⟨q.block,o,none⟩) (ho q.block fun e=>?_)
  obtain⟨ws,r1,r2,r3,r4⟩:=h.ex;obtain⟨b',off,k1,k2,k3⟩:=r1.pos h0;rw[k1]at hq;cases hq
  have hbb:b'=b:=e;subst hbb;have h1:=k3 0 (ws.getD 0 0) (by rw[Ed];simp[show 0<ws.length by rw[<-r1.len];exact h0]);rw[Nat.add_zero]at h1
  simp only[World.cell?,hb]at h1;obtain⟨q,k,d,hu⟩:=hs _ _ h1;cases hu
theorem Bi.kt {T:TypeId}{B n c:Nat}{p:Option Addr}{xs:List Nat}{k:IntKind}{w w':World}(h:Bi w k p n c xs)(hk:KT T B w w'):Bi w' k p n c xs:=by
 refine⟨h.len,h.cap,h.max,fun h0=>?_⟩;obtain⟨k1,k2,k3,k4⟩:=h.row h0;refine⟨k1,k2,k3,?_⟩;rcases k4 with e|⟨b,off,h1,h2,h3⟩
 .exact .inl e
 .refine .inr ⟨b,off,h1,De h2 hk.k.bel.size,fun i x hx=>?_⟩;have hc:=h3 i x hx;have hblk:w'.heap[b]? = w.heap[b]? := by
   unfold World.cell? at hc
   dsimp only at hc
   cases ho:w.heap[b]? with
   | none=>rw[ho]at hc;cases hc
   | some o=>
    rw[ho]at hc
    cases o with
    | cells vs U m=>exact hk.blk b vs U m ho (.inr ⟨_,_,hc,fun _ _ _ e=>by cases e⟩)
    | _=>cases hc
  rw[World.cell?_of_block (a:=⟨b,off+i,none⟩) hblk];exact hc
theorem Ci.kt {T:TypeId}{B lo:Nat}{bs:List Nat}{v:Value}{w w':World}(h:Ci lo bs v w)(hk:KT T B w w'):Ci lo bs v w':=by
 cases h with
 | of p c _ h hn hz hp=>exact .of p c w' (h.kt hk) hn hz (fun q hq=>De (hp q hq) hk.k.bel.size)
def set2 (w:World)(b:Nat)(u0 u1:Value):World:=(w.setCell ⟨b,0,none⟩ u0).setCell ⟨b,1,none⟩ u1
def Ra (w:World)(b:Nat)(u0 u1 u2 u3:Value):World:=(((w.setCell ⟨b,0,none⟩ u0).setCell ⟨b,1,none⟩ u1).setCell ⟨b,2,none⟩ u2).setCell ⟨b,3,none⟩ u3
structure Pw (w:World) (b:Nat) (o:Obj) (w':World):Prop where
 new:w'.heap[b]? = some o
 old:∀g,g≠b->w'.heap[g]? = w.heap[g]?
 size:w'.heap.size=w.heap.size
 bel:∀B,B<=b->Below B w w'
theorem put2 {w:World}{b:Nat}{v0 v1 u0 u1:Value}{T:TypeId}(h:w.heap[b]? = some (.cells #[v0,v1] T (0,0))):Pw w b (.cells #[u0,u1] T (0,0)) (set2 w b u0 u1) :=
 ⟨by simp[set2,World.setCell,Array.getElem?_modify,h],fun g hg=>by simp[set2,World.setCell,Array.getElem?_modify,hg.symm],by simp[set2],fun B hB=>(((Bd _ _).setCell hB _).setCell hB _)⟩
theorem put4 {w:World}{b:Nat}{v0 v1 v2 v3 u0 u1 u2 u3:Value}{T:TypeId}(h:w.heap[b]? = some (.cells #[v0,v1,v2,v3] T (0,0))):Pw w b (.cells #[u0,u1,u2,u3] T (0,0)) (Ra w b u0 u1 u2 u3) :=
 ⟨by simp[Ra,World.setCell,Array.getElem?_modify,h],fun g hg=>by simp[Ra,World.setCell,Array.getElem?_modify,hg.symm],by simp[Ra],fun B hB=>(((((Bd _ _).setCell hB _).setCell hB _).setCell hB _).setCell hB _)⟩
theorem Pw.keep {w w':World}{b B:Nat}{o:Obj}{vs:Array Value}{T:TypeId}{m:Nat×Nat}(h:Pw w b o w')(hb:w.heap[b]? = some (.cells vs T m))(hs:∀(j:Nat) (u:Value),vs[j]? = some u->∃q k d,u=.slice q k d)(hB:B<=b):Ao B w w' :=
 ⟨h.bel B hB,fun _ _ _ _ k=>k.off hb hs (Nat.le_of_eq h.size.symm) h.old⟩
theorem Pw.kt {w w':World}{b B:Nat}{o:Obj}{vs:Array Value}{T:TypeId}{m:Nat×Nat}(h:Pw w b o w')(hb:w.heap[b]? = some (.cells vs T m))(hs:∀(j:Nat) (u:Value),vs[j]? = some u->∃q k d,u=.slice q k d)(hB:B<=b):KT T B w w' :=
 ⟨h.keep hb hs hB,fun g us U k ho hU=>by
  have:g≠b:=fun e=>by
   subst e;rw[hb]at ho
   cases ho;rcases hU with hU|⟨j,u,hj,hu⟩
   .exact hU rfl
   .obtain⟨_,_,_,hx⟩:=hs _ _ hj;exact hu _ _ _ hx
  rw[h.old g this];exact ho⟩
theorem RG.putO {B:Nat}{wx:World}{l:List (Nat×Obj)}{w w':World}{b:Nat}{o:Obj}{vs:Array Value}{T:TypeId}{m:Nat×Nat}(h:RG B wx l w)(p:Pw w b o w')(hb:w.heap[b]? = some (.cells vs T m))(hs:∀(j:Nat) (u:Value),vs[j]? = some u->∃q k d,u=.slice q k d)(hB:B<=b)(hn:∀x∈l,x.1≠b):RG B wx l w' :=
 ⟨h.keep.trans (p.keep hb hs hB),by rw[p.size];exact h.base,fun x hx=>by rw[p.old x.1 (hn x hx)];exact h.blk x hx⟩
theorem nL (x y:Option Addr×Nat×Nat):∀(j:Nat) (u:Value),(#[Value.slice x.1 x.2.1 x.2.2,.slice y.1 y.2.1 y.2.2]:Array Value)[j]? = some u->∃q k d,u=.slice q k d
 | 0,u,h=>by cases h;exact⟨_,_,_,rfl⟩
 | 1,u,h=>by cases h;exact⟨_,_,_,rfl⟩
 | j+2,u,h=>by simp at h
theorem Rg (x y z t:Option Addr×Nat×Nat):∀(j:Nat) (u:Value),(#[Value.slice x.1 x.2.1 x.2.2,.slice y.1 y.2.1 y.2.2,.slice z.1 z.2.1 z.2.2,.slice t.1 t.2.1 t.2.2]:Array Value)[j]? = some u->∃q k d,u=.slice q k d
 | 0,u,h=>by cases h;exact⟨_,_,_,rfl⟩
 | 1,u,h=>by cases h;exact⟨_,_,_,rfl⟩
 | 2,u,h=>by cases h;exact⟨_,_,_,rfl⟩
 | 3,u,h=>by cases h;exact⟨_,_,_,rfl⟩
 | j+4,u,h=>by simp at h
def Th (f:Bool)(b:Nat)(z:Obj)(F:Obj->World->Prop)(w:World):Prop:=(f=false->w.heap[b]? = some z)/\(f=true->∃o,w.heap[b]? = some o/\F o w)
theorem Th.later {f:Bool}{b:Nat}{z:Obj}{F:Obj->World->Prop}{w w':World}(h:Th f b z F w)(hb:Below w.heap.size w w')(hF:∀o,F o w->F o w'):Th f b z F w' :=
 ⟨fun e=>by have:=h.1 e;rw[hb.block b (Gn this).1];exact this,fun e=>by
  obtain⟨o,h1,h2⟩:=h.2 e;exact⟨o,by rw[hb.block b (Gn h1).1];exact h1,hF o h2⟩⟩
theorem Th.start {b:Nat}{z:Obj}{F:Obj->World->Prop}{w:World}(h:w.heap[b]? = some z):Th false b z F w:=⟨fun _=>h,fun e=>by cases e⟩
theorem Th.done {b:Nat}{z o:Obj}{F:Obj->World->Prop}{w:World}(h:w.heap[b]? = some o)(hF:F o w):Th true b z F w:=⟨(fun e=>by cases e),fun _=>⟨o,h,hF⟩⟩
def Yb (d f:Bool)(v:Value)(B:Nat)(z:Obj)(F:Obj->World->Prop)(w:World):Prop:=B<=w.heap.size/\(d=true->∃b,v=.pointer (some ⟨b,0,none⟩)/\B<=b/\Th f b z F w)
theorem Yb.start {v:Value}{B:Nat}{z:Obj}{F:Obj->World->Prop}{w:World}(h:B<=w.heap.size):Yb false false v B z F w:=⟨h,fun e=>by cases e⟩
theorem Yb.later {d f:Bool}{v:Value}{B:Nat}{z:Obj}{F:Obj->World->Prop}{w w':World}(h:Yb d f v B z F w)(hb:Below w.heap.size w w')(hF:∀o,F o w->F o w'):Yb d f v B z F w' :=
 ⟨Ec h.1 hb.size,fun e=>let ⟨b,h1,h2,h3⟩:=h.2 e;⟨b,h1,h2,h3.later hb hF⟩⟩
theorem Yb.made {v:Value}{B:Nat}{vs:Array Value}{T:TypeId}{F:Obj->World->Prop}{w:World}(h:Yb false false v B (.cells vs T (0,0)) F w):Yb true false (.pointer (some ⟨w.heap.size,0,none⟩)) B (.cells vs T (0,0)) F (w.alloc (.cells vs T)) :=
 ⟨by simp;have:=h.1;omega,fun _=>⟨_,rfl,h.1,Th.start (heap_alloc_new w _)⟩⟩
def AtC (A B Y Z:Nat)(a b y z:Option Addr×Nat×Nat)(w:World):Prop:=Dh w a A/\Dh w b B/\Dh w y Y/\Dh w z Z
theorem AtC.below {A B Y Z:Nat}{a b y z:Option Addr×Nat×Nat}{w w':World}(h:AtC A B Y Z a b y z w)(hb:Below w.heap.size w w'):AtC A B Y Z a b y z w':=⟨h.1.below hb,h.2.1.below hb,h.2.2.1.below hb,h.2.2.2.below hb⟩
theorem AtC.keep {A B Y Z C:Nat}{a b y z:Option Addr×Nat×Nat}{w w':World}(h:AtC A B Y Z a b y z w)(k:Ao C w w'):AtC A B Y Z a b y z w':=⟨k.nat _ _ _ _ h.1,k.nat _ _ _ _ h.2.1,k.nat _ _ _ _ h.2.2.1,k.nat _ _ _ _ h.2.2.2⟩
theorem AtC.kt {T:TypeId}{A B Y Z C:Nat}{a b y z:Option Addr×Nat×Nat}{w w':World}(h:AtC A B Y Z a b y z w)(k:KT T C w w'):AtC A B Y Z a b y z w':=h.keep k.k
def nB (A B Y Z:Nat)(v:Value)(w:World):Prop:=∃xa xb xy xz:Option Addr×Nat×Nat,v=.agg #[.slice xa.1 xa.2.1 xa.2.2,.slice xb.1 xb.2.1 xb.2.2,.slice xy.1 xy.2.1 xy.2.2,.slice xz.1 xz.2.1 xz.2.2]/\AtC A B Y Z xa xb xy xz w
theorem nB.below {A B Y Z:Nat}{v:Value}{w w':World}(h:nB A B Y Z v w)(hb:Below w.heap.size w w'):nB A B Y Z v w' :=
 let ⟨a,b,y,z,h1,h2⟩:=h
 ⟨a,b,y,z,h1,h2.below hb⟩
theorem nB.kt {T:TypeId}{A B Y Z C:Nat}{v:Value}{w w':World}(h:nB A B Y Z v w)(k:KT T C w w'):nB A B Y Z v w' :=
 let ⟨a,b,y,z,h1,h2⟩:=h
 ⟨a,b,y,z,h1,h2.kt k⟩
def pB (T:TypeId)(A B Y Z:Nat)(o:Obj)(w:World):Prop:=∃xa xb xy xz:Option Addr×Nat×Nat,o=.cells #[.slice xa.1 xa.2.1 xa.2.2,.slice xb.1 xb.2.1 xb.2.2,.slice xy.1 xy.2.1 xy.2.2,.slice xz.1 xz.2.1 xz.2.2] T (0,0)/\AtC A B Y Z xa xb xy xz w
theorem pB.below {T:TypeId}{A B Y Z:Nat}{o:Obj}{w w':World}(hb:Below w.heap.size w w')(h:pB T A B Y Z o w):pB T A B Y Z o w' :=
 let ⟨a,b,y,z,h1,h2⟩:=h
 ⟨a,b,y,z,h1,h2.below hb⟩
def z4 (T:TypeId):Obj:=.cells #[.slice none 0 0,.slice none 0 0,.slice none 0 0,.slice none 0 0] T (0,0)
theorem cells4 {w:World}{b:Nat}{v0 v1 v2 v3:Value}{T:TypeId}(h:w.heap[b]? = some (.cells #[v0,v1,v2,v3] T (0,0))) :
  (w.cell? ⟨b,0,none⟩=some v0/\w.cell? ⟨b,1,none⟩=some v1/\w.cell? ⟨b,2,none⟩=some v2/\w.cell? ⟨b,3,none⟩=some v3)/\w.frozen? ⟨b,0,none⟩=false/\w.frozen? ⟨b,1,none⟩=false/\w.frozen? ⟨b,2,none⟩=false/\w.frozen? ⟨b,3,none⟩=false:=by
 simp[World.cell?,World.frozen?,h]
def Pv (C S:Nat)(v:Value)(w:World):Prop:=∃x y:Option Addr×Nat×Nat,v=.agg #[.slice x.1 x.2.1 x.2.2,.slice y.1 y.2.1 y.2.2]/\Dh w x C/\Dh w y S
theorem Pv.below {C S:Nat}{v:Value}{w w':World}(h:Pv C S v w)(hb:Below w.heap.size w w'):Pv C S v w' :=
 let ⟨x,y,h1,h2,h3⟩:=h
 ⟨x,y,h1,h2.below hb,h3.below hb⟩
theorem Pv.keep {B C S:Nat}{v:Value}{w w':World}(h:Pv C S v w)(k:Ao B w w'):Pv C S v w' :=
 let ⟨x,y,h1,h2,h3⟩:=h
 ⟨x,y,h1,k.nat _ _ _ _ h2,k.nat _ _ _ _ h3⟩
theorem Pv.kt {T:TypeId}{B C S:Nat}{v:Value}{w w':World}(h:Pv C S v w)(k:KT T B w w'):Pv C S v w':=h.keep k.k
def rG (C S:Nat)(o:Obj)(w:World):Prop:=∃x y:Option Addr×Nat×Nat,o=.cells #[.slice x.1 x.2.1 x.2.2,.slice y.1 y.2.1 y.2.2] 153 (0,0)/\Dh w x C/\Dh w y S
theorem rG.below {C S:Nat}{o:Obj}{w w':World}(hb:Below w.heap.size w w')(h:rG C S o w):rG C S o w' :=
 let ⟨x,y,h1,h2,h3⟩:=h
 ⟨x,y,h1,h2.below hb,h3.below hb⟩
def zP:Obj:=.cells #[.slice none 0 0,.slice none 0 0] 153 (0,0)
theorem cells2 {w:World}{b:Nat}{v0 v1:Value}{T:TypeId}(h:w.heap[b]? = some (.cells #[v0,v1] T (0,0))):(w.cell? ⟨b,0,none⟩=some v0/\w.cell? ⟨b,1,none⟩=some v1)/\w.frozen? ⟨b,0,none⟩=false/\w.frozen? ⟨b,1,none⟩=false :=
 ⟨⟨by simp[World.cell?,h],by simp[World.cell?,h]⟩,by simp[World.frozen?,h],by simp[World.frozen?,h]⟩
theorem Xs {w:World}{b P Q G H ek ec ex K C X:Nat}{vk vc vx:Value}(hg:Bb w b P Q G H)(hk:Fit ek K vk w)(hc:Fit ec C vc w)(hx:Fit ex X vx w)(hek:ek<=33)(hec:ec<=33)(hex:ex<=30000) :
  Calls Tryz.prog 108 #[.pointer (some ⟨b,0,none⟩),vk,vc,vx] w fun en w'=>∃x,en=.returned x/\Pv C ((K+C*X%Q)%Q) x w'/\Below w.heap.size w w':=by
 obtain⟨pk,nk,ck,rfl,h1,h2⟩:=Aw hk;obtain⟨pc,nc,cc,rfl,h3,h4⟩:=Aw hc;obtain⟨px,nx,cx,rfl,h5,h6⟩:=Aw hx;have hbx:=Vr.mk3 w (.slice pk nk ck) (.slice pc nc cc) (.slice px nx cx);have hz3:(((w.alloc (.cells #[.slice pk nk ck] 36)).alloc (.cells #[.slice pc nc cc] 36)).alloc (.cells #[.slice px nx cx] 36)).heap.size=w.heap.size+1+1+1:=by simp
 obtain⟨w0,hw0⟩:∃wa,((w.alloc (.cells #[.slice pk nk ck] 36)).alloc (.cells #[.slice pc nc cc] 36)).alloc (.cells #[.slice px nx cx] 36)=wa:=⟨_,rfl⟩
 rw[hw0]at hbx hz3
 have hb0:Below w0.heap.size w0 (w0.alloc (.cells #[.slice none 0 0,.slice none 0 0] 153)):=By;have hz0:(w0.alloc (.cells #[.slice none 0 0,.slice none 0 0] 153)).heap[w0.heap.size]? = some zP:=heap_alloc_new w0 _;obtain⟨wa,hwa⟩:∃wa,w0.alloc (.cells #[.slice none 0 0,.slice none 0 0] 153)=wa:=⟨_,rfl⟩
 rw[hwa]at hb0 hz0
 rw[hz3]at hz0
 have hbel:=Ae hbx.bel hb0;have HXK0:=Aa (hbx.b0.below hb0 hbx.b0.lt);have HXC0:=Aa (hbx.b1.below hb0 hbx.b1.lt);have HXX0:=Aa (hbx.b2.below hb0 hbx.b2.lt);have HBL:=Aa hbel;have HZ0:=Aa hz0;have HK0:=Aa ((Fit.of h1 h2).below hbel);have HC0:=Aa ((Fit.of h3 h4).below hbel);have HX0:=Aa ((Fit.of h5 h6).below hbel);have HG:=Aa (hg.below hbel);have hQ2:=hg.lims.2.2;have HWS:Ad (w.heap.size+1+1+1<wa.heap.size):=⟨(Gn hz0).1⟩
 obtain⟨MM,hMM⟩:∃M,C*X%Q=M:=⟨_,rfl⟩
 obtain⟨SS,hSS⟩:∃S,(K+MM)%Q=S:=⟨_,rfl⟩
 have HMM:=Aa hMM;have HSS:=Aa hSS;obtain⟨CC,hCC⟩:∃M,C=M:=⟨_,rfl⟩
 rw[hCC]at HC0 HMM
 rw[hMM,hSS,hCC];clear hMM hSS hCC h1 h2 h3 h4 h5 h6 hbx hg hk hc hx hb0 hz0 hbel;go_enter Tryz.func108,Tryz.ntmps108
 go_wp2_with fail
 refine(Kd HG.out).mono ?_;rintro en w1 ⟨r,rfl,hr,hb1⟩;have HR:Ad (∀w',KT 153 (w.heap.size+1+1+1) w1 w'->Ring w' r Q 33):=⟨fun w' k=>hr.kt k (by decide)⟩
 have hXK:=HXK0.out.below hb1 HXK0.out.lt;have HXK:=Aa hXK;have HXC:=Aa (HXC0.out.below hb1 HXC0.out.lt);have HXX:=Aa (HXX0.out.below hb1 HXX0.out.lt);have HK:=Aa (HK0.out.below hb1);have HC:=Aa (HC0.out.below hb1);have HX:=Aa (HX0.out.below hb1);have HB1:=Aa (Ae HBL.out hb1);have HZ1:Ad (w1.heap[(w.heap.size+1+1+1)]? = some zP):=⟨by rw[hb1.block _ HWS.out];exact HZ0.out⟩
 have HSB:Ad (∀ {w':World},KT 153 (w.heap.size+1+1+1) w1 w'->(w.heap.size+1+1+1)<=w'.heap.size):=⟨fun k=>by have h1:=k.k.bel.size;have h2:=hb1.size;have h3:=HWS.out;omega⟩
 clear hr hb1 hXK HXK0 HXC0 HXX0 HK0 HC0 HX0;go_wp2;refine Ai (by kernel_rfl) (by kernel_rfl)
  [some (.agg #[.slice pc nc cc]),some (.pointer (some ⟨r,0,none⟩)),some (.agg #[.slice pk nk ck]),some (.pointer (some ⟨r,0,none⟩)),some (.agg #[.slice pc nc cc]),some (.agg #[.slice px nx cx]),none,none,none,none]
  [false,false,false,false,false,false,true,true,true,true] rfl
  (fun w1 w2=>KT 153 (w.heap.size+1+1+1) w1 w2)
  (fun D w'=>KT 153 (w.heap.size+1+1+1) w1 w'/\Th (D 9) (w.heap.size+1+1+1) zP (rG CC SS) w')
  (fun i v w'=>match i with
   | 6=>Fit 33 (MM) v w'
   | 7=>Fit 33 (SS) v w'
   | 8=>Pv CC SS v w'
   | 9=>True
   | _=>True)
  ?_ ⟨KT.drew _ _ _,Th.start HZ1.out⟩ ?_ ?_
 .intro i v w1 w2 hf hb;split at hf
  .exact hf.kt hb
  .exact hf.kt hb
  .exact hf.kt hb
  .exact hf
  .trivial
 .simp only[Ba,Nat.reduceAdd];refine⟨?_,?_,?_,?_,?_,?_,?_,?_,?_,?_,trivial⟩
  all_goals intro D sp w' hD hW hdp hbx'
  case refine_1|refine_5=>
   have c0:=(HXC.out.below hbx'.1.k.bel (by omega)).cell
   with_reducible refine Ac ?_ ?_
   all_goals simp[Region.wanted,yielded,execOp,Act.eval,Act.put,go_sem,c0]
  case refine_3=>
   have c0:=(HXK.out.below hbx'.1.k.bel (by omega)).cell
   with_reducible refine Ac ?_ ?_
   all_goals simp[Region.wanted,yielded,execOp,Act.eval,Act.put,go_sem,c0]
  case refine_6=>
   have c0:=(HXX.out.below hbx'.1.k.bel (by omega)).cell
   with_reducible refine Ac ?_ ?_
   all_goals simp[Region.wanted,yielded,execOp,Act.eval,Act.put,go_sem,c0]
  case refine_7=>
   (with_reducible refine Ab (w1:=w') (f := 48) (args:=#[.pointer (some ⟨r,0,none⟩),.agg #[.slice pc nc cc],.agg #[.slice px nx cx]]) ?_ ?_ ?_)
   .simp[Region.wanted,yielded,Act.put,go_sem]
   .simp[Act.eval,Act.put,go_sem]
   .refine(Dm (HR.out w' hbx'.1) (HC.out.keep hbx'.1.k) (HX.out.keep hbx'.1.k) (by omega) (by omega)).mono ?_;rintro en w9 ⟨u,rfl,hu,hb⟩;rw[HMM.out]at hu
    exact⟨u,rfl,KT.of hb (HSB.out hbx'.1),hu,⟨hbx'.1.trans (KT.of hb (HSB.out hbx'.1)),by simpa [upd]using hbx'.2.later hb (fun o h=>h.below hb)⟩⟩
  case refine_8=>
   have k6:Fit 33 (MM) (sp 6) w':=(hdp 6 (mq (by kernel_rfl))).2
   (with_reducible refine Ab (w1:=w') (f := 47) (args:=#[.pointer (some ⟨r,0,none⟩),.agg #[.slice pk nk ck],sp 6]) ?_ ?_ ?_)
   .simp[Region.wanted,yielded,Act.put,go_sem]
   .simp[Act.eval,Act.put,go_sem]
   .refine(Jv (HR.out w' hbx'.1) (HK.out.keep hbx'.1.k) k6 (by omega) (by decide)).mono ?_;rintro en w9 ⟨u,rfl,hu,hb⟩;rw[HSS.out]at hu
    exact⟨u,rfl,KT.of hb (HSB.out hbx'.1),hu,⟨hbx'.1.trans (KT.of hb (HSB.out hbx'.1)),by simpa [upd]using hbx'.2.later hb (fun o h=>h.below hb)⟩⟩
  case refine_9=>
   have hx:∃p n c,sp 7=.agg #[.slice p n c]/\Aj w' p n c (SS)/\SS<Ap (33):=(hdp 7 (mq (by kernel_rfl))).2
   (with_reducible refine Aq hx fun p hx1=>Aq hx1 fun n hx2=>Aq hx2 fun c hx3=>?_)
   have h1:=hx3.1
   (with_reducible refine Ag (w1:=w') (v:=.agg #[.slice pc nc cc,.slice p n c]) ?_ ?_ ?_)
   .simp only[Region.wanted]
   .simp[execOp,Act.eval,Act.put,go_sem,h1]
   .exact⟨KT.same _ _ _,⟨(pc,nc,cc),(p,n,c),rfl,Ef (HC.out.keep hbx'.1.k),hx3.2.1⟩,by simpa [upd]using hbx'⟩
  case refine_10=>
   have hx:∃x y:Option Addr×Nat×Nat,sp 8=.agg #[.slice x.1 x.2.1 x.2.2,.slice y.1 y.2.1 y.2.2]/\Dh w' x CC/\Dh w' y SS:=(hdp 8 (mq (by kernel_rfl))).2
   (with_reducible refine Aq hx fun x hx1=>Aq hx1 fun y hx2=>?_)
   have h1:=hx2.1;rw[hD]at hbx'
   have h5:w'.heap[(w.heap.size+1+1+1)]? = some (.cells #[.slice none 0 0,.slice none 0 0] 153 (0,0)):=hbx'.2.1 rfl;have hp:=put2 (u0:=.slice x.1 x.2.1 x.2.2) (u1:=.slice y.1 y.2.1 y.2.2) h5;have hkt:=hp.kt h5 (nL (none,0,0) (none,0,0)) (As _);have g0:=cells2 h5
   (with_reducible refine An (w1:=set2 w' (w.heap.size+1+1+1) (.slice x.1 x.2.1 x.2.2) (.slice y.1 y.2.1 y.2.2)) ?_ ?_ ?_)
   .simp only[Region.wanted]
   .simp[execOp,Act.eval,Act.put,go_sem,h1,g0.1,g0.2.1,g0.2.2,set2]
   .refine⟨hkt,trivial,hbx'.1.trans hkt,?_⟩;have h8:Th true (w.heap.size+1+1+1) zP (rG CC SS) _:=Th.done hp.new ⟨x,y,rfl,hkt.k.nat _ _ _ _ hx2.2.1,hkt.k.nat _ _ _ _ hx2.2.2⟩;simpa [upd]using h8
  all_goals ((with_reducible refine Ac ?_ ?_);all_goals first|(simp only[Region.wanted];done)|simp[Region.wanted,yielded,execOp,Act.eval,Act.put,go_sem])
 .intro sp w8 hsp hk;obtain⟨hk1,hk2⟩:=hk;obtain⟨_,hz,x,y,rfl,hC,hS⟩:=hk2.2 rfl;have g0:=cells2 hz;have k0:=g0.1.1;have k1:=g0.1.2;have HV:Ad (Pv CC SS (.agg #[.slice x.1 x.2.1 x.2.2,.slice y.1 y.2.1 y.2.2]) w8):=⟨⟨x,y,rfl,hC,hS⟩⟩
  have HB7:Ad (Below w.heap.size w w8):=⟨HB1.out.trans (hk1.k.bel.mono (by omega))⟩
  clear hsp hk1 hk2 hz hC hS g0 hz3;simp only[Am,Nat.reduceAdd];generalize sp 6=y6,sp 7=y7,sp 8=y8,sp 9=y9 at *
  go_simp
  go_wp2;exact bodyPost_ret (v:=.agg #[.slice x.1 x.2.1 x.2.2,.slice y.1 y.2.1 y.2.2]) (by simp[results,Tryz.results108,go_sem,k0,k1]) rfl ⟨_,rfl,HV.out,HB7.out⟩
def Rc (w:World)(x:Option Addr×Nat×Nat)(N:Nat):Prop:=Bn w x.1 x.2.1 x.2.2 N
theorem Rc.below {w w':World}{x:Option Addr×Nat×Nat}{N:Nat}(h:Rc w x N)(hb:Below w.heap.size w w'):Rc w' x N:=Bn.below h hb
theorem Rc.bits {w:World}{x:Option Addr×Nat×Nat}{N:Nat}(h:Rc w x N):Bj N (.slice x.1 x.2.1 x.2.2) w:=Bj.of h
def Tp (A B Y Z:Nat)(xa xb xy xz:Option Addr×Nat×Nat)(w:World):Prop:=Rc w xa A/\Rc w xb B/\Rc w xy Y/\Rc w xz Z
theorem Tp.below {A B Y Z:Nat}{xa xb xy xz:Option Addr×Nat×Nat}{w w':World}(h:Tp A B Y Z xa xb xy xz w)(hb:Below w.heap.size w w'):Tp A B Y Z xa xb xy xz w':=⟨h.1.below hb,h.2.1.below hb,h.2.2.1.below hb,h.2.2.2.below hb⟩
def iO (B:Nat)(v:Value)(w:World):Prop:=∃g,v=.slice (some ⟨g,0,none⟩) 4 4/\w.shape? g=some (5,4)/\Au w ⟨some ⟨g,0,none⟩,4,4,Mr⟩/\B<=g
theorem iO.kc {B C:Nat}{v:Value}{w w':World}(h:iO B v w)(hk:KC C w w'):iO B v w' :=
 let ⟨g,h1,h2,h3,h4⟩:=h
 ⟨g,h1,hk.shape _ _ h2,h3.kc hk,h4⟩
theorem gB {B:Nat}(w:World)(hB:B<=w.heap.size):iO B (.slice (some ⟨w.heap.size,0,none⟩) 4 4) (w.alloc (.cells #[.int .u8 100,.int .u8 108,.int .u8 101,.int .u8 113] 5)):=by
 have h1:(w.alloc (.cells #[.int .u8 100,.int .u8 108,.int .u8 101,.int .u8 113] 5)).heap[w.heap.size]? = some (.cells #[.int .u8 100,.int .u8 108,.int .u8 101,.int .u8 113] 5 (0,0)):=heap_alloc_new w _;exact⟨w.heap.size,rfl,by unfold World.shape?;rw[h1];rfl,⟨Ik (bs:=Mr) h1 rfl (by decide:4<=9223372036854775807),(by decide:∀x∈Mr,x<256)⟩,hB⟩
def Xw (n:Nat)(bss:List (List Nat))(v:Value)(w:World):Prop:=∃(q:Nat) (L:List Part),v=.slice (some ⟨q,0,none⟩) n n/\Bv w (some ⟨q,0,none⟩) n n L/\Iy L/\L.map (·.bs)=bss
theorem Xw.kc {n B:Nat}{bss:List (List Nat)}{v:Value}{w w':World}(h:Xw n bss v w)(hk:KC B w w'):Xw n bss v w' :=
 let ⟨q,L,h1,h2,h3,h4⟩:=h
 ⟨q,L,h1,h2.kc hk,h3,h4⟩
theorem fI (w:World)(L:List Part)(h:∀P∈L,Au w P)(hl:L.length<=1000000):Bv (w.alloc (.cells (L.map fun P=>Value.slice P.p P.n P.c).toArray 60)) (some ⟨w.heap.size,0,none⟩) L.length L.length L:=by
 have hb:Below w.heap.size w (w.alloc (.cells (L.map fun P=>Value.slice P.p P.n P.c).toArray 60)):=By;have hn:=heap_alloc_new w (.cells (L.map fun P=>Value.slice P.p P.n P.c).toArray 60);refine⟨rfl,As _,by omega,fun i X hX=>(h X (List.mem_of_getElem? hX)).below hb,fun _=>⟨w.heap.size,0,rfl,by simp,fun i X hX=>?_⟩⟩;rw[Nat.zero_add];unfold World.cell?
 dsimp only
 rw[hn];simp[hX]
theorem rR {w:World}{A B C D E F G H:Part}(h1:Au w A)(h2:Au w B)(h3:Au w C)(h4:Au w D)(h5:Au w E)(h6:Au w F)(h7:Au w G)(h8:Au w H):∀P∈[A,B,C,D,E,F,G,H],Au w P:=fun P hP=>by
 simp only[List.mem_cons,List.not_mem_nil,or_false]at hP;rcases hP with rfl|rfl|rfl|rfl|rfl|rfl|rfl|rfl<;>assumption
theorem rC {A B C D E F G H:Part}(h1:A.p=none->A.c=0)(h2:B.p=none->B.c=0)(h3:C.p=none->C.c=0)(h4:D.p=none->D.c=0)(h5:E.p=none->E.c=0)(h6:F.p=none->F.c=0)(h7:G.p=none->G.c=0)(h8:H.p=none->H.c=0):Iy [A,B,C,D,E,F,G,H]:=fun P hP=>by
 simp only[List.mem_cons,List.not_mem_nil,or_false]at hP;rcases hP with rfl|rfl|rfl|rfl|rfl|rfl|rfl|rfl<;>assumption
theorem qQ (sz:Nat)(A B Y Z U V:Nat)(msg:List Nat):(Cb [Mr,Ar A sz,Ar B sz,Ar Y sz,Ar Z sz,Ar U sz,Ar V sz,msg]).length=68+6*sz+msg.length:=by
 simp[Cb,Ej,Bp,Mr];omega
theorem Ud {w:World}{v u t:Value}{P Q G H A B Y Z U V nm cm:Nat}{xa xb xy xz:Option Addr×Nat×Nat}{pm:Option Addr}{msg:List Nat}(h:Er P Q G H v w)(hc:Tp A B Y Z xa xb xy xz w)(hu:Bj U u w)(ht:Bj V t w)(lA:A<P)(lB:B<P)(lY:Y<P)(lZ:Z<P)(lU:U<P)(lV:V<P)(lP:Ax P<=100000)(lQ:Ax Q<=100000)(hQ:0<Q)(hs:Al P<=16)(hm:Au w ⟨pm,nm,cm,msg⟩)(hz:pm=none->cm=0)(hn:nm<=1000) :
  Calls Tryz.prog 54 #[v,.agg #[.slice xa.1 xa.2.1 xa.2.2,.slice xb.1 xb.2.1 xb.2.2,.slice xy.1 xy.2.1 xy.2.2,.slice xz.1 xz.2.1 xz.2.2],u,t,.slice pm nm cm] w fun e w'=>∃x,e=.returned x/\Bj (Nk P Q A B Y Z U V msg) x w'/\Below w.heap.size w w':=by
 obtain⟨p0,n0,c0,p1,n1,c1,p2,n2,c2,p3,n3,c3,rfl,h0,h1,h2,h3⟩:=h.ex;obtain⟨pu,nu,cu,rfl,hu0⟩:=hu;obtain⟨pv,nv,cv,rfl,ht0⟩:=ht;have hb1:Below w.heap.size w (w.alloc (.cells #[.slice p0 n0 c0,.slice p1 n1 c1,.slice p2 n2 c2,.slice p3 n3 c3] 30)):=By;have hbo:=Cm.made 30 w (.slice p0 n0 c0) (.slice p1 n1 c1) (.slice p2 n2 c2) (.slice p3 n3 c3);have hz1:(w.alloc (.cells #[.slice p0 n0 c0,.slice p1 n1 c1,.slice p2 n2 c2,.slice p3 n3 c3] 30)).heap.size=w.heap.size+1:=by simp
 obtain⟨wb,hwb⟩:∃wa,w.alloc (.cells #[.slice p0 n0 c0,.slice p1 n1 c1,.slice p2 n2 c2,.slice p3 n3 c3] 30)=wa:=⟨_,rfl⟩
 rw[hwb]at hb1 hbo hz1
 have hb2:Below wb.heap.size wb (wb.alloc (.cells #[.slice xa.1 xa.2.1 xa.2.2,.slice xb.1 xb.2.1 xb.2.2,.slice xy.1 xy.2.1 xy.2.2,.slice xz.1 xz.2.1 xz.2.2] 86)):=By;have hco:=Cm.made 86 wb (.slice xa.1 xa.2.1 xa.2.2) (.slice xb.1 xb.2.1 xb.2.2) (.slice xy.1 xy.2.1 xy.2.2) (.slice xz.1 xz.2.1 xz.2.2);have hz2:(wb.alloc (.cells #[.slice xa.1 xa.2.1 xa.2.2,.slice xb.1 xb.2.1 xb.2.2,.slice xy.1 xy.2.1 xy.2.2,.slice xz.1 xz.2.1 xz.2.2] 86)).heap.size=w.heap.size+1+1:=by simp[hz1]
 obtain⟨wa,hwa⟩:∃W,wb.alloc (.cells #[.slice xa.1 xa.2.1 xa.2.2,.slice xb.1 xb.2.1 xb.2.2,.slice xy.1 xy.2.1 xy.2.2,.slice xz.1 xz.2.1 xz.2.2] 86)=W:=⟨_,rfl⟩
 rw[hwa]at hb2 hco hz2
 rw[hz1]at hco
 have hbx:=Ae hb1 hb2;have HB:=Aa hbx;have HBX:=Aa (hbo.below hb2 hbo.lt);have HCX:=Aa hco;have hWA:Ad (∀ {w':World},KC (w.heap.size+1+1) wa w'->Below wa.heap.size wa w'):=⟨fun k=>by have:=k.bel;rw[<-hz2]at this;exact this⟩
 have HSB:Ad (∀ {w':World},KC (w.heap.size+1+1) wa w'->(w.heap.size+1+1)<=w'.heap.size):=⟨fun hk=>by have:=hk.bel.size;omega⟩
 have HV:Ad (Er P Q G H (.agg #[.slice p0 n0 c0,.slice p1 n1 c1,.slice p2 n2 c2,.slice p3 n3 c3]) wa):=⟨⟨p0,n0,c0,p1,n1,c1,p2,n2,c2,p3,n3,c3,rfl,h0.below hbx,h1.below hbx,h2.below hbx,h3.below hbx⟩⟩
 have HCA:=Aa ((hc.1.below hbx).bits);have HCB:=Aa ((hc.2.1.below hbx).bits);have HCY:=Aa ((hc.2.2.1.below hbx).bits);have HCZ:=Aa ((hc.2.2.2.below hbx).bits);have HU:=Aa (Bj.of (hu0.below hbx));have HVV:=Aa (Bj.of (ht0.below hbx));have HM:=Aa (hm.below hbx);have HZM:=Aa hz;have HQB:=Aa (h1.below hbx);have HQ0:=Aa hQ;have HQl:Ad (Ax Q<=900000):=⟨by omega⟩
 have HPl:=Aa lP;have hlm:=Fb P;obtain⟨sz,hsz⟩:∃s,Al P=s:=⟨_,rfl⟩
 have HCH0:Ad (be (Kx (Cb [Mr,Ar A sz,Ar B sz,Ar Y sz,Ar Z sz,Ar U sz,Ar V sz,msg]))%Q=Nk P Q A B Y Z U V msg):=⟨by rw[<-hsz];rfl⟩
 obtain⟨CH,hCH⟩:∃C,Nk P Q A B Y Z U V msg=C:=⟨_,rfl⟩
 rw[hCH]at HCH0 ⊢
 have HCH:Ad _:=HCH0;rw[hsz]at hs hlm
 have HSZ:=Aa hsz;have HSs:=Aa hs;have HLM:Ad (A<B8 sz/\B<B8 sz/\Y<B8 sz/\Z<B8 sz/\U<B8 sz/\V<B8 sz):=⟨by omega,by omega,by omega,by omega,by omega,by omega⟩
 have HMX:Ad ((Cb [Mr,Ar A sz,Ar B sz,Ar Y sz,Ar Z sz,Ar U sz,Ar V sz,msg]).length<=1000000):=⟨by
  have h9:=hm.row.len
  dsimp only at h9
  rw[qQ];omega⟩
 clear h h0 h1 h2 h3 hbx hbo hu0 ht0 lA lB lY lZ lU lV lP lQ hQ hs hm hz hn hCH hlm hsz HCH0 hb1 hb2 hco hz2 hc;go_enter Tryz.func54,Tryz.ntmps54;go_wp2;refine Ai (by kernel_rfl) (by kernel_rfl)
  [some (.agg #[.slice p0 n0 c0,.slice p1 n1 c1,.slice p2 n2 c2,.slice p3 n3 c3]),none,none,some (.agg #[.slice p0 n0 c0,.slice p1 n1 c1,.slice p2 n2 c2,.slice p3 n3 c3]),some (.pointer (some ⟨w.heap.size+1,0,none⟩)),some (.slice xa.1 xa.2.1 xa.2.2),none,some (.agg #[.slice p0 n0 c0,.slice p1 n1 c1,.slice p2 n2 c2,.slice p3 n3 c3]),some (.pointer (some ⟨w.heap.size+1,1,none⟩)),some (.slice xb.1 xb.2.1 xb.2.2),none,some (.agg #[.slice p0 n0 c0,.slice p1 n1 c1,.slice p2 n2 c2,.slice p3 n3 c3]),some (.pointer (some ⟨w.heap.size+1,2,none⟩)),some (.slice xy.1 xy.2.1 xy.2.2),none,some (.agg #[.slice p0 n0 c0,.slice p1 n1 c1,.slice p2 n2 c2,.slice p3 n3 c3]),some (.pointer (some ⟨w.heap.size+1,3,none⟩)),some (.slice xz.1 xz.2.1 xz.2.2),none,some (.agg #[.slice p0 n0 c0,.slice p1 n1 c1,.slice p2 n2 c2,.slice p3 n3 c3]),some (.slice pu nu cu),none,some (.agg #[.slice p0 n0 c0,.slice p1 n1 c1,.slice p2 n2 c2,.slice p3 n3 c3]),some (.slice pv nv cv),none,some (.slice pm nm cm),none,none,none]
  [false,true,true,false,false,false,true,false,false,false,true,false,false,false,true,false,false,false,true,false,false,true,false,false,true,false,true,true,true] rfl
  (fun w1 w2=>KC (w.heap.size+1+1) w1 w2)
  (fun D w'=>KC (w.heap.size+1+1) wa w')
  (fun i v w'=>match i with
   | 1=>iO (w.heap.size+1+1) v w'
   | 2=>iO (w.heap.size+1+1) v w'
   | 6=>Jn sz (Ar A sz) v w'
   | 10=>Jn sz (Ar B sz) v w'
   | 14=>Jn sz (Ar Y sz) v w'
   | 18=>Jn sz (Ar Z sz) v w'
   | 21=>Jn sz (Ar U sz) v w'
   | 24=>Jn sz (Ar V sz) v w'
   | 26=>Xw 8 [Mr,Ar A sz,Ar B sz,Ar Y sz,Ar Z sz,Ar U sz,Ar V sz,msg] v w'
   | 27=>Bj CH v w'
   | 28=>Bj CH v w'
   | _=>True)
  ?_ (KC.drew _ _) ?_ ?_
 .intro i v w1 w2 hf hb;split at hf
  .exact hf.kc hb
  .exact hf.kc hb
  .exact hf.kc hb
  .exact hf.kc hb
  .exact hf.kc hb
  .exact hf.kc hb
  .exact hf.kc hb
  .exact hf.kc hb
  .exact hf.kc hb
  .exact hf.kc hb
  .exact hf.kc hb
  .trivial
 .simp only[Ba,Nat.reduceAdd];refine⟨?_,?_,?_,?_,?_,?_,?_,?_,?_,?_,?_,?_,?_,?_,?_,?_,?_,?_,?_,?_,?_,?_,?_,?_,?_,?_,?_,?_,?_,trivial⟩
  all_goals intro D sp w' hD hW hdp hbx'
  case refine_1|refine_4|refine_8|refine_12|refine_16|refine_20|refine_23=>
   have g4:=(cells4 (HBX.out.below (hbx'.bel.mono (by omega)) (Nat.lt_succ_self _)).at_).1
   with_reducible refine Ac ?_ ?_
   all_goals simp[Region.wanted,yielded,execOp,Act.eval,Act.put,go_sem,g4.1,g4.2.1,g4.2.2.1,g4.2.2.2]
  case refine_2=>
   (with_reducible refine Ag (w1:=w'.alloc (.cells #[.int .u8 100,.int .u8 108,.int .u8 101,.int .u8 113] 5)) (v:=.slice (some ⟨w'.heap.size,0,none⟩) 4 4) ?_ ?_ ?_)
   .simp only[Region.wanted]
   .simp[execOp,Act.eval,go_sem]
   .have hbl:Below w'.heap.size w' (w'.alloc (.cells #[.int .u8 100,.int .u8 108,.int .u8 101,.int .u8 113] 5)):=By;exact⟨KC.of hbl (HSB.out hbx'),gB w' (HSB.out hbx'),hbx'.trans (KC.of hbl (HSB.out hbx'))⟩
  case refine_3=>
   have hx1:∃g,sp 1=.slice (some ⟨g,0,none⟩) 4 4/\w'.shape? g=some (5,4)/\Au w' ⟨some ⟨g,0,none⟩,4,4,Mr⟩/\(w.heap.size+1+1)<=g:=(hdp 1 (mq (by kernel_rfl))).2
   (with_reducible refine Aq hx1 fun g e10=>?_)
   have h1:=e10.1;have h7:=run_mark (w:=w') (n:=4) (c:=4) e10.2.1
   (with_reducible refine Ag (w1:=w'.freeze ⟨g,4,none⟩ 1) (v:=.slice (some ⟨g,0,none⟩) 4 4) ?_ ?_ ?_)
   .simp only[Region.wanted]
   .simp[execOp,Act.eval,Act.put,go_sem,h1,h7]
   .have hkc:=KC.mark (w:=w') (g:=g) (B:=(w.heap.size+1+1)) 4 e10.2.2.2;exact⟨hkc,⟨g,rfl,hkc.shape _ _ e10.2.1,e10.2.2.1.kc hkc,e10.2.2.2⟩,hbx'.trans hkc⟩
  case refine_6=>
   have g4:=(cells4 (HCX.out.below hbx'.bel (Nat.lt_succ_self _)).at_).1
   with_reducible refine Ac ?_ ?_
   all_goals simp[Region.wanted,yielded,execOp,Act.eval,Act.put,go_sem,g4.1]
  case refine_7=>
   (with_reducible refine Ab (w1:=w') (f := 124) (args:=#[.agg #[.slice p0 n0 c0,.slice p1 n1 c1,.slice p2 n2 c2,.slice p3 n3 c3],.slice xa.1 xa.2.1 xa.2.2]) ?_ ?_ ?_)
   .simp[Region.wanted,yielded,Act.put,go_sem]
   .simp[Act.eval,Act.put,go_sem]
   .refine(qO (HV.out.below (hWA.out hbx')) (HCA.out.below (hWA.out hbx')) HPl.out HSZ.out HSs.out HLM.out.1).mono ?_;rintro en w9 ⟨u,rfl,hu,hb⟩;exact⟨u,rfl,KC.of hb (HSB.out hbx'),hu,hbx'.trans (KC.of hb (HSB.out hbx'))⟩
  case refine_10=>
   have g4:=(cells4 (HCX.out.below hbx'.bel (Nat.lt_succ_self _)).at_).1
   with_reducible refine Ac ?_ ?_
   all_goals simp[Region.wanted,yielded,execOp,Act.eval,Act.put,go_sem,g4.2.1]
  case refine_11=>
   (with_reducible refine Ab (w1:=w') (f := 124) (args:=#[.agg #[.slice p0 n0 c0,.slice p1 n1 c1,.slice p2 n2 c2,.slice p3 n3 c3],.slice xb.1 xb.2.1 xb.2.2]) ?_ ?_ ?_)
   .simp[Region.wanted,yielded,Act.put,go_sem]
   .simp[Act.eval,Act.put,go_sem]
   .refine(qO (HV.out.below (hWA.out hbx')) (HCB.out.below (hWA.out hbx')) HPl.out HSZ.out HSs.out HLM.out.2.1).mono ?_;rintro en w9 ⟨u,rfl,hu,hb⟩;exact⟨u,rfl,KC.of hb (HSB.out hbx'),hu,hbx'.trans (KC.of hb (HSB.out hbx'))⟩
  case refine_14=>
   have g4:=(cells4 (HCX.out.below hbx'.bel (Nat.lt_succ_self _)).at_).1
   with_reducible refine Ac ?_ ?_
   all_goals simp[Region.wanted,yielded,execOp,Act.eval,Act.put,go_sem,g4.2.2.1]
  case refine_15=>
   (with_reducible refine Ab (w1:=w') (f := 124) (args:=#[.agg #[.slice p0 n0 c0,.slice p1 n1 c1,.slice p2 n2 c2,.slice p3 n3 c3],.slice xy.1 xy.2.1 xy.2.2]) ?_ ?_ ?_)
   .simp[Region.wanted,yielded,Act.put,go_sem]
   .simp[Act.eval,Act.put,go_sem]
   .refine(qO (HV.out.below (hWA.out hbx')) (HCY.out.below (hWA.out hbx')) HPl.out HSZ.out HSs.out HLM.out.2.2.1).mono ?_;rintro en w9 ⟨u,rfl,hu,hb⟩;exact⟨u,rfl,KC.of hb (HSB.out hbx'),hu,hbx'.trans (KC.of hb (HSB.out hbx'))⟩
  case refine_18=>
   have g4:=(cells4 (HCX.out.below hbx'.bel (Nat.lt_succ_self _)).at_).1
   with_reducible refine Ac ?_ ?_
   all_goals simp[Region.wanted,yielded,execOp,Act.eval,Act.put,go_sem,g4.2.2.2]
  case refine_19=>
   (with_reducible refine Ab (w1:=w') (f := 124) (args:=#[.agg #[.slice p0 n0 c0,.slice p1 n1 c1,.slice p2 n2 c2,.slice p3 n3 c3],.slice xz.1 xz.2.1 xz.2.2]) ?_ ?_ ?_)
   .simp[Region.wanted,yielded,Act.put,go_sem]
   .simp[Act.eval,Act.put,go_sem]
   .refine(qO (HV.out.below (hWA.out hbx')) (HCZ.out.below (hWA.out hbx')) HPl.out HSZ.out HSs.out HLM.out.2.2.2.1).mono ?_;rintro en w9 ⟨u,rfl,hu,hb⟩;exact⟨u,rfl,KC.of hb (HSB.out hbx'),hu,hbx'.trans (KC.of hb (HSB.out hbx'))⟩
  case refine_22=>
   (with_reducible refine Ab (w1:=w') (f := 124) (args:=#[.agg #[.slice p0 n0 c0,.slice p1 n1 c1,.slice p2 n2 c2,.slice p3 n3 c3],.slice pu nu cu]) ?_ ?_ ?_)
   .simp[Region.wanted,yielded,Act.put,go_sem]
   .simp[Act.eval,Act.put,go_sem]
   .refine(qO (HV.out.below (hWA.out hbx')) (HU.out.below (hWA.out hbx')) HPl.out HSZ.out HSs.out HLM.out.2.2.2.2.1).mono ?_;rintro en w9 ⟨u,rfl,hu,hb⟩;exact⟨u,rfl,KC.of hb (HSB.out hbx'),hu,hbx'.trans (KC.of hb (HSB.out hbx'))⟩
  case refine_25=>
   (with_reducible refine Ab (w1:=w') (f := 124) (args:=#[.agg #[.slice p0 n0 c0,.slice p1 n1 c1,.slice p2 n2 c2,.slice p3 n3 c3],.slice pv nv cv]) ?_ ?_ ?_)
   .simp[Region.wanted,yielded,Act.put,go_sem]
   .simp[Act.eval,Act.put,go_sem]
   .refine(qO (HV.out.below (hWA.out hbx')) (HVV.out.below (hWA.out hbx')) HPl.out HSZ.out HSs.out HLM.out.2.2.2.2.2).mono ?_;rintro en w9 ⟨u,rfl,hu,hb⟩;exact⟨u,rfl,KC.of hb (HSB.out hbx'),hu,hbx'.trans (KC.of hb (HSB.out hbx'))⟩
  case refine_27=>
   have hx2:∃g,sp 2=.slice (some ⟨g,0,none⟩) 4 4/\w'.shape? g=some (5,4)/\Au w' ⟨some ⟨g,0,none⟩,4,4,Mr⟩/\(w.heap.size+1+1)<=g:=(hdp 2 (mq (by kernel_rfl))).2
   (with_reducible refine Aq hx2 fun g e20=>?_)
   have hx6:∃p c,sp 6=.slice p sz c/\Au w' ⟨p,sz,c,Ar A sz⟩/\(p=none->c=0):=(hdp 6 (mq (by kernel_rfl))).2
   (with_reducible refine Aq hx6 fun p6 e60=>Aq e60 fun c6 e61=>?_)
   have hx10:∃p c,sp 10=.slice p sz c/\Au w' ⟨p,sz,c,Ar B sz⟩/\(p=none->c=0):=(hdp 10 (mq (by kernel_rfl))).2
   (with_reducible refine Aq hx10 fun p10 e100=>Aq e100 fun c10 e101=>?_)
   have hx14:∃p c,sp 14=.slice p sz c/\Au w' ⟨p,sz,c,Ar Y sz⟩/\(p=none->c=0):=(hdp 14 (mq (by kernel_rfl))).2
   (with_reducible refine Aq hx14 fun p14 e140=>Aq e140 fun c14 e141=>?_)
   have hx18:∃p c,sp 18=.slice p sz c/\Au w' ⟨p,sz,c,Ar Z sz⟩/\(p=none->c=0):=(hdp 18 (mq (by kernel_rfl))).2
   (with_reducible refine Aq hx18 fun p18 e180=>Aq e180 fun c18 e181=>?_)
   have hx21:∃p c,sp 21=.slice p sz c/\Au w' ⟨p,sz,c,Ar U sz⟩/\(p=none->c=0):=(hdp 21 (mq (by kernel_rfl))).2
   (with_reducible refine Aq hx21 fun p21 e210=>Aq e210 fun c21 e211=>?_)
   have hx24:∃p c,sp 24=.slice p sz c/\Au w' ⟨p,sz,c,Ar V sz⟩/\(p=none->c=0):=(hdp 24 (mq (by kernel_rfl))).2
   (with_reducible refine Aq hx24 fun p24 e240=>Aq e240 fun c24 e241=>?_)
   have ez:=e20.1;have eA:=e61.1;have eB:=e101.1;have eY:=e141.1;have eZ:=e181.1;have eU:=e211.1;have eV:=e241.1
   (with_reducible refine Ag (w1:=w'.alloc (.cells #[.slice (some ⟨g,0,none⟩) 4 4,.slice p6 sz c6,.slice p10 sz c10,.slice p14 sz c14,.slice p18 sz c18,.slice p21 sz c21,.slice p24 sz c24,.slice pm nm cm] 60)) (v:=.slice (some ⟨w'.heap.size,0,none⟩) 8 8) ?_ ?_ ?_)
   .simp only[Region.wanted]
   .simp[execOp,Act.eval,Act.put,go_sem,ez,eA,eB,eY,eZ,eU,eV]
   .have hbl:Below w'.heap.size w' (w'.alloc (.cells #[.slice (some ⟨g,0,none⟩) 4 4,.slice p6 sz c6,.slice p10 sz c10,.slice p14 sz c14,.slice p18 sz c18,.slice p21 sz c21,.slice p24 sz c24,.slice pm nm cm] 60)):=By;have hp:=fI w' ([⟨some ⟨g,0,none⟩,4,4,Mr⟩,⟨p6,sz,c6,Ar A sz⟩,⟨p10,sz,c10,Ar B sz⟩,⟨p14,sz,c14,Ar Y sz⟩,⟨p18,sz,c18,Ar Z sz⟩,⟨p21,sz,c21,Ar U sz⟩,⟨p24,sz,c24,Ar V sz⟩,⟨pm,nm,cm,msg⟩]:List Part) (rR e20.2.2.1 e61.2.1 e101.2.1 e141.2.1 e181.2.1 e211.2.1 e241.2.1 (HM.out.below (hWA.out hbx'))) (show 8<=1000000 by decide);exact⟨KC.of hbl (HSB.out hbx'),⟨w'.heap.size,_,rfl,hp,rC (fun h=>by cases h) e61.2.2 e101.2.2 e141.2.2 e181.2.2 e211.2.2 e241.2.2 HZM.out,rfl⟩,hbx'.trans (KC.of hbl (HSB.out hbx'))⟩
  case refine_28=>
   have hx26:∃(q:Nat) (L:List Part),sp 26=.slice (some ⟨q,0,none⟩) 8 8/\Bv w' (some ⟨q,0,none⟩) 8 8 L/\Iy L/\L.map (·.bs)=[Mr,Ar A sz,Ar B sz,Ar Y sz,Ar Z sz,Ar U sz,Ar V sz,msg]:=(hdp 26 (mq (by kernel_rfl))).2
   (with_reducible refine Aq hx26 fun q e260=>Aq e260 fun L e261=>?_)
   have h1:=e261.1
   (with_reducible refine Ab (w1:=w') (f := 123) (args:=#[.agg #[.slice p0 n0 c0,.slice p1 n1 c1,.slice p2 n2 c2,.slice p3 n3 c3],.slice (some ⟨q,0,none⟩) 8 8]) ?_ ?_ ?_)
   .simp only[Region.wanted]
   .simp[Act.eval,Act.put,go_sem,h1]
   .refine(aD w' p0 n0 c0 p1 n1 c1 Q p2 n2 c2 p3 n3 c3 (HQB.out.below (hWA.out hbx')) HQ0.out HQl.out _ 8 8 L e261.2.1 e261.2.2.1 (by rw[e261.2.2.2];exact HMX.out)).mono ?_;rintro en w9 ⟨u,rfl,hu,hb⟩;rw[e261.2.2.2,HCH.out]at hu
    exact⟨u,rfl,KC.of hb (HSB.out hbx'),hu,hbx'.trans (KC.of hb (HSB.out hbx'))⟩
  case refine_29=>
   have k27:Bj CH (sp 27) w':=(hdp 27 (mq (by kernel_rfl))).2
   (with_reducible refine Ag (w1:=w') (v:=sp 27) ?_ ?_ ?_)
   .simp[Region.wanted,yielded,Act.put,go_sem]
   .simp[execOp,Act.eval,Act.put,go_sem]
   .exact⟨KC.same _ _,k27,hbx'⟩
  all_goals ((with_reducible refine Ac ?_ ?_);all_goals first|(simp only[Region.wanted];done)|simp[Region.wanted,yielded,execOp,Act.eval,Act.put,go_sem])
 .intro sp w8 hsp hk;have HX:Ad (Bj CH (sp 28) w8):=⟨hsp 28 rfl⟩
  have HBf:Ad (Below w.heap.size w w8):=⟨HB.out.trans (hk.bel.mono (by omega))⟩
  clear hsp hk;simp only[Am,Nat.reduceAdd];generalize sp 1=y1,sp 2=y2,sp 6=y6,sp 10=y10,sp 14=y14,sp 18=y18,sp 21=y21,sp 24=y24,sp 26=y26,sp 27=y27,sp 28=y28 at *
  go_simp
  go_wp2;go_ret;exact⟨_,rfl,HX.out,HBf.out⟩
end Go.Proofs.YtnbmfaihlefgfaaGreatDoor
