/- Proofs that two powers have one exponent: copied, areMembers, drawnOf, a claim's challenge. -/
import Derived.Test.YthgoeiegdhphjaaGreatDoorSdA
import Derived.Lib.AppendZeros
import Derived.Lib.Walk
import Derived.BigRegion
set_option maxRecDepth 1000000
set_option maxHeartbeats 16000000
set_option linter.all false
namespace Go.Proofs.YthgoeiegdhphjaaGreatDoor
open Go Go.RowKit Go.Proofs.YthgoeiegdhphjaaGreatDoor.Flow
structure KT (T:TypeId) (B:Nat) (w w':World):Prop where
 k:Ar B w w'
 blk:∀(g:Nat) (vs:Array Value) (U:TypeId) (m:Nat×Nat),w.heap[g]? = some (.cells vs U m)->(U≠T ∨ ∃(j:Nat) (u:Value),vs[j]? = some u/\∀q k d,u≠Value.slice q k d)->w'.heap[g]? = some (.cells vs U m)
theorem KT.of {T:TypeId}{B:Nat}{w w':World}(h:Below w.heap.size w w')(hB:B<=w.heap.size):KT T B w w' :=
 ⟨Ar.of h hB,fun g _ _ _ ho _=>by rw[h.block g (Ep ho).1];exact ho⟩
theorem KT.same (T:TypeId)(B:Nat)(w:World):KT T B w w:=⟨Ar.same _ _,fun _ _ _ _ h _=>h⟩
theorem Fit.kt {T:TypeId}{e N B:Nat}{v:Value}{w w':World}(h:Fit e N v w)(k:KT T B w w'):Fit e N v w':=h.keep k.k
theorem KT.trans {T:TypeId}{B:Nat}{w1 w2 w3:World}(h:KT T B w1 w2)(k:KT T B w2 w3):KT T B w1 w3:=⟨h.k.trans k.k,fun _ _ _ _ ho hU=>k.blk _ _ _ _ (h.blk _ _ _ _ ho hU) hU⟩
theorem KT.drew (T:TypeId)(B:Nat)(w:World):KT T B w w.drew:=⟨Ar.drew _ _,fun _ _ _ _ h _=>h⟩
theorem Ring.kt {T:TypeId}{B r M f:Nat}{w w':World}(h:Ring w r M f)(k:KT T B w w')(hT : 132 ≠ T):Ring w' r M f:=by
 obtain⟨p,n,c,h1,h2,h3⟩:=h.at_.ex
 exact⟨⟨p,n,c,k.blk _ _ _ _ h1 (.inl hT),k.k.nat _ _ _ _ h2,h3⟩,h.two,h.lim,h.few⟩
theorem Ai.off {w w':World}{p:Option Addr}{n c N b:Nat}{vs:Array Value}{T:TypeId}{m:Nat×Nat}(h:Ai w p n c N)(hb:w.heap[b]? = some (.cells vs T m))(hs:∀(j:Nat) (u:Value),vs[j]? = some u->∃q k d,u=.slice q k d)(hz:w.heap.size<=w'.heap.size)(ho:∀g,g≠b->w'.heap[g]? = w.heap[g]?):Ai w' p n c N:=by
 rcases Nat.eq_zero_or_pos n with rfl|h0
 .obtain⟨ws,r1,r2,r3,r4⟩:=h.ex;refine⟨ws,⟨r1.len,r1.cap,r1.max,?_⟩,r2,r3,r4⟩;rcases r1.at_ with k|⟨g,off,k1,k2,k3⟩
  .exact .inl k
  .refine .inr ⟨g,off,k1,Dj k2 hz,fun i x hx=>?_⟩;have:ws=[]:=List.eq_nil_of_length_eq_zero r1.len.symm;rw[this]at hx;cases hx
 .refine In.stay h hz fun q hq o=>World.cell?_of_block (a:=⟨q.block,o,none⟩) (ho q.block fun e=>?_)
  obtain⟨ws,r1,r2,r3,r4⟩:=h.ex;obtain⟨b',off,k1,k2,k3⟩:=r1.pos h0;rw[k1]at hq;cases hq
  have hbb:b'=b:=e;subst hbb;have h1:=k3 0 (ws.getD 0 0) (by rw[Dp];simp[show 0<ws.length by rw[<-r1.len];exact h0]);rw[Nat.add_zero]at h1
  simp only[World.cell?,hb]at h1;obtain⟨q,k,d,hu⟩:=hs _ _ h1;cases hu
theorem Bd.kt {T:TypeId}{B n c:Nat}{p:Option Addr}{xs:List Nat}{k:IntKind}{w w':World}(h:Bd w k p n c xs)(hk:KT T B w w'):Bd w' k p n c xs:=by
 refine⟨h.len,h.cap,h.max,fun h0=>?_⟩;obtain⟨k1,k2,k3,k4⟩:=h.row h0;refine⟨k1,k2,k3,?_⟩;rcases k4 with e|⟨b,off,h1,h2,h3⟩
 .exact .inl e
 .refine .inr ⟨b,off,h1,Dj h2 hk.k.bel.size,fun i x hx=>?_⟩;have hc:=h3 i x hx;have hblk:w'.heap[b]? = w.heap[b]? := by
   unfold World.cell? at hc
   dsimp only at hc
   cases ho:w.heap[b]? with
   | none=>rw[ho]at hc;cases hc
   | some o=>
    rw[ho]at hc
    cases o with
    | cells vs U m=>exact hk.blk b vs U m ho (.inr ⟨_,_,hc,fun _ _ _ e=>by cases e⟩)
    | _=>cases hc
  rw[World.cell?_of_block (a:=⟨b,off+i,none⟩) hblk];exact hc
theorem Bh.kt {T:TypeId}{B lo:Nat}{bs:List Nat}{v:Value}{w w':World}(h:Bh lo bs v w)(hk:KT T B w w'):Bh lo bs v w':=by
 cases h with
 | of p c _ h hn hz hp=>exact .of p c w' (h.kt hk) hn hz (fun q hq=>Dj (hp q hq) hk.k.bel.size)
def set2 (w:World)(b:Nat)(u0 u1:Value):World:=(w.setCell ⟨b,0,none⟩ u0).setCell ⟨b,1,none⟩ u1
def Ja (w:World)(b:Nat)(u0 u1 u2 u3:Value):World:=(((w.setCell ⟨b,0,none⟩ u0).setCell ⟨b,1,none⟩ u1).setCell ⟨b,2,none⟩ u2).setCell ⟨b,3,none⟩ u3
structure eR (w:World) (b:Nat) (o:Obj) (w':World):Prop where
 new:w'.heap[b]? = some o
 old:∀g,g≠b->w'.heap[g]? = w.heap[g]?
 size:w'.heap.size=w.heap.size
 bel:∀B,B<=b->Below B w w'
theorem sU {w:World}{b:Nat}{v0 v1 u0 u1:Value}{T:TypeId}(h:w.heap[b]? = some (.cells #[v0,v1] T (0,0))):eR w b (.cells #[u0,u1] T (0,0)) (set2 w b u0 u1) :=
 ⟨by simp[set2,World.setCell,Array.getElem?_modify,h],fun g hg=>by simp[set2,World.setCell,Array.getElem?_modify,hg.symm],by simp[set2],fun B hB=>(((Bg _ _).setCell hB _).setCell hB _)⟩
theorem put4 {w:World}{b:Nat}{v0 v1 v2 v3 u0 u1 u2 u3:Value}{T:TypeId}(h:w.heap[b]? = some (.cells #[v0,v1,v2,v3] T (0,0))):eR w b (.cells #[u0,u1,u2,u3] T (0,0)) (Ja w b u0 u1 u2 u3) :=
 ⟨by simp[Ja,World.setCell,Array.getElem?_modify,h],fun g hg=>by simp[Ja,World.setCell,Array.getElem?_modify,hg.symm],by simp[Ja],fun B hB=>(((((Bg _ _).setCell hB _).setCell hB _).setCell hB _).setCell hB _)⟩
theorem eR.keep {w w':World}{b B:Nat}{o:Obj}{vs:Array Value}{T:TypeId}{m:Nat×Nat}(h:eR w b o w')(hb:w.heap[b]? = some (.cells vs T m))(hs:∀(j:Nat) (u:Value),vs[j]? = some u->∃q k d,u=.slice q k d)(hB:B<=b):Ar B w w' :=
 ⟨h.bel B hB,fun _ _ _ _ k=>k.off hb hs (Nat.le_of_eq h.size.symm) h.old⟩
theorem eR.kt {w w':World}{b B:Nat}{o:Obj}{vs:Array Value}{T:TypeId}{m:Nat×Nat}(h:eR w b o w')(hb:w.heap[b]? = some (.cells vs T m))(hs:∀(j:Nat) (u:Value),vs[j]? = some u->∃q k d,u=.slice q k d)(hB:B<=b):KT T B w w' :=
 ⟨h.keep hb hs hB,fun g us U k ho hU=>by
  have:g≠b:=fun e=>by
   subst e;rw[hb]at ho
   cases ho;rcases hU with hU|⟨j,u,hj,hu⟩
   .exact hU rfl
   .obtain⟨_,_,_,hx⟩:=hs _ _ hj;exact hu _ _ _ hx
  rw[h.old g this];exact ho⟩
theorem RG.putO {B:Nat}{wx:World}{l:List (Nat×Obj)}{w w':World}{b:Nat}{o:Obj}{vs:Array Value}{T:TypeId}{m:Nat×Nat}(h:RG B wx l w)(p:eR w b o w')(hb:w.heap[b]? = some (.cells vs T m))(hs:∀(j:Nat) (u:Value),vs[j]? = some u->∃q k d,u=.slice q k d)(hB:B<=b)(hn:∀x∈l,x.1≠b):RG B wx l w' :=
 ⟨h.keep.trans (p.keep hb hs hB),by rw[p.size];exact h.base,fun x hx=>by rw[p.old x.1 (hn x hx)];exact h.blk x hx⟩
theorem oW (x y:Option Addr×Nat×Nat):∀(j:Nat) (u:Value),(#[Value.slice x.1 x.2.1 x.2.2,.slice y.1 y.2.1 y.2.2]:Array Value)[j]? = some u->∃q k d,u=.slice q k d
 | 0,u,h=>by cases h;exact⟨_,_,_,rfl⟩
 | 1,u,h=>by cases h;exact⟨_,_,_,rfl⟩
 | j+2,u,h=>by simp at h
theorem Jd (x y z t:Option Addr×Nat×Nat):∀(j:Nat) (u:Value),(#[Value.slice x.1 x.2.1 x.2.2,.slice y.1 y.2.1 y.2.2,.slice z.1 z.2.1 z.2.2,.slice t.1 t.2.1 t.2.2]:Array Value)[j]? = some u->∃q k d,u=.slice q k d
 | 0,u,h=>by cases h;exact⟨_,_,_,rfl⟩
 | 1,u,h=>by cases h;exact⟨_,_,_,rfl⟩
 | 2,u,h=>by cases h;exact⟨_,_,_,rfl⟩
 | 3,u,h=>by cases h;exact⟨_,_,_,rfl⟩
 | j+4,u,h=>by simp at h
def Oh (f:Bool)(b:Nat)(z:Obj)(F:Obj->World->Prop)(w:World):Prop:=(f=false->w.heap[b]? = some z)/\(f=true->∃o,w.heap[b]? = some o/\F o w)
theorem Oh.later {f:Bool}{b:Nat}{z:Obj}{F:Obj->World->Prop}{w w':World}(h:Oh f b z F w)(hb:Below w.heap.size w w')(hF:∀o,F o w->F o w'):Oh f b z F w' :=
 ⟨fun e=>by have:=h.1 e;rw[hb.block b (Ep this).1];exact this,fun e=>by
  obtain⟨o,h1,h2⟩:=h.2 e;exact⟨o,by rw[hb.block b (Ep h1).1];exact h1,hF o h2⟩⟩
theorem Oh.start {b:Nat}{z:Obj}{F:Obj->World->Prop}{w:World}(h:w.heap[b]? = some z):Oh false b z F w:=⟨fun _=>h,fun e=>by cases e⟩
theorem Oh.done {b:Nat}{z o:Obj}{F:Obj->World->Prop}{w:World}(h:w.heap[b]? = some o)(hF:F o w):Oh true b z F w:=⟨(fun e=>by cases e),fun _=>⟨o,h,hF⟩⟩
def Ni (d f:Bool)(v:Value)(B:Nat)(z:Obj)(F:Obj->World->Prop)(w:World):Prop:=B<=w.heap.size/\(d=true->∃b,v=.pointer (some ⟨b,0,none⟩)/\B<=b/\Oh f b z F w)
theorem Ni.start {v:Value}{B:Nat}{z:Obj}{F:Obj->World->Prop}{w:World}(h:B<=w.heap.size):Ni false false v B z F w:=⟨h,fun e=>by cases e⟩
theorem Ni.later {d f:Bool}{v:Value}{B:Nat}{z:Obj}{F:Obj->World->Prop}{w w':World}(h:Ni d f v B z F w)(hb:Below w.heap.size w w')(hF:∀o,F o w->F o w'):Ni d f v B z F w' :=
 ⟨Dx h.1 hb.size,fun e=>let ⟨b,h1,h2,h3⟩:=h.2 e;⟨b,h1,h2,h3.later hb hF⟩⟩
theorem Ni.made {v:Value}{B:Nat}{vs:Array Value}{T:TypeId}{F:Obj->World->Prop}{w:World}(h:Ni false false v B (.cells vs T (0,0)) F w):Ni true false (.pointer (some ⟨w.heap.size,0,none⟩)) B (.cells vs T (0,0)) F (w.alloc (.cells vs T)) :=
 ⟨by simp;have:=h.1;omega,fun _=>⟨_,rfl,h.1,Oh.start (heap_alloc_new w _)⟩⟩
def AtC (A B Y Z:Nat)(a b y z:Option Addr×Nat×Nat)(w:World):Prop:=Er w a A/\Er w b B/\Er w y Y/\Er w z Z
theorem AtC.below {A B Y Z:Nat}{a b y z:Option Addr×Nat×Nat}{w w':World}(h:AtC A B Y Z a b y z w)(hb:Below w.heap.size w w'):AtC A B Y Z a b y z w':=⟨h.1.below hb,h.2.1.below hb,h.2.2.1.below hb,h.2.2.2.below hb⟩
theorem AtC.keep {A B Y Z C:Nat}{a b y z:Option Addr×Nat×Nat}{w w':World}(h:AtC A B Y Z a b y z w)(k:Ar C w w'):AtC A B Y Z a b y z w':=⟨k.nat _ _ _ _ h.1,k.nat _ _ _ _ h.2.1,k.nat _ _ _ _ h.2.2.1,k.nat _ _ _ _ h.2.2.2⟩
theorem AtC.kt {T:TypeId}{A B Y Z C:Nat}{a b y z:Option Addr×Nat×Nat}{w w':World}(h:AtC A B Y Z a b y z w)(k:KT T C w w'):AtC A B Y Z a b y z w':=h.keep k.k
def Zd (A B Y Z:Nat)(v:Value)(w:World):Prop:=∃xa xb xy xz:Option Addr×Nat×Nat,v=.agg #[.slice xa.1 xa.2.1 xa.2.2,.slice xb.1 xb.2.1 xb.2.2,.slice xy.1 xy.2.1 xy.2.2,.slice xz.1 xz.2.1 xz.2.2]/\AtC A B Y Z xa xb xy xz w
theorem Zd.below {A B Y Z:Nat}{v:Value}{w w':World}(h:Zd A B Y Z v w)(hb:Below w.heap.size w w'):Zd A B Y Z v w' :=
 let ⟨a,b,y,z,h1,h2⟩:=h
 ⟨a,b,y,z,h1,h2.below hb⟩
theorem Zd.kt {T:TypeId}{A B Y Z C:Nat}{v:Value}{w w':World}(h:Zd A B Y Z v w)(k:KT T C w w'):Zd A B Y Z v w' :=
 let ⟨a,b,y,z,h1,h2⟩:=h
 ⟨a,b,y,z,h1,h2.kt k⟩
def oK (T:TypeId)(A B Y Z:Nat)(o:Obj)(w:World):Prop:=∃xa xb xy xz:Option Addr×Nat×Nat,o=.cells #[.slice xa.1 xa.2.1 xa.2.2,.slice xb.1 xb.2.1 xb.2.2,.slice xy.1 xy.2.1 xy.2.2,.slice xz.1 xz.2.1 xz.2.2] T (0,0)/\AtC A B Y Z xa xb xy xz w
theorem oK.below {T:TypeId}{A B Y Z:Nat}{o:Obj}{w w':World}(hb:Below w.heap.size w w')(h:oK T A B Y Z o w):oK T A B Y Z o w' :=
 let ⟨a,b,y,z,h1,h2⟩:=h
 ⟨a,b,y,z,h1,h2.below hb⟩
def z4 (T:TypeId):Obj:=.cells #[.slice none 0 0,.slice none 0 0,.slice none 0 0,.slice none 0 0] T (0,0)
theorem cells4 {w:World}{b:Nat}{v0 v1 v2 v3:Value}{T:TypeId}(h:w.heap[b]? = some (.cells #[v0,v1,v2,v3] T (0,0))) :
  (w.cell? ⟨b,0,none⟩=some v0/\w.cell? ⟨b,1,none⟩=some v1/\w.cell? ⟨b,2,none⟩=some v2/\w.cell? ⟨b,3,none⟩=some v3)/\w.frozen? ⟨b,0,none⟩=false/\w.frozen? ⟨b,1,none⟩=false/\w.frozen? ⟨b,2,none⟩=false/\w.frozen? ⟨b,3,none⟩=false:=by
 simp[World.cell?,World.frozen?,h]
def Qk (C S:Nat)(v:Value)(w:World):Prop:=∃x y:Option Addr×Nat×Nat,v=.agg #[.slice x.1 x.2.1 x.2.2,.slice y.1 y.2.1 y.2.2]/\Er w x C/\Er w y S
theorem Qk.below {C S:Nat}{v:Value}{w w':World}(h:Qk C S v w)(hb:Below w.heap.size w w'):Qk C S v w' :=
 let ⟨x,y,h1,h2,h3⟩:=h
 ⟨x,y,h1,h2.below hb,h3.below hb⟩
theorem Qk.keep {B C S:Nat}{v:Value}{w w':World}(h:Qk C S v w)(k:Ar B w w'):Qk C S v w' :=
 let ⟨x,y,h1,h2,h3⟩:=h
 ⟨x,y,h1,k.nat _ _ _ _ h2,k.nat _ _ _ _ h3⟩
theorem Qk.kt {T:TypeId}{B C S:Nat}{v:Value}{w w':World}(h:Qk C S v w)(k:KT T B w w'):Qk C S v w':=h.keep k.k
def sN (C S:Nat)(o:Obj)(w:World):Prop:=∃x y:Option Addr×Nat×Nat,o=.cells #[.slice x.1 x.2.1 x.2.2,.slice y.1 y.2.1 y.2.2] 142 (0,0)/\Er w x C/\Er w y S
theorem sN.below {C S:Nat}{o:Obj}{w w':World}(hb:Below w.heap.size w w')(h:sN C S o w):sN C S o w' :=
 let ⟨x,y,h1,h2,h3⟩:=h
 ⟨x,y,h1,h2.below hb,h3.below hb⟩
def zP:Obj:=.cells #[.slice none 0 0,.slice none 0 0] 142 (0,0)
theorem cells2 {w:World}{b:Nat}{v0 v1:Value}{T:TypeId}(h:w.heap[b]? = some (.cells #[v0,v1] T (0,0))):(w.cell? ⟨b,0,none⟩=some v0/\w.cell? ⟨b,1,none⟩=some v1)/\w.frozen? ⟨b,0,none⟩=false/\w.frozen? ⟨b,1,none⟩=false :=
 ⟨⟨by simp[World.cell?,h],by simp[World.cell?,h]⟩,by simp[World.frozen?,h],by simp[World.frozen?,h]⟩
theorem Yw {w:World}{b P Q G H ek ec ex K C X:Nat}{vk vc vx:Value}(hg:Ba w b P Q G H)(hk:Fit ek K vk w)(hc:Fit ec C vc w)(hx:Fit ex X vx w)(hek:ek<=33)(hec:ec<=33)(hex:ex<=30000) :
  Calls Tryz.prog 94 #[.pointer (some ⟨b,0,none⟩),vk,vc,vx] w fun en w'=>∃x,en=.returned x/\Qk C ((K+C*X%Q)%Q) x w'/\Below w.heap.size w w':=by
 obtain⟨pk,nk,ck,rfl,h1,h2⟩:=Ax hk;obtain⟨pc,nc,cc,rfl,h3,h4⟩:=Ax hc;obtain⟨px,nx,cx,rfl,h5,h6⟩:=Ax hx;have hbx:=Vq.mk3 w (.slice pk nk ck) (.slice pc nc cc) (.slice px nx cx);have hz3:(((w.alloc (.cells #[.slice pk nk ck] 36)).alloc (.cells #[.slice pc nc cc] 36)).alloc (.cells #[.slice px nx cx] 36)).heap.size=w.heap.size+1+1+1:=by simp
 obtain⟨w0,hw0⟩:∃wa,((w.alloc (.cells #[.slice pk nk ck] 36)).alloc (.cells #[.slice pc nc cc] 36)).alloc (.cells #[.slice px nx cx] 36)=wa:=⟨_,rfl⟩
 rw[hw0]at hbx hz3
 have hb0:Below w0.heap.size w0 (w0.alloc (.cells #[.slice none 0 0,.slice none 0 0] 142)):=Bw;have hz0:(w0.alloc (.cells #[.slice none 0 0,.slice none 0 0] 142)).heap[w0.heap.size]? = some zP:=heap_alloc_new w0 _;obtain⟨wa,hwa⟩:∃wa,w0.alloc (.cells #[.slice none 0 0,.slice none 0 0] 142)=wa:=⟨_,rfl⟩
 rw[hwa]at hb0 hz0
 rw[hz3]at hz0
 have hbel:=Ae hbx.bel hb0;have HXK0:=Ab (hbx.b0.below hb0 hbx.b0.lt);have HXC0:=Ab (hbx.b1.below hb0 hbx.b1.lt);have HXX0:=Ab (hbx.b2.below hb0 hbx.b2.lt);have HBL:=Ab hbel;have HZ0:=Ab hz0;have HK0:=Ab ((Fit.of h1 h2).below hbel);have HC0:=Ab ((Fit.of h3 h4).below hbel);have HX0:=Ab ((Fit.of h5 h6).below hbel);have HG:=Ab (hg.below hbel);have hQ2:=hg.lims.2.2;have HWS:Aa (w.heap.size+1+1+1<wa.heap.size):=⟨(Ep hz0).1⟩
 obtain⟨MM,hMM⟩:∃M,C*X%Q=M:=⟨_,rfl⟩
 obtain⟨SS,hSS⟩:∃S,(K+MM)%Q=S:=⟨_,rfl⟩
 have HMM:=Ab hMM;have HSS:=Ab hSS;obtain⟨CC,hCC⟩:∃M,C=M:=⟨_,rfl⟩
 rw[hCC]at HC0 HMM
 rw[hMM,hSS,hCC];clear hMM hSS hCC h1 h2 h3 h4 h5 h6 hbx hg hk hc hx hb0 hz0 hbel;go_enter Tryz.func94,Tryz.ntmps94
 go_wp2_with fail
 refine(Kw HG.out).mono ?_;rintro en w1 ⟨r,rfl,hr,hb1⟩;have HR:Aa (∀w',KT 142 (w.heap.size+1+1+1) w1 w'->Ring w' r Q 33):=⟨fun w' k=>hr.kt k (by decide)⟩
 have hXK:=HXK0.out.below hb1 HXK0.out.lt;have HXK:=Ab hXK;have HXC:=Ab (HXC0.out.below hb1 HXC0.out.lt);have HXX:=Ab (HXX0.out.below hb1 HXX0.out.lt);have HK:=Ab (HK0.out.below hb1);have HC:=Ab (HC0.out.below hb1);have HX:=Ab (HX0.out.below hb1);have HB1:=Ab (Ae HBL.out hb1);have HZ1:Aa (w1.heap[(w.heap.size+1+1+1)]? = some zP):=⟨by rw[hb1.block _ HWS.out];exact HZ0.out⟩
 have HSB:Aa (∀ {w':World},KT 142 (w.heap.size+1+1+1) w1 w'->(w.heap.size+1+1+1)<=w'.heap.size):=⟨fun k=>by have h1:=k.k.bel.size;have h2:=hb1.size;have h3:=HWS.out;omega⟩
 clear hr hb1 hXK HXK0 HXC0 HXX0 HK0 HC0 HX0;go_wp2;refine Aj (by kernel_rfl) (by kernel_rfl)
  [some (.agg #[.slice pc nc cc]),some (.pointer (some ⟨r,0,none⟩)),some (.agg #[.slice pk nk ck]),some (.pointer (some ⟨r,0,none⟩)),some (.agg #[.slice pc nc cc]),some (.agg #[.slice px nx cx]),none,none,none,none]
  [false,false,false,false,false,false,true,true,true,true] rfl
  (fun w1 w2=>KT 142 (w.heap.size+1+1+1) w1 w2)
  (fun D w'=>KT 142 (w.heap.size+1+1+1) w1 w'/\Oh (D 9) (w.heap.size+1+1+1) zP (sN CC SS) w')
  (fun i v w'=>match i with
   | 6=>Fit 33 (MM) v w'
   | 7=>Fit 33 (SS) v w'
   | 8=>Qk CC SS v w'
   | 9=>True
   | _=>True)
  ?_ ⟨KT.drew _ _ _,Oh.start HZ1.out⟩ ?_ ?_
 .intro i v w1 w2 hf hb;split at hf
  .exact hf.kt hb
  .exact hf.kt hb
  .exact hf.kt hb
  .exact hf
  .trivial
 .simp only[Bc,Nat.reduceAdd];refine⟨?_,?_,?_,?_,?_,?_,?_,?_,?_,?_,trivial⟩
  all_goals intro D sp w' hD hW hdp hbx'
  case refine_1|refine_5=>
   have c0:=(HXC.out.below hbx'.1.k.bel (by omega)).cell
   with_reducible refine Ad ?_ ?_
   all_goals simp[Region.wanted,yielded,execOp,Act.eval,Act.put,go_sem,c0]
  case refine_3=>
   have c0:=(HXK.out.below hbx'.1.k.bel (by omega)).cell
   with_reducible refine Ad ?_ ?_
   all_goals simp[Region.wanted,yielded,execOp,Act.eval,Act.put,go_sem,c0]
  case refine_6=>
   have c0:=(HXX.out.below hbx'.1.k.bel (by omega)).cell
   with_reducible refine Ad ?_ ?_
   all_goals simp[Region.wanted,yielded,execOp,Act.eval,Act.put,go_sem,c0]
  case refine_7=>
   (with_reducible refine Ac (w1:=w') (f := 47) (args:=#[.pointer (some ⟨r,0,none⟩),.agg #[.slice pc nc cc],.agg #[.slice px nx cx]]) ?_ ?_ ?_)
   .simp[Region.wanted,yielded,Act.put,go_sem]
   .simp[Act.eval,Act.put,go_sem]
   .refine(Ha (HR.out w' hbx'.1) (HC.out.keep hbx'.1.k) (HX.out.keep hbx'.1.k) (by omega) (by omega)).mono ?_;rintro en w9 ⟨u,rfl,hu,hb⟩;rw[HMM.out]at hu
    exact⟨u,rfl,KT.of hb (HSB.out hbx'.1),hu,⟨hbx'.1.trans (KT.of hb (HSB.out hbx'.1)),by simpa [upd]using hbx'.2.later hb (fun o h=>h.below hb)⟩⟩
  case refine_8=>
   have k6:Fit 33 (MM) (sp 6) w':=(hdp 6 (mq (by kernel_rfl))).2
   (with_reducible refine Ac (w1:=w') (f := 46) (args:=#[.pointer (some ⟨r,0,none⟩),.agg #[.slice pk nk ck],sp 6]) ?_ ?_ ?_)
   .simp[Region.wanted,yielded,Act.put,go_sem]
   .simp[Act.eval,Act.put,go_sem]
   .refine(Tb (HR.out w' hbx'.1) (HK.out.keep hbx'.1.k) k6 (by omega) (by decide)).mono ?_;rintro en w9 ⟨u,rfl,hu,hb⟩;rw[HSS.out]at hu
    exact⟨u,rfl,KT.of hb (HSB.out hbx'.1),hu,⟨hbx'.1.trans (KT.of hb (HSB.out hbx'.1)),by simpa [upd]using hbx'.2.later hb (fun o h=>h.below hb)⟩⟩
  case refine_9=>
   have hx:∃p n c,sp 7=.agg #[.slice p n c]/\Ai w' p n c (SS)/\SS<Au (33):=(hdp 7 (mq (by kernel_rfl))).2
   (with_reducible refine Aw hx fun p hx1=>Aw hx1 fun n hx2=>Aw hx2 fun c hx3=>?_)
   have h1:=hx3.1
   (with_reducible refine Af (w1:=w') (v:=.agg #[.slice pc nc cc,.slice p n c]) ?_ ?_ ?_)
   .simp only[Region.wanted]
   .simp[execOp,Act.eval,Act.put,go_sem,h1]
   .exact⟨KT.same _ _ _,⟨(pc,nc,cc),(p,n,c),rfl,Fa (HC.out.keep hbx'.1.k),hx3.2.1⟩,by simpa [upd]using hbx'⟩
  case refine_10=>
   have hx:∃x y:Option Addr×Nat×Nat,sp 8=.agg #[.slice x.1 x.2.1 x.2.2,.slice y.1 y.2.1 y.2.2]/\Er w' x CC/\Er w' y SS:=(hdp 8 (mq (by kernel_rfl))).2
   (with_reducible refine Aw hx fun x hx1=>Aw hx1 fun y hx2=>?_)
   have h1:=hx2.1;rw[hD]at hbx'
   have h5:w'.heap[(w.heap.size+1+1+1)]? = some (.cells #[.slice none 0 0,.slice none 0 0] 142 (0,0)):=hbx'.2.1 rfl;have hp:=sU (u0:=.slice x.1 x.2.1 x.2.2) (u1:=.slice y.1 y.2.1 y.2.2) h5;have hkt:=hp.kt h5 (oW (none,0,0) (none,0,0)) (Av _);have g0:=cells2 h5
   (with_reducible refine An (w1:=set2 w' (w.heap.size+1+1+1) (.slice x.1 x.2.1 x.2.2) (.slice y.1 y.2.1 y.2.2)) ?_ ?_ ?_)
   .simp only[Region.wanted]
   .simp[execOp,Act.eval,Act.put,go_sem,h1,g0.1,g0.2.1,g0.2.2,set2]
   .refine⟨hkt,trivial,hbx'.1.trans hkt,?_⟩;have h8:Oh true (w.heap.size+1+1+1) zP (sN CC SS) _:=Oh.done hp.new ⟨x,y,rfl,hkt.k.nat _ _ _ _ hx2.2.1,hkt.k.nat _ _ _ _ hx2.2.2⟩;simpa [upd]using h8
  all_goals ((with_reducible refine Ad ?_ ?_);all_goals first|(simp only[Region.wanted];done)|simp[Region.wanted,yielded,execOp,Act.eval,Act.put,go_sem])
 .intro sp w8 hsp hk;obtain⟨hk1,hk2⟩:=hk;obtain⟨_,hz,x,y,rfl,hC,hS⟩:=hk2.2 rfl;have g0:=cells2 hz;have k0:=g0.1.1;have k1:=g0.1.2;have HV:Aa (Qk CC SS (.agg #[.slice x.1 x.2.1 x.2.2,.slice y.1 y.2.1 y.2.2]) w8):=⟨⟨x,y,rfl,hC,hS⟩⟩
  have HB7:Aa (Below w.heap.size w w8):=⟨HB1.out.trans (hk1.k.bel.mono (by omega))⟩
  clear hsp hk1 hk2 hz hC hS g0 hz3;simp only[Am,Nat.reduceAdd];generalize sp 6=y6,sp 7=y7,sp 8=y8,sp 9=y9 at *
  go_simp
  go_wp2;exact bodyPost_ret (v:=.agg #[.slice x.1 x.2.1 x.2.2,.slice y.1 y.2.1 y.2.2]) (by simp[results,Tryz.results94,go_sem,k0,k1]) rfl ⟨_,rfl,HV.out,HB7.out⟩
open Go Go.RowKit
theorem aN (w:World)(n:Nat)(hn:n<=1000000) :
  Calls Tryz.prog 200 #[.slice none 0 0,.int .i64 n] w fun e w'=>∃v,e=.returned v/\Own w' w.heap.size v []/\Below w.heap.size w w':=by
 rcases Nat.eq_zero_or_pos n with rfl|h0
 .go_enter Tryz.func200,Tryz.ntmps200;go_wp2;go_ret;exact⟨_,rfl,Own.nil _ _,Bg _ _⟩
 .obtain⟨i,hi,hz,hs,hb⟩:=info_parts Tryz.info_u8;have happ:=Lib.run_append_nil_zeros (P:=Tryz.prog) w 60 3 60 5 i (.int .u8 0) .i64 .i64 Tryz.underlying60 Tryz.underlying3 hi hz n h0 (by omega) (by omega) (by rw[hb];omega);have hcap:=grownCap_le_maxLen w n 0 5 (by unfold maxLen;omega);have hge:=grownCap_ge w n 0 5;generalize grownCap w n 0 5 = cap at happ hcap hge;generalize hZ:(Builtin.zeroCells (Value.int .u8 0).cells n++Builtin.zeroCells (Value.int .u8 0).cells (cap-n))=Z at happ;have hZs:Z.size=cap:=by rw[<-hZ];simp[size_zeroCells,Value.cells];omega
  have HO:Aa (Own (w.drew.alloc (.cells Z 5)) w.heap.size (.slice (some ⟨w.heap.size,0,none⟩) 0 cap) []) :=
   ⟨⟨⟨by simp,.inr ⟨w.heap.size,cap,Z,rfl,Av _,heap_alloc_new w.drew _,Nat.zero_le _,hcap,by simpa using hZs,by simp⟩⟩⟩⟩
  have HB:Aa (Below w.heap.size w (w.drew.alloc (.cells Z 5))):=⟨(Bg _ _).drew.alloc (Av _) _⟩
  have hc9:cap<=9223372036854775807:=by simpa [maxLen]using hcap
  clear hZ hcap hi hz hs hb;generalize w.drew.alloc (.cells Z 5)=w1 at happ HO HB;go_enter Tryz.func200,Tryz.ntmps200
  go_wp2_with (at_builtin;refine Lib.wpList_append_run _ rfl _ _ _ _ rfl _ _ rfl rfl _ _ happ ?_;refine Dc.out ?_)
  refine⟨?_⟩;go_wp2;go_ret;exact⟨_,rfl,HO.out,HB.out⟩
theorem Vm (w:World)(p:Option Addr)(n c:Nat)(L:List Part)(hL:Br w p n c L)(hz:Gs L)(hmax:(whole L).length<=100000) :
  Calls Tryz.prog 164 #[.slice p n c] w (Ki (whole L) w):=by
 have HP:Aa (Br w p n c L):=⟨hL⟩
 have HZ:Aa (Gs L):=⟨hz⟩
 have hpl:Aa (n=L.length):=⟨hL.len⟩
 have HMx:Aa ((whole L).length<=100000):=⟨hmax⟩
 have mp:=hL.max;have mcp:=hL.cap;clear hL hz hmax;go_enter Tryz.func164,Tryz.ntmps164;go_wp2
 go_loopw [3,11] (fun sv iv wr=>w=wr/\∃k S:Nat,k<=n/\iv=.int .i64 k/\sv=.int .i64 (S:Nat)/\Aa ((whole (L.take k)).length=S)) (fun _ iv _=>n-(intOf iv).toNat)
 case atStart=>exact⟨rfl,0,0,by omega,rfl,rfl,⟨rfl⟩⟩
 case round=>
  obtain⟨rfl,k,S,hk,rfl,rfl,HS⟩:=hrel
  by_cases hkn:k<n
  .obtain⟨b,off,rfl,hb,hc⟩:=HP.out.cells (by omega);obtain⟨P,hP⟩:∃P,L[k]? = some P:=⟨_,List.getElem?_eq_getElem (by have:=hpl.out;omega)⟩
   have hck:w.cell? ⟨b,off+k,none⟩=some (.slice P.p P.n P.c):=hc k P hP;have hlen:S+P.n<=100000:=by
    have h1:=Jj L k hP;have h2:=HMx.out;have h3:=(HP.out.ok k P hP).row.len;have h4:=HS.out;omega
   have HS2:Aa ((whole (L.take (k+1))).length=S+P.n):=⟨by
    rw[List.take_add_one,hP];show (whole (L.take k++[P])).length=S+P.n;rw[Gz,List.length_append,HS.out,(HP.out.ok k P hP).row.len]⟩
   clear hc hP;obtain⟨qp,qn,qc,qb⟩:=P
   dsimp only at *
   have h0:¬((S:Int)+(qn:Int)<0):=by omega
   go_wp2;go_roundw
   case rel=>exact⟨trivial,k+1,S+qn,by omega,by go_num,by go_num,HS2⟩
   case measure=>simp[intOf];omega
  .obtain rfl:k=n:=by omega
   have hkn':¬(k:Int)<k:=by omega
   have hSl:S<=100000:=by
    have h2:=HMx.out;have h4:=HS.out;rw[List.take_of_length_le (by have:=hpl.out;omega)]at h4
    omega
   clear HS
   go_wp2_with fail
   refine(aN w S (by omega)).mono ?_;rintro e w1 ⟨v1,rfl,ho1,hb1⟩;have HO1:=Ab ho1;have HB1:=Ab hb1;clear ho1 hb1;go_wp2
   go_loopw [6,27] (fun ov iv wq=>∃j:Nat,j<=k/\iv=.int .i64 j/\Aa (Own wq w.heap.size ov (whole (L.take j)))/\Aa (Below w.heap.size w wq)) (fun _ iv _=>k-(intOf iv).toNat)
   case atStart=>exact⟨0,by omega,rfl,HO1,HB1⟩
   case round=>
    obtain⟨j,hj,rfl,HO,HB⟩:=hrel;have hsz:=HB.out.size;have HGe:=Ab HO.out.ge
    by_cases hjk:j<k
    .obtain⟨b,off,rfl,hb,hc⟩:=HP.out.cells (by omega);obtain⟨P,hP⟩:∃P,L[j]? = some P:=⟨_,List.getElem?_eq_getElem (by have:=hpl.out;omega)⟩
     have HOK:Aa (Aq _ P):=⟨(HP.out.ok j P hP).below HB.out⟩
     have HZP:Aa (P.p=none->P.c=0):=⟨HZ.out P (List.mem_of_getElem? hP)⟩
     have hck:=((Bz HB.out).1 _ _ hb).trans (hc j P hP);have htk:Aa (whole (L.take (j+1))=whole (L.take j)++P.bs):=⟨by rw[List.take_add_one,hP];exact Gz _ _⟩
     have hlen:Aa ((whole (L.take j)).length+P.n<=140737488355328):=⟨by
      have h1:=Jj L j hP;have h2:=HMx.out;have h3:=HOK.out.row.len;omega⟩
     clear hc hP;obtain⟨qp,qn,qc,qb⟩:=P
     dsimp only at *
     go_wp2_with (at_builtin;refine Da rfl _ _ rfl rfl HO.out rfl HOK.out.row HZP.out hlen.out hsz ?_;intro v2 w3 ho1 hg1;refine Dc.out ?_)
     refine⟨?_⟩;rw[<-htk.out]at ho1
     have HB3:=Ab (HB.out.trans (grown_below hg1 hsz HGe.out));have HO3:=Ab ho1;clear ho1 hg1;go_wp2;go_roundw
     case rel=>exact⟨j+1,by omega,by go_num,HO3,HB3⟩
     case measure=>simp[intOf];omega
    .obtain rfl:j=k:=by omega
     have hjk':¬(j:Int)<j:=by omega
     have hf:=HO.out;rw[List.take_of_length_le (by have:=hpl.out;omega)]at hf
     have HF:=Ab hf;clear hf;go_wp2;go_ret;exact⟨_,rfl,Bh.mk HF.out,HB.out⟩
structure KD (B C:Nat) (w w':World):Prop where
 k:Ar B w w'
 cell:∀p v,C<=p.block->w.cell? p=some v->w'.cell? p=some v
 shape:∀g s,C<=g->w.shape? g=some s->w'.shape? g=some s
theorem KD.of {B C:Nat}{w w':World}(h:Below w.heap.size w w')(hB:B<=w.heap.size):KD B C w w':=⟨Ar.of h hB,fun _ _ _ hp=>cell_below h hp,fun _ _ _ hs=>Qw h hs⟩
theorem KD.same (B C:Nat)(w:World):KD B C w w:=⟨Ar.same _ _,fun _ _ _ h=>h,fun _ _ _ h=>h⟩
theorem KD.trans {B C:Nat}{w1 w2 w3:World}(h:KD B C w1 w2)(k:KD B C w2 w3):KD B C w1 w3:=⟨h.k.trans k.k,fun p v c x=>k.cell p v c (h.cell p v c x),fun g s c x=>k.shape g s c (h.shape g s c x)⟩
theorem KD.drew (B C:Nat)(w:World):KD B C w w.drew:=⟨Ar.drew _ _,fun _ _ _ h=>h,fun _ _ _ h=>h⟩
theorem KD.mark {B C g:Nat}{w:World}(k:Nat)(hB:B<=g):KD B C w (w.freeze ⟨g,k,none⟩ 1) :=
 ⟨⟨(KC.mark (B:=B) k hB).bel,fun _ _ _ _ h=>In.stay h (by simp[World.freeze]) fun q _ o=>Mc _ _ _ _⟩,fun p v _ h=>by rw[Mc];exact h,fun j s _ h=>by rw[Pb];exact h⟩
structure Gl (B C:Nat) (w:World) (P:Part):Prop where
 ok:Aq w P
 at_:0<P.n->∀q,P.p=some q->C<=q.block ∨ q.block<B
theorem Gl.kd {B C:Nat}{w w':World}{P:Part}(h:Gl B C w P)(k:KD B C w w'):Gl B C w' P:=by
 refine⟨⟨⟨h.ok.row.len,h.ok.row.cap,h.ok.row.max,fun h0=>?_⟩,h.ok.bytes⟩,h.at_⟩;obtain⟨k1,k2,k3,k4⟩:=h.ok.row.row h0;refine⟨k1,k2,k3,?_⟩;rcases k4 with e|⟨b,off,h1,h2,h3⟩
 .exact .inl e
 .refine .inr ⟨b,off,h1,Dj h2 k.k.bel.size,fun i x hx=>?_⟩;rcases h.at_ h0 _ h1 with hc|hb
  .exact k.cell _ _ hc (h3 i x hx)
  .rw[k.k.bel.cell (p:=⟨b,off+i,none⟩) hb];exact h3 i x hx
theorem Gl.old {B C:Nat}{w0 w:World}{P:Part}(h:Aq w0 P)(hB:w0.heap.size<=B)(k:Below w0.heap.size w0 w):Gl B C w P:=by
 refine⟨h.below k,fun h0 q hq=>.inr ?_⟩;rcases(h.row.row h0).at_ with h1|⟨b,off,h1,h2,_⟩
 .have:=h1.2.1;omega
 .rw[h1]at hq
  cases hq;have:b<w0.heap.size:=h2;show b<B;omega
def oL (B C n:Nat)(bs:List Nat)(v:Value)(w:World):Prop:=∃g,v=.slice (some ⟨g,0,none⟩) n n/\Gl B C w ⟨some ⟨g,0,none⟩,n,n,bs⟩
theorem oL.kd {B C n:Nat}{bs:List Nat}{v:Value}{w w':World}(h:oL B C n bs v w)(k:KD B C w w'):oL B C n bs v w':=let ⟨g,h1,h2⟩:=h;⟨g,h1,h2.kd k⟩
def bV (B C n:Nat)(bs:List Nat)(v:Value)(w:World):Prop:=∃g,v=.slice (some ⟨g,0,none⟩) n n/\w.shape? g=some (5,n)/\Gl B C w ⟨some ⟨g,0,none⟩,n,n,bs⟩/\C<=g/\B<=g
theorem bV.kd {B C n:Nat}{bs:List Nat}{v:Value}{w w':World}(h:bV B C n bs v w)(k:KD B C w w'):bV B C n bs v w':=let ⟨g,h1,h2,h3,h4,h5⟩:=h;⟨g,h1,k.shape _ _ h4 h2,h3.kd k,h4,h5⟩
theorem bV.made {B C:Nat}(w:World)(bs:List Nat)(hb:∀x∈bs,x<256)(hC:C<=w.heap.size)(hB:B<=w.heap.size)(hl:bs.length<=1000) :
  bV B C bs.length bs (.slice (some ⟨w.heap.size,0,none⟩) bs.length bs.length) (w.alloc (.cells (bs.map fun(x:Nat)=>Value.int .u8 (x:Int)).toArray 5)):=by
 have h1:(w.alloc (.cells (bs.map fun(x:Nat)=>Value.int .u8 (x:Int)).toArray 5)).heap[w.heap.size]? = some (.cells (bs.map fun(x:Nat)=>Value.int .u8 (x:Int)).toArray 5 (0,0)):=heap_alloc_new w _;exact⟨w.heap.size,rfl,by unfold World.shape?;rw[h1];simp,⟨⟨Jf h1 rfl (Dx hl (by decide)),hb⟩,fun _ q hq=>by cases hq;exact .inl hC⟩,hC,hB⟩
def fA (B C n:Nat)(Z:Prop)(bss:List (List Nat))(v:Value)(w:World):Prop:=∃(q:Nat) (L:List Part),v=.slice (some ⟨q,0,none⟩) n n/\Br w (some ⟨q,0,none⟩) n n L/\(∀P∈L,Gl B C w P)/\C<=q/\(Z->Gs L)/\L.map (·.bs)=bss
theorem fA.kd {B C n:Nat}{Z:Prop}{bss:List (List Nat)}{v:Value}{w w':World}(h:fA B C n Z bss v w)(k:KD B C w w'):fA B C n Z bss v w':=by
 obtain⟨q,L,h1,h2,h3,h4,h5,h6⟩:=h;refine⟨q,L,h1,⟨h2.len,h2.cap,h2.max,fun i P hP=>((h3 P (List.mem_of_getElem? hP)).kd k).ok,fun h0=>?_⟩,fun P hP=>(h3 P hP).kd k,h4,h5,h6⟩;obtain⟨b,off,e1,e2,e3⟩:=h2.cells h0;cases e1;exact⟨q,0,rfl,Dj e2 k.k.bel.size,fun i P hP=>k.cell _ _ h4 (e3 i P hP)⟩
theorem fA.four {B C:Nat}(w:World)(P Q R S:Part)(hP:Gl B C w P)(hQ:Gl B C w Q)(hR:Gl B C w R)(hS:Gl B C w S)(zP:P.p=none->P.c=0)(zQ:Q.p=none->Q.c=0)(zR:R.p=none->R.c=0){Z:Prop}(zS:Z->S.p=none->S.c=0)(hC:C<=w.heap.size)(hB:B<=w.heap.size) :
  fA B C 4 Z [P.bs,Q.bs,R.bs,S.bs] (.slice (some ⟨w.heap.size,0,none⟩) 4 4) (w.alloc (.cells #[.slice P.p P.n P.c,.slice Q.p Q.n Q.c,.slice R.p R.n R.c,.slice S.p S.n S.c] 60)):=by
 have hb:KD B C w (w.alloc (.cells #[.slice P.p P.n P.c,.slice Q.p Q.n Q.c,.slice R.p R.n R.c,.slice S.p S.n S.c] 60)):=KD.of ((Bg _ _).alloc (Av _) _) hB;refine⟨w.heap.size,[P,Q,R,S],rfl,lD w P Q R S hP.ok hQ.ok hR.ok hS.ok,fun X hX=>?_,hC,fun h=>kE zP zQ zR (zS h),rfl⟩;simp only[List.mem_cons,List.not_mem_nil,or_false]at hX;rcases hX with rfl|rfl|rfl|rfl
 .exact hP.kd hb
 .exact hQ.kd hb
 .exact hR.kd hb
 .exact hS.kd hb
def Kz:List Nat:=[100,108,101,113]
def Ny (P Q A B Y Z U V:Nat)(side:List Nat):Nat :=
 be (Hy (Cd [Kz,As A (Ak P),As B (Ak P),As Y (Ak P),As Z (Ak P),As U (Ak P),As V (Ak P),side]))%Q
def Hu (P A B:Nat)(side:List Nat):List Nat:=Kz++(As A (Ak P)++(As B (Ak P)++side))
def rT (P Q A B x:Nat)(side:List Nat):Nat:=Rt Q x (Hu P A B side)
def rU (P Q A B x:Nat)(side:List Nat):Nat:=Ny P Q A B (A^x%P) (B^x%P) (A^rT P Q A B x side%P) (B^rT P Q A B x side%P) side
def sS (P Q A B x:Nat)(side:List Nat):Nat:=(rT P Q A B x side+rU P Q A B x side*x%Q)%Q
def cA (P Q A B x:Nat)(side:List Nat):List Nat:=As (rU P Q A B x side) (Ak Q)++As (sS P Q A B x side) (Ak Q)
def fQ (P Q A B Y Z:Nat):Prop:=Cj P Q A/\Cj P Q B/\Cj P Q Y/\Cj P Q Z
noncomputable def Uf (P Q A B Y Z:Nat) (side proof:List Nat):Prop :=
 Hs Q proof/\fQ P Q A B Y Z /\
  Ny P Q A B Y Z (Pv P A Y (be (proof.take (Ak Q))) (be (proof.drop (Ak Q)))) (Pv P B Z (be (proof.take (Ak Q))) (be (proof.drop (Ak Q)))) side=be (proof.take (Ak Q))
theorem Pf {P Q A B Y Z U V:Nat}{side:List Nat}(hQ:0<Q):Ny P Q A B Y Z U V side<Q:=Nat.mod_lt _ hQ
theorem rK {P Q A B x:Nat}{side:List Nat}(hQ:0<Q):rU P Q A B x side<Q:=Pf hQ
theorem eF (P Q A B x:Nat)(side:List Nat):(cA P Q A B x side).length=2*Ak Q:=by
 unfold cA;rw[List.length_append,Bq,Bq];omega
theorem Ws (P Q A B x:Nat)(side:List Nat):Ay (cA P Q A B x side):=fun y hy=>by
 unfold cA at hy;rcases List.mem_append.1 hy with h|h
 .exact(Gc _ _).reverse y h
 .exact(Gc _ _).reverse y h
theorem Rj (P A B:Nat){side:List Nat}(h:Ay side):Ay (Hu P A B side):=fun y hy=>by
 unfold Hu Kz at hy;rcases List.mem_append.1 hy with h1|h1
 .simp only[List.mem_cons,List.not_mem_nil,or_false]at h1;omega
 .rcases List.mem_append.1 h1 with h2|h2
  .exact(Gc _ _).reverse y h2
  .rcases List.mem_append.1 h2 with h3|h3
   .exact(Gc _ _).reverse y h3
   .exact h y h3
theorem nB {P Q A B x y p r c s:Nat}{side:List Nat}(hP:2<=P)(hA:Cj P Q A)(hB:Cj P Q B)(hc:c<Q)(h1:(p+c*x%Q)%Q=s)(h2:(r+c*y%Q)%Q=s)(h3:Ny P Q A B (A^x%P) (B^y%P) (A^p%P) (B^r%P) side=c) :
  Uf P Q A B (A^x%P) (B^y%P) side (As c (Ak Q)++As s (Ak Q)):=by
 have hQ:0<Q:=by omega
 have hs:s<Q:=by rw[<-h1];exact Nat.mod_lt _ hQ
 obtain⟨k1,k2,k3⟩:=rI hc hs;have e1:Pv P A (A^x%P) c s=A^p%P:=by rw[<-h1];exact Zn hP hQ hA.2.2
 have e2:Pv P B (B^y%P) c s=B^r%P:=by rw[<-h2];exact Zn hP hQ hB.2.2
 unfold Uf;rw[k2,k3,e1,e2];exact⟨k1,⟨hA,hB,Sg hP hQ hA.2.2 x,Sg hP hQ hB.2.2 y⟩,h3⟩
theorem pZ {P Q A B x:Nat}{side:List Nat}(hP:2<=P)(hQ:0<Q)(hA:Cj P Q A)(hB:Cj P Q B) :
  Uf P Q A B (A^x%P) (B^x%P) side (cA P Q A B x side):=by
 unfold cA;exact nB hP hA hB (rK hQ) rfl rfl rfl
theorem Rl {w:World}{e N:Nat}{v:Value}(h:Fit e N v w)(he:e<=300000) :
  Calls Tryz.prog 113 #[v] w fun en w'=>∃x,en=.returned x/\Fit e N x w'/\Below w.heap.size w w':=by
 obtain⟨pa,na,ca,rfl,h1,h2⟩:=Ax h;have hbx:=eS.mk2 w (.slice pa na ca) (.slice none 0 0);have hz:∀w',Fit 0 0 (.agg #[.slice none 0 0]) w':=fun w'=>Fit.of (Ai.nil w') (by decide)
 have HZ:=Ah hz;clear hz;go_enter Tryz.func113,Tryz.ntmps113
 go_wp2_with fail
 refine(Lc (h.below hbx.bel) (HZ.out _) (by omega) (by omega)).mono ?_;rintro en w1 ⟨x,rfl,hx,hb⟩;replace hbx:=hbx.later hb;obtain⟨pc,nc,cc,rfl,y1,_⟩:=hx;have c1:=hbx.b1.cell;have f1:=hbx.b1.free;have z1:=hbx.b1.lt;go_wp2;exact bodyPost_ret (v:=.agg #[.slice pc nc cc]) (by simp[results,Tryz.results113,go_sem,c1]) rfl ⟨_,rfl,Fit.of (y1.store hbx.b1 _) h2,hbx.bel.setCell (by simp) _⟩
def Vf (P Q N:Nat):Bool:=decide (0<N/\N<P/\N^Q%P=1)
theorem Lv {P Q N:Nat}:Vf P Q N=true ↔ Cj P Q N:=decide_eq_true_iff
theorem dF {w:World}{bg P Q G H:Nat}(b:Nat)(e:Nat)(Ns:List Nat)(hb:b<w.heap.size)(hc:w.cell? ⟨b,0,none⟩=some (.pointer (some ⟨bg,0,none⟩)))(hg:Ba w bg P Q G H)(he:e<=30000) :
  Asks 163 #[.pointer (some ⟨b,0,none⟩)] w e Ns (fun N=>!Vf P Q N):=by
 refine⟨fun W N u hbw _ hu=>?_⟩;have hc':W.cell? ⟨b,0,none⟩=some (.pointer (some ⟨bg,0,none⟩)):=(hbw.cell (p:=⟨b,0,none⟩) hb).trans hc;obtain⟨pu,nu,cu,rfl,hu1,hu2⟩:=hu;have hbx:=Dq.mk1 W (.slice pu nu cu) 36;have hbW:b<W.heap.size:=Dj hb hbw.size;have hc2:(W.alloc (.cells #[.slice pu nu cu] 36)).cell? ⟨b,0,none⟩=some (.pointer (some ⟨bg,0,none⟩)):=(hbx.bel.cell (p:=⟨b,0,none⟩) hbW).trans hc';have HA:=Ab ((Fit.of hu1 hu2).below hbx.bel);have HG:=Ab ((hg.below hbw).below hbx.bel);have HBX:=Ab hbx.bel;clear hu1 hu2 hbx hc' hc hg;go_enter Tryz.func163,Tryz.ntmps163
 go_wp2_with fail
 refine(Rg HG.out HA.out he).mono ?_;rintro en w1 ⟨rfl,hb1⟩;obtain⟨X,hX⟩:∃X,decide (0<N/\N<P/\N^Q%P=1)=X:=⟨_,rfl⟩
 have HE:Aa (Vf P Q N=X):=⟨hX⟩
 rw[hX];have HB1:=Ab (Ae HBX.out hb1);clear hb1 hc2 hX;go_wp2;go_ret;exact⟨by rw[HE.out];rfl,HB1.out⟩
theorem Rp (p:Nat->Bool):∀l:List Nat,(!l.any fun x=>!p x)=l.all p
 | []=>rfl
 | a::l=>by
  have:=Rp p l;simp only[List.any_cons,List.all_cons];rw[<-this];cases p a<;>simp
theorem Lb {w:World}{bg P Q G H e n c:Nat}{p:Option Addr}{Ns:List Nat}(hg:Ba w bg P Q G H)(h:Ch w e p n c Ns)(he:e<=30000) :
  Calls Tryz.prog 112 #[.pointer (some ⟨bg,0,none⟩),.slice p n c] w fun en w'=>en=.returned (.bool (Ns.all (Vf P Q)))/\Below w.heap.size w w':=by
 have hbx:=Dq.mk1 w (.pointer (some ⟨bg,0,none⟩)) 25;have HP:=Ab (h.below hbx.bel);have HA:=Ab (dF (w:=w.alloc (.cells #[.pointer (some ⟨bg,0,none⟩)] 25)) w.heap.size e Ns (by simp) hbx.c0 (hg.below hbx.bel) he);have HBX:=Ab hbx.bel;obtain⟨X,hX⟩:∃X,(Ns.any fun N=>!Vf P Q N)=X:=⟨_,rfl⟩
 have HE:Aa (Ns.all (Vf P Q) = !X):=⟨by rw[<-hX,Rp]⟩
 have HX:=Ab hX;clear h hbx hg hX;go_enter Tryz.func112,Tryz.ntmps112
 go_wp2_with fail
 refine(Ko _ e p n c Ns _ _ (enters_of Tryz.func163 (by kernel_rfl) rfl) _ HP.out HA.out).mono ?_;rintro en w1 ⟨rfl,hb1⟩;rw[HX.out];have HB1:=Ab (Ae HBX.out hb1);clear hb1;go_wp2;go_ret;exact⟨by rw[HE.out];rfl,HB1.out⟩
theorem Pw {w:World}{g e:Nat}{us:List (Option Addr×Nat×Nat)}{Ns:List Nat}{T:TypeId}{m:Nat×Nat}(h:w.heap[g]? = some (.cells (us.map sv).toArray T m))(ht:Rw w e us Ns)(hn:Ns.length<=1000000):Ch w e (some ⟨g,0,none⟩) Ns.length Ns.length Ns:=by
 refine⟨rfl,Av _,by omega,(fun e=>by cases e),fun _=>⟨g,0,rfl,(Ep h).1,fun i N hN=>?_⟩⟩;obtain⟨x,k1,k2,k3⟩:=ht.at_ i N hN
 exact⟨x.1,x.2.1,x.2.2,by simp[World.cell?,h,k1,sv],k2,k3⟩
def bU (B C n:Nat)(bs:List Nat)(v:Value)(w:World):Prop:=∃p c,v=.slice p n c/\Gl B C w ⟨p,n,c,bs⟩/\(p=none->c=0)
theorem bU.kd {B C n:Nat}{bs:List Nat}{v:Value}{w w':World}(h:bU B C n bs v w)(k:KD B C w w'):bU B C n bs v w':=let ⟨p,c,h1,h2,h3⟩:=h;⟨p,c,h1,h2.kd k,h3⟩
theorem Sp (L:List Part):whole L=(L.map (·.bs)).flatten:=by simp[whole,List.flatMap_def]
theorem Pe (P A B:Nat)(side:List Nat):(Hu P A B side).length=4+(Ak P+(Ak P+side.length)):=by
 unfold Hu Kz;simp[Bq];omega
theorem Bh.prt {B C lo n:Nat}{bs:List Nat}{v:Value}{w:World}(h:Bh lo bs v w)(hl:C<=lo)(h8:Ay bs)(hn:bs.length=n):bU B C n bs v w:=by
 subst hn;exact h.elim fun p c hv hr hw hz=>⟨p,c,hv,⟨⟨hr,h8⟩,fun _ q hq=>.inl (Dx hl (hw q hq))⟩,hz⟩
theorem aX {w:World}{b P Q G H e A Y:Nat}{v u:Value}{pm:Option Addr}{nm cm:Nat}{msg:List Nat}(hg:Ba w b P Q G H)(hv:Fit e A v w)(hu:Fit e Y u w)(he:e<=30000)(hA:A<P)(hY:Y<P)(hs:Ak P<=16)(hm:Aq w ⟨pm,nm,cm,msg⟩)(hz:pm=none->cm=0)(hn:nm<=1000) :
  Calls Tryz.prog 114 #[.pointer (some ⟨b,0,none⟩),v,u,.slice pm nm cm] w fun en w'=>∃p c,en=.returned (.slice p (Hu P A Y msg).length c)/\Aq w' ⟨p,(Hu P A Y msg).length,c,Hu P A Y msg⟩/\Below w.heap.size w w':=by
 obtain⟨pa,na,ca,rfl,h1,h2⟩:=Ax hv;obtain⟨py,ny,cy,rfl,k1,k2⟩:=Ax hu;have hbx:=eS.mk2 w (.slice pa na ca) (.slice py ny cy);have hsz3:((w.alloc (.cells #[.slice pa na ca] 36)).alloc (.cells #[.slice py ny cy] 36)).heap.size=w.heap.size+1+1:=by simp
 obtain⟨wa,hwa⟩:∃wa,(w.alloc (.cells #[.slice pa na ca] 36)).alloc (.cells #[.slice py ny cy] 36)=wa:=⟨_,rfl⟩
 rw[hwa]at hbx hsz3
 have HBL:=Ab hbx.bel;have HX0:=Ab hbx.b0;have HX1:=Ab hbx.b1;have HA:=Ab ((Fit.of h1 h2).below hbx.bel);have HY:=Ab ((Fit.of k1 k2).below hbx.bel);have HG:Aa (∀w',Ar (w.heap.size+1+1) wa w'->Ba w' b P Q G H):=⟨fun w' k=>(Li.of hg (Av _) HBL.out).keep ⟨k.bel.mono (by omega),k.nat⟩⟩
 have HM:Aa (Gl (w.heap.size+1+1) (w.heap.size+1+1) wa ⟨pm,nm,cm,msg⟩):=⟨Gl.old hm (by omega) hbx.bel⟩
 have HZM:=Ab hz;have HSB:Aa (∀ {w':World},KD (w.heap.size+1+1) (w.heap.size+1+1) wa w'->w.heap.size+1+1<=w'.heap.size):=⟨fun hk=>by have:=hk.k.bel.size;omega⟩
 have HSC:=HSB;have HM8:Aa (Ay (Hu P A Y msg)):=⟨Rj P A Y hm.bytes⟩
 have hlen:=Pe P A Y msg;have hml:nm=msg.length:=hm.row.len;obtain⟨sz,hsz⟩:∃s,Ak P=s:=⟨_,rfl⟩
 have hmm:[Kz,As A sz,As Y sz,msg].flatten=Hu P A Y msg:=by subst hsz;unfold Hu;simp
 rw[hsz]at hs hlen
 obtain⟨MM,hMM⟩:∃M,Hu P A Y msg=M:=⟨_,rfl⟩
 rw[hMM]at hlen HM8 hmm ⊢
 obtain⟨LL,hLL⟩:∃L,MM.length=L:=⟨_,rfl⟩
 have HLL:=Ab hLL;have HMM:=Ab hmm;have HLb:Aa (LL<=100000):=⟨by omega⟩
 have HSZ:=Ab hsz;have HSs:=Ab hs;have HAP:=Ab hA;have HYP:=Ab hY;rw[hLL];clear h1 h2 k1 k2 hbx hg hv hu hm hsz hA hY hlen hml hmm hMM hLL hz;go_enter Tryz.func114,Tryz.ntmps114;go_wp2;refine Aj (by kernel_rfl) (by kernel_rfl)
  [none,none,some (.pointer (some ⟨b,0,none⟩)),some (.agg #[.slice pa na ca]),none,some (.pointer (some ⟨b,0,none⟩)),some (.agg #[.slice py ny cy]),none,some (.slice pm nm cm),none,none,none]
  [true,true,false,false,true,false,false,true,false,true,true,true] rfl
  (fun w1 w2=>KD (w.heap.size+1+1) (w.heap.size+1+1) w1 w2)
  (fun D w'=>KD (w.heap.size+1+1) (w.heap.size+1+1) wa w'/\True)
  (fun i v w'=>match i with
   | 0=>bV (w.heap.size+1+1) (w.heap.size+1+1) 4 Kz v w'
   | 1=>bV (w.heap.size+1+1) (w.heap.size+1+1) 4 Kz v w'
   | 4=>oL (w.heap.size+1+1) (w.heap.size+1+1) sz (As A sz) v w'
   | 7=>oL (w.heap.size+1+1) (w.heap.size+1+1) sz (As Y sz) v w'
   | 9=>fA (w.heap.size+1+1) (w.heap.size+1+1) 4 (pm=none->cm=0) [Kz,As A sz,As Y sz,msg] v w'
   | 10=>bU (w.heap.size+1+1) (w.heap.size+1+1) LL MM v w'
   | 11=>bU (w.heap.size+1+1) (w.heap.size+1+1) LL MM v w'
   | _=>True)
  ?_ ⟨KD.drew _ _ _,trivial⟩ ?_ ?_
 .intro i v w1 w2 hf hb;split at hf
  .exact hf.kd hb
  .exact hf.kd hb
  .exact hf.kd hb
  .exact hf.kd hb
  .exact hf.kd hb
  .exact hf.kd hb
  .exact hf.kd hb
  .trivial
 .simp only[Bc,Nat.reduceAdd];refine⟨?_,?_,?_,?_,?_,?_,?_,?_,?_,?_,?_,?_,trivial⟩
  all_goals intro D sp w' hD hW hdp hbx'
  case refine_1=>
   (with_reducible refine Af (w1:=w'.alloc (.cells #[.int .u8 100,.int .u8 108,.int .u8 101,.int .u8 113] 5)) (v:=.slice (some ⟨w'.heap.size,0,none⟩) 4 4) ?_ ?_ ?_)
   .simp only[Region.wanted]
   .simp[execOp,Act.eval,go_sem]
   .have hb:Below w'.heap.size w' (w'.alloc (.cells #[.int .u8 100,.int .u8 108,.int .u8 101,.int .u8 113] 5)):=Bw;exact⟨KD.of hb (HSB.out hbx'.1),bV.made w' Kz (by decide) (HSC.out hbx'.1) (HSB.out hbx'.1) (by decide),⟨hbx'.1.trans (KD.of hb (HSB.out hbx'.1)),trivial⟩⟩
  case refine_2=>
   have hx1:∃g,sp 0=.slice (some ⟨g,0,none⟩) 4 4/\w'.shape? g=some (5,4)/\Gl (w.heap.size+1+1) (w.heap.size+1+1) w' ⟨some ⟨g,0,none⟩,4,4,Kz⟩/\(w.heap.size+1+1)<=g/\(w.heap.size+1+1)<=g:=(hdp 0 (mq (by kernel_rfl))).2
   (with_reducible refine Aw hx1 fun g e10=>?_)
   have h1:=e10.1;have h7:=run_mark (w:=w') (n:=4) (c:=4) e10.2.1
   (with_reducible refine Af (w1:=w'.freeze ⟨g,4,none⟩ 1) (v:=.slice (some ⟨g,0,none⟩) 4 4) ?_ ?_ ?_)
   .simp only[Region.wanted]
   .simp[execOp,Act.eval,Act.put,go_sem,h1,h7]
   .have hkc:=KD.mark (w:=w') (g:=g) (B:=(w.heap.size+1+1)) (C:=(w.heap.size+1+1)) 4 e10.2.2.2.2;exact⟨hkc,⟨g,rfl,hkc.shape _ _ e10.2.2.2.1 e10.2.1,e10.2.2.1.kd hkc,e10.2.2.2⟩,⟨hbx'.1.trans hkc,trivial⟩⟩
  case refine_4=>
   have c0:=(HX0.out.below hbx'.1.k.bel (by omega)).cell
   with_reducible refine Ad ?_ ?_
   all_goals simp[Region.wanted,yielded,execOp,Act.eval,Act.put,go_sem,c0]
  case refine_5=>
   (with_reducible refine Ac (w1:=w') (f := 148) (args:=#[.pointer (some ⟨b,0,none⟩),.agg #[.slice pa na ca]]) ?_ ?_ ?_)
   .simp[Region.wanted,yielded,Act.put,go_sem]
   .simp[Act.eval,Act.put,go_sem]
   .refine(Nv (HG.out w' hbx'.1.k) (HA.out.keep hbx'.1.k) he HAP.out HSZ.out HSs.out).mono ?_;rintro en w9 ⟨g9,rfl,hg9,hu,hb⟩;exact⟨_,rfl,KD.of hb (HSB.out hbx'.1),⟨g9,rfl,⟨Gr hu (by omega),fun _ q hq=>by cases hq;exact .inl (Dx (HSC.out hbx'.1) hg9)⟩⟩,⟨hbx'.1.trans (KD.of hb (HSB.out hbx'.1)),trivial⟩⟩
  case refine_7=>
   have c0:=(HX1.out.below hbx'.1.k.bel (by omega)).cell
   with_reducible refine Ad ?_ ?_
   all_goals simp[Region.wanted,yielded,execOp,Act.eval,Act.put,go_sem,c0]
  case refine_8=>
   (with_reducible refine Ac (w1:=w') (f := 148) (args:=#[.pointer (some ⟨b,0,none⟩),.agg #[.slice py ny cy]]) ?_ ?_ ?_)
   .simp[Region.wanted,yielded,Act.put,go_sem]
   .simp[Act.eval,Act.put,go_sem]
   .refine(Nv (HG.out w' hbx'.1.k) (HY.out.keep hbx'.1.k) he HYP.out HSZ.out HSs.out).mono ?_;rintro en w9 ⟨g9,rfl,hg9,hu,hb⟩;exact⟨_,rfl,KD.of hb (HSB.out hbx'.1),⟨g9,rfl,⟨Gr hu (by omega),fun _ q hq=>by cases hq;exact .inl (Dx (HSC.out hbx'.1) hg9)⟩⟩,⟨hbx'.1.trans (KD.of hb (HSB.out hbx'.1)),trivial⟩⟩
  case refine_10=>
   have hx1:∃g,sp 1=.slice (some ⟨g,0,none⟩) 4 4/\w'.shape? g=some (5,4)/\Gl (w.heap.size+1+1) (w.heap.size+1+1) w' ⟨some ⟨g,0,none⟩,4,4,Kz⟩/\(w.heap.size+1+1)<=g/\(w.heap.size+1+1)<=g:=(hdp 1 (mq (by kernel_rfl))).2
   (with_reducible refine Aw hx1 fun g e10=>?_)
   have hx4:∃g,sp 4=.slice (some ⟨g,0,none⟩) sz sz/\Gl (w.heap.size+1+1) (w.heap.size+1+1) w' ⟨some ⟨g,0,none⟩,sz,sz,As A sz⟩:=(hdp 4 (mq (by kernel_rfl))).2
   (with_reducible refine Aw hx4 fun ga e40=>?_)
   have hx7:∃g,sp 7=.slice (some ⟨g,0,none⟩) sz sz/\Gl (w.heap.size+1+1) (w.heap.size+1+1) w' ⟨some ⟨g,0,none⟩,sz,sz,As Y sz⟩:=(hdp 7 (mq (by kernel_rfl))).2
   (with_reducible refine Aw hx7 fun gy e70=>?_)
   have ea:=e10.1;have eb:=e40.1;have ec:=e70.1
   (with_reducible refine Af (w1:=w'.alloc (.cells #[.slice (some ⟨g,0,none⟩) 4 4,.slice (some ⟨ga,0,none⟩) sz sz,.slice (some ⟨gy,0,none⟩) sz sz,.slice pm nm cm] 60)) (v:=.slice (some ⟨w'.heap.size,0,none⟩) 4 4) ?_ ?_ ?_)
   .simp only[Region.wanted]
   .simp[execOp,Act.eval,Act.put,go_sem,ea,eb,ec]
   .have hb:Below w'.heap.size w' (w'.alloc (.cells #[.slice (some ⟨g,0,none⟩) 4 4,.slice (some ⟨ga,0,none⟩) sz sz,.slice (some ⟨gy,0,none⟩) sz sz,.slice pm nm cm] 60)):=Bw;exact⟨KD.of hb (HSB.out hbx'.1),fA.four w' ⟨some ⟨g,0,none⟩,4,4,Kz⟩ ⟨some ⟨ga,0,none⟩,sz,sz,As A sz⟩ ⟨some ⟨gy,0,none⟩,sz,sz,As Y sz⟩ ⟨pm,nm,cm,msg⟩ e10.2.2.1 e40.2 e70.2 (HM.out.kd hbx'.1) (fun h=>by cases h) (fun h=>by cases h) (fun h=>by cases h) (fun h=>h) (HSC.out hbx'.1) (HSB.out hbx'.1),⟨hbx'.1.trans (KD.of hb (HSB.out hbx'.1)),trivial⟩⟩
  case refine_11=>
   have hx9:∃(q:Nat) (L:List Part),sp 9=.slice (some ⟨q,0,none⟩) 4 4/\Br w' (some ⟨q,0,none⟩) 4 4 L/\(∀P∈L,Gl (w.heap.size+1+1) (w.heap.size+1+1) w' P)/\(w.heap.size+1+1)<=q/\((pm=none->cm=0)->Gs L)/\L.map (·.bs)=[Kz,As A sz,As Y sz,msg]:=(hdp 9 (mq (by kernel_rfl))).2
   (with_reducible refine Aw hx9 fun q e90=>Aw e90 fun L e91=>?_)
   have h1:=e91.1;have hw:whole L=MM:=by rw[Sp,e91.2.2.2.2.2];exact HMM.out
   (with_reducible refine Ac (w1:=w') (f := 164) (args:=#[.slice (some ⟨q,0,none⟩) 4 4]) ?_ ?_ ?_)
   .simp only[Region.wanted]
   .simp[Act.eval,Act.put,go_sem,h1]
   .refine(Vm w' _ 4 4 L e91.2.1 (e91.2.2.2.2.1 HZM.out) (by rw[hw,HLL.out];exact HLb.out)).mono ?_;rintro en w9 ⟨u,rfl,hu,hb⟩;rw[hw]at hu
    exact⟨u,rfl,KD.of hb (HSB.out hbx'.1),hu.prt (HSC.out hbx'.1) HM8.out HLL.out,⟨hbx'.1.trans (KD.of hb (HSB.out hbx'.1)),trivial⟩⟩
  case refine_12=>
   have k10:bU (w.heap.size+1+1) (w.heap.size+1+1) LL MM (sp 10) w':=(hdp 10 (mq (by kernel_rfl))).2
   (with_reducible refine Af (w1:=w') (v:=sp 10) ?_ ?_ ?_)
   .simp[Region.wanted,yielded,Act.put,go_sem]
   .simp[execOp,Act.eval,Act.put,go_sem]
   .exact⟨KD.same _ _ _,k10,hbx'⟩
  all_goals ((with_reducible refine Ad ?_ ?_);all_goals first|(simp only[Region.wanted];done)|simp[Region.wanted,yielded,execOp,Act.eval,Act.put,go_sem])
 .intro sp w8 hsp hk;obtain⟨pz,cz,ez,hz,_⟩:bU (w.heap.size+1+1) (w.heap.size+1+1) LL MM (sp 11) w8:=hsp 11 rfl;have HZ:=Ab hz.ok;have HB7:Aa (Below w.heap.size w w8):=⟨HBL.out.trans (hk.1.k.bel.mono (by omega))⟩
  clear hsp hk hz;simp only[Am,Nat.reduceAdd];rw[ez];clear ez;generalize sp 0=y0,sp 1=y1,sp 4=y4,sp 7=y7,sp 9=y9,sp 10=y10 at *
  go_simp
  go_wp2;go_ret;exact⟨pz,cz,rfl,HZ.out,HB7.out⟩
end Go.Proofs.YthgoeiegdhphjaaGreatDoor
