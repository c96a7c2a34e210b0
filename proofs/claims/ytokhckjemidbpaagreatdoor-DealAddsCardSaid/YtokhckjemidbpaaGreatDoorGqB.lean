/- A group's product, its power, its members. -/
import Derived.Test.YtokhckjemidbpaaGreatDoorCurW
import Derived.Test.YtokhckjemidbpaaGreatDoorExp
import Derived.Test.YtokhckjemidbpaaGreatDoorCpD
set_option maxRecDepth 1000000
set_option maxHeartbeats 16000000
set_option linter.all false
namespace Go.Proofs.YtokhckjemidbpaaGreatDoor
theorem Vx (xs ys:List Nat):be (xs++ys)=be xs*B8 ys.length+be ys:=by
 unfold be;rw[List.reverse_append,Vd,List.length_reverse,Nat.mul_comm (B8 _),Nat.add_comm]
theorem aG:∀(bs:List Nat) (a:Nat),bs.foldl (fun n x=>n*256+x) a=a*B8 bs.length+be bs
 | [],a=>by simp[be,le,Ri]
 | x::xs,a=>by
  rw[List.foldl_cons,aG xs,show x::xs=[x]++xs from rfl,Vx,List.length_append,List.length_singleton,Nat.add_comm 1,Oo];have h1:be [x]=x:=by simp[be,le]
  rw[h1,Nat.add_mul,Nat.mul_assoc,Nat.add_assoc]
theorem Wu (bs:List Nat):cT bs=be bs:=by
 unfold cT;rw[aG];simp
def Bx:List (Nat×Nat)->Nat
 | []=>1
 | (b,e)::l=>b^e*Bx l
theorem Va (P:Nat):∀(l:List (Nat×Nat)) (x:Nat),Kl P x l%P=x*Bx l%P
 | [],x=>by simp[Kl,Bx]
 | (b,e)::l,x=>by
  rw[Kl,Va P l,Bx,Nat.mod_mul_mod,Nat.mul_assoc x (b^e%P),<-Nat.mul_mod_mod x (b^e%P*Bx l),Nat.mod_mul_mod,Nat.mul_mod_mod]
theorem gB {P:Nat}(hP:2<=P)(l:List (Nat×Nat)):Kl P 1 l=Bx l%P:=by
 have:=Va P l 1;rw[Nat.mod_eq_of_lt (Si hP l 1 (by omega)),Nat.one_mul]at this
 exact this
theorem Mp:∀(l:List (Nat×Nat)) (b e:Nat),Bx (l++[(b,e)])=Bx l*b^e
 | [],b,e=>by simp[Bx]
 | (c,d)::l,b,e=>by rw[List.cons_append,Bx,Mp l,Bx,Nat.mul_assoc]
def Me (i:Nat)(l:List (Nat×Nat)):List (Nat×Nat):=l.map fun p=>(p.1,p.2/2^i)
def Nd (i:Nat)(l:List (Nat×Nat)):List (Nat×Nat):=l.map fun p=>(p.1,p.2/2^i%2)
theorem iD (l:List (Nat×Nat)):Me 0 l=l:=by simp[Me]
theorem Yz (i:Nat):∀l:List (Nat×Nat),Bx (Me i l)=Bx (Me (i+1) l)*Bx (Me (i+1) l)*Bx (Nd i l)
 | []=>rfl
 | (b,e)::l=>by
  have h1:e/2^i=e/2^(i+1)+e/2^(i+1)+e/2^i%2:=by
   rw[Nat.pow_succ,<-Nat.div_div_eq_div_mul];omega
  have h2:b^(e/2^i)=b^(e/2^(i+1))*b^(e/2^(i+1))*b^(e/2^i%2):=by
   rw[<-Nat.pow_add,<-Nat.pow_add,<-h1]
  show b^(e/2^i)*Bx (Me i l)=(b^(e/2^(i+1))*Bx (Me (i+1) l))*(b^(e/2^(i+1))*Bx (Me (i+1) l))*(b^(e/2^i%2)*Bx (Nd i l));rw[h2,Yz i l]
  ac_rfl
theorem Yy (i:Nat):∀l:List (Nat×Nat),(∀p∈l,p.2<2^i)->Bx (Me i l)=1
 | [],_=>rfl
 | (b,e)::l,h=>by
  show b^(e/2^i)*Bx (Me i l)=1;rw[Yy i l fun p hp=>h p (List.mem_cons_of_mem _ hp),Nat.div_eq_of_lt (h (b,e) List.mem_cons_self)];simp
theorem iP {i:Nat}{l:List (Nat×Nat)}{k b e:Nat}(h:l[k]? = some (b,e)):Nd i (l.take (k+1))=Nd i (l.take k)++[(b,e/2^i%2)]:=by
 unfold Nd;rw[Cz h,List.map_append];rfl
def Gr:List Nat->Nat
 | []=>0
 | x::l=>max (Bh x) (Gr l)
theorem Sj:∀(l:List Nat) (x:Nat),Gr (l++[x])=max (Gr l) (Bh x)
 | [],x=>by simp[Gr]
 | y::l,x=>by rw[List.cons_append,Gr,Sj l,Gr];omega
theorem Zn:∀(l:List Nat) (x:Nat),x∈l->x<2^Gr l
 | y::l,x,h=>by
  rcases List.mem_cons.1 h with rfl|h
  .exact Da (Oh x) (Nat.pow_le_pow_right (by omega) (Nat.le_max_left _ _))
  .exact Da (Zn l x h) (Nat.pow_le_pow_right (by omega) (Nat.le_max_right _ _))
theorem Zo {m:Nat}:∀(l:List Nat),(∀x∈l,Bh x<=m)->Gr l<=m
 | [],_=>Nat.zero_le _
 | y::l,h=>Nat.max_le.2 ⟨h y List.mem_cons_self,Zo l fun x hx=>h x (List.mem_cons_of_mem _ hx)⟩
theorem oI {P X Y s:Nat}:((X*(256^s%P))%P+Y)%P=(X*256^s+Y)%P:=by
 rw[Nat.mul_mod_mod,Nat.mod_add_mod]
theorem kV (seed:List Nat)(P c:Nat):∃bs:List Nat,(Hk (Kr [] seed) [104,c] ((8+Dl P+31)/32)).take (8+Dl P)=bs/\bs.length=8+Dl P/\Bc bs/\be (bs.take 8)*256^Dl P+be (bs.drop 8)=Fp seed P c:=by
 have hl:((Hk (Kr [] seed) [104,c] ((8+Dl P+31)/32)).take (8+Dl P)).length=8+Dl P:=by
  rw[List.length_take,Hr];omega
 refine⟨_,rfl,hl,(Sr _ _ _).take _,?_⟩;obtain⟨bs,hb⟩:∃x,(Hk (Kr [] seed) [104,c] ((8+Dl P+31)/32)).take (8+Dl P)=x:=⟨_,rfl⟩
 have hh:Fp seed P c=be bs:=by rw[<-hb];unfold Fp;rw[Nat.add_comm (Dl P) 8]
 rw[hb]at hl ⊢
 have h2:=Vx (bs.take 8) (bs.drop 8);rw[List.take_append_drop,List.length_drop,hl,show 8+Dl P-8=Dl P by omega]at h2
 rw[hh,h2];rfl
theorem nO (A t P:Nat):(A%P)^t%P=A^t%P:=(Nat.pow_mod A t P).symm
theorem dL {f:Nat->Nat}{k c:Nat}(h:1<f c):Fa f (k+1) c=some (f c):=by rw[Fa,if_pos h]
theorem Sn:∀i,i<3->Dl (gP i)=qJ i
 | 0,_=>by kernel_rfl
 | 1,_=>by kernel_rfl
 | 2,_=>by kernel_rfl
 | _+3,h=>by omega
theorem Sq (key info:List Nat):Hk key info 1=Kr key (info++[1]):=by
 simp[Hk,Tk]
theorem kU:∀i,i<3->Fp [] (gP i) 0=cT (Sp i)
 | 0,h=>by
  rw[Wu];unfold Fp;rw[Sn 0 h,Xa];show be ((Hk _ _ 1).take 10)=_;rw[Sq];show be ((Kr _ [104,0,1]).take 10)=_;rw[bS];rfl
 | 1,h=>by
  rw[Wu];unfold Fp;rw[Sn 1 h,Xa];show be ((Hk _ _ 1).take 11)=_;rw[Sq];show be ((Kr _ [104,0,1]).take 11)=_;rw[bS];rfl
 | 2,h=>by
  rw[Wu];unfold Fp;rw[Sn 2 h,Xa];show be ((Hk _ _ 1).take 17)=_;rw[Sq];show be ((Kr _ [104,0,1]).take 17)=_;rw[bS];rfl
 | _+3,h=>by omega
theorem dI:∀i,i<3->(gP i-1)/gQ i=Mw i
 | 0,_=>by decide
 | 1,_=>by decide
 | 2,_=>by decide
 | _+3,h=>by omega
theorem pN (i:Nat)(hi:i<3):Td (gP i) (gQ i) (gG i):=by
 obtain⟨h1,h2,h3,_⟩:=Ip i hi;exact⟨by rw[Vi i hi];exact Nat.mul_mod_right _ _,h1,h2,h3,Vj i hi⟩
theorem fY (i:Nat)(hi:i<3):newSpec (gP i) (gQ i) (gG i) [] (Eo i)=(0,gH i):=by
 have h1:Fp [] (gP i) 0^((gP i-1)/gQ i)%gP i=gH i:=by rw[kU i hi,dI i hi,qK i hi]
 have h2:=(Ip i hi).2.2.2.1;unfold newSpec;rw[if_pos ⟨oF i hi,eQ i hi⟩,if_pos (pN i hi)];have h3:Fa (fun c=>Fp [] (gP i) c^((gP i-1)/gQ i)%gP i) 256 0=some (gH i):=by
  rw[dL (by show 1<_;rw[h1];exact h2)];show some (Fp [] (gP i) 0^((gP i-1)/gQ i)%gP i)=_;rw[h1]
 rw[h3]
theorem dK:∀i,i<3->∀s∈Eo i,s.ps.length<=1000
 | 0,_=>by intro s hs;cases hs
 | 1,_=>by intro s hs;rcases List.mem_singleton.1 hs with rfl;simp
 | 2,_=>by
  intro s hs;rcases List.mem_cons.1 hs with rfl|hs
  .simp
  .rcases List.mem_singleton.1 hs with rfl;simp
 | _+3,h=>by omega
open Go Go.RowKit Go.Proofs.YtokhckjemidbpaaGreatDoor.Flow
theorem eR (w:World):Fit 0 0 (.agg #[.slice none 0 0]) w:=Fit.of (Ag.nil w) (by decide)
theorem Qd (w:World) :
  Calls Tryz.prog 57 #[.pointer none] w fun en w'=>en=.returned (.agg #[.slice none 0 0])/\Below w.heap.size w w':=by
 have hb1:=Ae.made w (.slice none 0 0);have c1:=hb1.cell;have f1:=hb1.free;have hbel:Below w.heap.size w (w.alloc (.cells #[.slice none 0 0] 37)):=Bt;go_enter Tryz.func57,Tryz.ntmps57;go_wp2;exact bodyPost_ret (v:=.agg #[.slice none 0 0]) (by simp[results,Tryz.results57,go_sem,c1]) rfl ⟨rfl,hbel⟩
theorem Am.trans {B:Nat}{w1 w2 w3:World}(h:Am B w1 w2)(k:Am B w2 w3):Am B w1 w3:=⟨h.bel.trans k.bel,fun p n c N x=>k.nat p n c N (h.nat p n c N x)⟩
theorem Am.drew (B:Nat)(w:World):Am B w w.drew:=⟨(Ba _ _).drew,fun _ _ _ _ k=>k.below ((Ba _ _).drew)⟩
structure RG (B:Nat) (wx:World) (l:List (Nat×Obj)) (w:World):Prop where
 keep:Am B wx w
 base:B<=w.heap.size
 blk:∀x∈l,w.heap[x.1]? = some x.2
theorem RG.start {B:Nat}{wx:World}{l:List (Nat×Obj)}(hB:B<=wx.heap.size)(hl:∀x∈l,wx.heap[x.1]? = some x.2):RG B wx l wx.drew:=⟨Am.drew _ _,hB,hl⟩
theorem RG.later {B:Nat}{wx:World}{l:List (Nat×Obj)}{w w':World}(h:RG B wx l w)(hb:Below w.heap.size w w'):RG B wx l w' :=
 ⟨h.keep.trans (Am.of hb h.base),Er h.base hb.size,fun x hx=>by rw[hb.block x.1 (Gs (h.blk x hx)).1];exact h.blk x hx⟩
theorem RG.store {B:Nat}{wx:World}{l:List (Nat×Obj)}{w:World}{b m d:Nat}{q:Option Addr}(h:RG B wx l w)(hb:Ae w b (.slice q m d))(hB:B<=b)(hn:∀x∈l,x.1≠b)(v:Value):RG B wx l (w.setCell ⟨b,0,none⟩ v) :=
 ⟨h.keep.trans (Am.store hb hB v),by simpa using h.base,fun x hx=>by
  have:=hn x hx;simp[World.setCell,Array.getElem?_modify,this.symm];exact h.blk x hx⟩
theorem RG.of {B:Nat}{wx:World}{l:List (Nat×Obj)}{w:World}(h:RG B wx l w){b:Nat}{o:Obj}(hm:(b,o)∈l):w.heap[b]? = some o:=h.blk _ hm
def Ya (d:Bool)(b N:Nat)(w:World):Prop:=∃p n c,Ae w b (.slice p n c)/\(d=true->Ag w p n c N)
theorem Ya.fresh {w:World}{b N:Nat}{p:Option Addr}{n c:Nat}(h:Ae w b (.slice p n c)):Ya false b N w:=⟨p,n,c,h,fun e=>by cases e⟩
theorem Ya.later {d:Bool}{b N:Nat}{w w':World}(h:Ya d b N w)(hb:Below w.heap.size w w'):Ya d b N w' :=
 let ⟨p,n,c,h1,h2⟩:=h
 ⟨p,n,c,h1.below hb h1.lt,fun e=>(h2 e).below hb⟩
theorem Ya.put {d:Bool}{b N:Nat}{w:World}(h:Ya d b N w){p:Option Addr}{n c:Nat}(hx:Ag w p n c N):∃q m k,Ae w b (.slice q m k)/\Ya true b N (w.setCell ⟨b,0,none⟩ (.slice p n c)) :=
 let ⟨q,m,k,h1,_⟩:=h
 ⟨q,m,k,h1,p,n,c,h1.set _,fun _=>hx.store h1 _⟩
def bI (d f:Bool)(v:Value)(B N:Nat)(w:World):Prop:=B<=w.heap.size/\(d=true->∃b,v=.pointer (some ⟨b,0,none⟩)/\B<=b/\Ya f b N w)
theorem bI.start {v:Value}{B N:Nat}{w:World}(h:B<=w.heap.size):bI false false v B N w:=⟨h,fun e=>by cases e⟩
theorem bI.later {d f:Bool}{v:Value}{B N:Nat}{w w':World}(h:bI d f v B N w)(hb:Below w.heap.size w w'):bI d f v B N w' :=
 ⟨Er h.1 hb.size,fun e=>let ⟨b,h1,h2,h3⟩:=h.2 e;⟨b,h1,h2,h3.later hb⟩⟩
theorem bI.made {v:Value}{B N:Nat}{w:World}(h:bI false false v B N w):bI true false (.pointer (some ⟨w.heap.size,0,none⟩)) B N (w.alloc (.cells #[.slice none 0 0] 37)) :=
 ⟨by simp;have:=h.1;omega,fun _=>⟨_,rfl,h.1,Ya.fresh (Ae.made _ _)⟩⟩
theorem bI.put {f:Bool}{v:Value}{B N:Nat}{w:World}(h:bI true f v B N w){p:Option Addr}{n c:Nat}(hx:Ag w p n c N) :
  ∃b q m k,v=.pointer (some ⟨b,0,none⟩)/\B<=b/\Ae w b (.slice q m k)/\bI true true v B N (w.setCell ⟨b,0,none⟩ (.slice p n c)) :=
 let ⟨b,h1,h2,h3⟩:=h.2 rfl
 let ⟨q,m,k,h4,h5⟩:=h3.put hx
 ⟨b,q,m,k,h1,h2,h4,by simpa using h.1,fun _=>⟨b,h1,h2,h5⟩⟩
theorem RG.store_over {B B2:Nat}{wx:World}{l:List (Nat×Obj)}{w:World}{b m d:Nat}{q:Option Addr}(h:RG B wx l w)(hb:Ae w b (.slice q m d))(hB:B<=B2)(hB2:B2<=b)(hl:∀x∈l,x.1<B2)(v:Value):RG B wx l (w.setCell ⟨b,0,none⟩ v) :=
 h.store hb (Er hB hB2) (fun x hx=>by have:=hl x hx;omega) v
def Gm (e N:Nat)(t v:Value)(w:World):Prop:=∃p n c,v=.tuple #[.agg #[.slice p n c],t]/\Ag w p n c N/\N<An e
theorem Gm.keep {e N B:Nat}{t v:Value}{w w':World}(h:Gm e N t v w)(k:Am B w w'):Gm e N t v w' :=
 let ⟨p,n,c,h1,h2,h3⟩:=h
 ⟨p,n,c,h1,k.nat _ _ _ _ h2,h3⟩
theorem Ring.keep {B r M f:Nat}{w w':World}(h:Ring w r M f)(hr:r<B)(k:Am B w w'):Ring w' r M f:=by
 obtain⟨p,n,c,h1,h2,h3⟩:=h.at_.ex
 exact⟨⟨p,n,c,by rw[k.bel.block r hr];exact h1,k.nat _ _ _ _ h2,h3⟩,h.two,h.lim,h.few⟩
structure Au (w:World) (b P Q G H:Nat):Prop where
 ex:∃rp rq pg ng cg ph nh ch,w.heap[b]? = some (.cells #[.pointer (some ⟨rp,0,none⟩),.pointer (some ⟨rq,0,none⟩),.slice pg ng cg,.slice ph nh ch] 141 (0,0))/\Ring w rp P 33/\Ring w rq Q 33/\Ag w pg ng cg G/\G<An 33/\Ag w ph nh ch H/\H<An 33
theorem Au.lt {w:World}{b P Q G H:Nat}(h:Au w b P Q G H):b<w.heap.size:=by
 obtain⟨_,_,_,_,_,_,_,_,h1,_⟩:=h.ex;exact(Gs h1).1
theorem Au.below {w w':World}{b P Q G H:Nat}(h:Au w b P Q G H)(hb:Below w.heap.size w w'):Au w' b P Q G H:=by
 have hl:=h.lt;obtain⟨rp,rq,pg,ng,cg,ph,nh,ch,h1,h2,h3,h4,h5,h6,h7⟩:=h.ex;exact⟨rp,rq,pg,ng,cg,ph,nh,ch,by rw[hb.block b hl];exact h1,h2.below hb,h3.below hb,h4.below hb,h5,h6.below hb,h7⟩
theorem Au.keep {B:Nat}{w w':World}{b P Q G H:Nat}(h:Au w b P Q G H)(hB:w.heap.size<=B)(k:Am B w w'):Au w' b P Q G H:=by
 have hl:=h.lt;obtain⟨rp,rq,pg,ng,cg,ph,nh,ch,h1,h2,h3,h4,h5,h6,h7⟩:=h.ex;exact⟨rp,rq,pg,ng,cg,ph,nh,ch,by rw[k.bel.block b (by omega)];exact h1,h2.keep (by have:=h2.at_.lt;omega) k,h3.keep (by have:=h3.at_.lt;omega) k,k.nat _ _ _ _ h4,h5,k.nat _ _ _ _ h6,h7⟩
theorem Au.lims {w:World}{b P Q G H:Nat}(h:Au w b P Q G H):2<=P/\P<An 33/\2<=Q/\Q<An 33:=by
 obtain⟨_,_,_,_,_,_,_,_,_,h2,h3,_⟩:=h.ex;exact⟨h2.two,h2.lim,h3.two,h3.lim⟩
structure Ol (B:Nat) (w:World) (b P Q G H:Nat):Prop where
 ex:∃w0,Au w0 b P Q G H/\w0.heap.size<=B/\Am B w0 w
theorem Ol.of {B:Nat}{w w':World}{b P Q G H:Nat}(h:Au w b P Q G H)(hB:w.heap.size<=B)(k:Below w.heap.size w w')(hB2:B<=w.heap.size:=by exact Aw _):Ol B w' b P Q G H:=⟨w,h,hB,Am.of k hB2⟩
theorem Ol.keep {B:Nat}{w w':World}{b P Q G H:Nat}(h:Ol B w b P Q G H)(k:Am B w w'):Au w' b P Q G H :=
 let ⟨_,h1,h2,h3⟩:=h.ex
 h1.keep h2 (h3.trans k)
theorem Db {w:World}{b:Nat}{v0 v1 v2 v3:Value}(h:w.heap[b]? = some (.cells #[v0,v1,v2,v3] 141 (0,0))) :
  w.cell? ⟨b,0,none⟩=some v0/\w.cell? ⟨b,1,none⟩=some v1/\w.cell? ⟨b,2,none⟩=some v2/\w.cell? ⟨b,3,none⟩=some v3:=by
 simp[World.cell?,h]
theorem Ex (w:World)(b:Nat):Calls Tryz.prog 81 #[.pointer (some ⟨b,0,none⟩)] w fun e w'=>e=.returned (.pointer (some ⟨b,0,none⟩))/\w'=w:=by
 go_enter Tryz.func81,Tryz.ntmps81;go_wp2;go_ret;exact⟨rfl,rfl⟩
def Xy (w:World)(b:Nat):Prop:=w.heap[b]? = some (.cells #[.pointer none,.pointer none,.slice none 0 0,.slice none 0 0] 141 (0,0))
theorem Xy.cells {w:World}{b:Nat}(h:Xy w b):w.cell? ⟨b,0,none⟩=some (.pointer none)/\w.cell? ⟨b,1,none⟩=some (.pointer none):=by
 obtain⟨h0,h1,_⟩:=Db h;exact⟨h0,h1⟩
theorem cP (w:World):Calls Tryz.prog 81 #[.pointer none] w fun e w'=>∃b,e=.returned (.pointer (some ⟨b,0,none⟩))/\Xy w' b/\Below w.heap.size w w':=by
 have hn:Xy (w.alloc (.cells #[.pointer none,.pointer none,.slice none 0 0,.slice none 0 0] 141)) w.heap.size:=heap_alloc_new w _;have hb:Below w.heap.size w (w.alloc (.cells #[.pointer none,.pointer none,.slice none 0 0,.slice none 0 0] 141)):=Bt;have HN:=Ab hn;have HB:=Ab hb;clear hn hb;go_enter Tryz.func81,Tryz.ntmps81;go_wp2;go_ret;exact⟨_,rfl,HN.out,HB.out⟩
theorem Ql {w:World}{e N:Nat}{v:Value}(h:Fit e N v w)(he:e<=300000) :
  Calls Tryz.prog 83 #[v] w fun en w'=>∃x,en=.returned x/\Fit e N x w'/\Below w.heap.size w w':=by
 obtain⟨pa,na,ca,rfl,h1,h2⟩:=Ao h;have hbx:=bH.mk2 w (.slice pa na ca) (.slice none 0 0);have hz:∀w',Fit 0 0 (.agg #[.slice none 0 0]) w':=fun w'=>Fit.of (Ag.nil w') (by decide)
 have HZ:=Ai hz;clear hz;go_enter Tryz.func83,Tryz.ntmps83
 go_wp2_with fail
 refine(Ma (h.below hbx.bel) (HZ.out _) (by omega) (by omega)).mono ?_;rintro en w1 ⟨x,rfl,hx,hb⟩;replace hbx:=hbx.later hb;obtain⟨pc,nc,cc,rfl,y1,_⟩:=hx;have c1:=hbx.b1.cell;have f1:=hbx.b1.free;have z1:=hbx.b1.lt;go_wp2;exact bodyPost_ret (v:=.agg #[.slice pc nc cc]) (by simp[results,Tryz.results83,go_sem,c1]) rfl ⟨_,rfl,Fit.of (y1.store hbx.b1 _) h2,hbx.bel.setCell (by simp) _⟩
theorem Qo {w:World}{e N:Nat}{v:Value}(h:Fit e N v w)(he:e<=900000) :
  Calls Tryz.prog 176 #[v] w fun en w'=>en=.returned (.int .i64 (Dl N:Nat))/\Below w.heap.size w w':=by
 obtain⟨p,n,c,rfl,h1,h2⟩:=h;have hn:n<1000000:=by have:=h1.len_le h2;omega
 have hl:Bh N<=30000000:=by have:=In h2;omega
 have hbx:=Dw.mk1 w (.slice p n c) 37;have H1:=Ab (h1.below hbx.bel);have HBX:=Ab hbx.bel;have HS:Aa (Dl N=(Bh N+7)/8):=⟨rfl⟩
 clear h1 h2 hbx;go_enter Tryz.func176,Tryz.ntmps176
 go_wp2_with fail
 refine(Fx _ p n c N H1.out hn).mono ?_;rintro en w1 ⟨rfl,hb1⟩;have HB1:=Ab (Af HBX.out hb1);clear hb1;obtain⟨L,hL⟩:∃L,Bh N=L:=⟨_,rfl⟩
 rw[hL]at hl HS
 simp only[hL];clear hL;go_wp2;go_ret;refine⟨?_,HB1.out⟩;rw[HS.out];exact congrArg (fun z=>Ending.returned (.int .i64 z)) (by omega)
theorem lC {w:World}{b P Q G H:Nat}(h:Au w b P Q G H) :
  Calls Tryz.prog 64 #[.pointer (some ⟨b,0,none⟩)] w fun e w'=>∃x,e=.returned x/\Fit 33 P x w'/\Below w.heap.size w w':=by
 have hb1:=Ae.made w (.slice none 0 0);have hbel:Below w.heap.size w (w.alloc (.cells #[.slice none 0 0] 37)):=Bt;obtain⟨wa,hwa⟩:∃wa,w.alloc (.cells #[.slice none 0 0] 37)=wa:=⟨_,rfl⟩
 rw[hwa]at hb1 hbel
 obtain⟨rp,rq,pg,ng,cg,ph,nh,ch,h1,h2,h3,h4,h5,h6,h7⟩:=(h.below hbel).ex;obtain⟨c0,cq,c2,c3⟩:=Db h1;have HR:=Ab h2;have HBX:=Ab hb1;have HB:=Ab hbel;clear h h1 h2 h3 h4 h5 h6 h7 hb1 hbel;go_enter Tryz.func64,Tryz.ntmps64
 go_wp2_with fail
 refine(Ex wa b).mono ?_;rintro en w1 ⟨rfl,rfl⟩
 go_wp2_with fail
 refine(Ff HR.out).mono ?_;rintro en w2 ⟨x,rfl,hx,hb2⟩;obtain⟨pc,nc,cc,rfl,y1,y2⟩:=hx;have hbn:=HBX.out.below hb2 HBX.out.lt;have k1:=hbn.cell;have f1:=hbn.free;have z1:=hbn.lt;clear c0 cq c2 c3;go_wp2;exact bodyPost_ret (v:=.agg #[.slice pc nc cc]) (by simp[results,Tryz.results64,go_sem,k1]) rfl ⟨_,rfl,Fit.of (y1.store hbn _) y2,(Af HB.out hb2).setCell (by simp) _⟩
theorem pP {w:World}{b P Q G H:Nat}(h:Au w b P Q G H) :
  Calls Tryz.prog 26 #[.pointer (some ⟨b,0,none⟩)] w fun e w'=>∃x,e=.returned x/\Fit 33 G x w'/\Below w.heap.size w w':=by
 have hb1:=Ae.made w (.slice none 0 0);have hbel:Below w.heap.size w (w.alloc (.cells #[.slice none 0 0] 37)):=Bt;obtain⟨wa,hwa⟩:∃wa,w.alloc (.cells #[.slice none 0 0] 37)=wa:=⟨_,rfl⟩
 rw[hwa]at hb1 hbel
 obtain⟨rp,rq,pg,ng,cg,ph,nh,ch,h1,h2,h3,h4,h5,h6,h7⟩:=(h.below hbel).ex;obtain⟨c0,cq,c2,c3⟩:=Db h1;have HR:=Ab (Fit.of h4 h5);have HBX:=Ab hb1;have HB:=Ab hbel;clear h h1 h2 h3 h4 h5 h6 h7 hb1 hbel;go_enter Tryz.func26,Tryz.ntmps26
 go_wp2_with fail
 refine(Ex wa b).mono ?_;rintro en w1 ⟨rfl,rfl⟩
 go_wp2_with fail
 refine(Ql HR.out (by decide)).mono ?_;rintro en w2 ⟨x,rfl,hx,hb2⟩;obtain⟨pc,nc,cc,rfl,y1,y2⟩:=hx;have hbn:=HBX.out.below hb2 HBX.out.lt;have k1:=hbn.cell;have f1:=hbn.free;have z1:=hbn.lt;clear c0 cq c2 c3;go_wp2;exact bodyPost_ret (v:=.agg #[.slice pc nc cc]) (by simp[results,Tryz.results26,go_sem,k1]) rfl ⟨_,rfl,Fit.of (y1.store hbn _) y2,(Af HB.out hb2).setCell (by simp) _⟩
theorem pO {w:World}{b P Q G H:Nat}(h:Au w b P Q G H) :
  Calls Tryz.prog 53 #[.pointer (some ⟨b,0,none⟩)] w fun e w'=>∃x,e=.returned x/\Fit 33 H x w'/\Below w.heap.size w w':=by
 have hb1:=Ae.made w (.slice none 0 0);have hbel:Below w.heap.size w (w.alloc (.cells #[.slice none 0 0] 37)):=Bt;obtain⟨wa,hwa⟩:∃wa,w.alloc (.cells #[.slice none 0 0] 37)=wa:=⟨_,rfl⟩
 rw[hwa]at hb1 hbel
 obtain⟨rp,rq,pg,ng,cg,ph,nh,ch,h1,h2,h3,h4,h5,h6,h7⟩:=(h.below hbel).ex;obtain⟨c0,cq,c2,c3⟩:=Db h1;have HR:=Ab (Fit.of h6 h7);have HBX:=Ab hb1;have HB:=Ab hbel;clear h h1 h2 h3 h4 h5 h6 h7 hb1 hbel;go_enter Tryz.func53,Tryz.ntmps53
 go_wp2_with fail
 refine(Ex wa b).mono ?_;rintro en w1 ⟨rfl,rfl⟩
 go_wp2_with fail
 refine(Ql HR.out (by decide)).mono ?_;rintro en w2 ⟨x,rfl,hx,hb2⟩;obtain⟨pc,nc,cc,rfl,y1,y2⟩:=hx;have hbn:=HBX.out.below hb2 HBX.out.lt;have k1:=hbn.cell;have f1:=hbn.free;have z1:=hbn.lt;clear c0 cq c2 c3;go_wp2;exact bodyPost_ret (v:=.agg #[.slice pc nc cc]) (by simp[results,Tryz.results53,go_sem,k1]) rfl ⟨_,rfl,Fit.of (y1.store hbn _) y2,(Af HB.out hb2).setCell (by simp) _⟩
theorem Ez {w:World}{b P Q G H:Nat}(h:Au w b P Q G H) :
  Calls Tryz.prog 30 #[.pointer (some ⟨b,0,none⟩)] w fun e w'=>∃r,e=.returned (.pointer (some ⟨r,0,none⟩))/\Ring w' r Q 33/\Below w.heap.size w w':=by
 have hq:=h.lims.2.2.1;obtain⟨rp,rq,pg,ng,cg,ph,nh,ch,h1,h2,h3,h4,h5,h6,h7⟩:=h.ex;obtain⟨c0,cq,c2,c3⟩:=Db h1;have HR:=Ab h3;clear h h1 h2 h3 h4 h5 h6 h7;go_enter Tryz.func30,Tryz.ntmps30
 go_wp2_with fail
 refine(Ex w b).mono ?_;rintro en w1 ⟨rfl,rfl⟩
 go_wp2_with fail
 refine(Ff HR.out).mono ?_;rintro en w2 ⟨x,rfl,hx,hb2⟩;have HX:=Ab hx;have HB2:=Ab hb2;clear hx hb2 c0 cq c2 c3
 go_wp2_with fail
 refine(He HX.out (by decide)).mono ?_;rintro en w3 ⟨hb3,hh⟩;rcases hh with ⟨hl,_⟩|⟨_,r,rfl,hr,_⟩
 .omega
 have HR3:=Ab hr;have HB3:=Ab (Af HB2.out hb3);clear hr hb3;go_wp2;go_ret;exact⟨r,rfl,HR3.out,HB3.out⟩
theorem dH (w:World):Calls Tryz.prog 30 #[.pointer none] w fun e w'=>e=.returned (.pointer none)/\Below w.heap.size w w':=by
 go_enter Tryz.func30,Tryz.ntmps30
 go_wp2_with fail
 refine(cP w).mono ?_;rintro en w1 ⟨b,rfl,hn,hb1⟩;obtain⟨c0,c1⟩:=hn.cells;have HB1:=Ab hb1;clear hn hb1
 go_wp2_with fail
 refine(Qd w1).mono ?_;rintro en w2 ⟨rfl,hb2⟩;have HB2:=Ab (Af HB1.out hb2);have HF:=Ab (eR w2);clear hb2 c0 c1
 go_wp2_with fail
 refine(He HF.out (by decide)).mono ?_;rintro en w3 ⟨hb3,hh⟩;rcases hh with ⟨_,rfl⟩|⟨hl,_⟩
 .have HB3:Aa _:=⟨Af HB2.out hb3⟩
  clear hb3;go_wp2;go_ret;exact⟨rfl,HB3.out⟩
 .omega
theorem Vf {w:World}{e N:Nat}{v:Value}(h:Fit e N v w)(he:e<=900000) :
  Calls Tryz.prog 148 #[v] w fun en w'=>en=.returned (.bool (decide (N=1)))/\Below w.heap.size w w':=by
 obtain⟨p,n,c,rfl,h1,h2⟩:=h;have hb1:=Ae.made w (.slice p n c);have hbel:Below w.heap.size w (w.alloc (.cells #[.slice p n c] 37)):=Bt;obtain⟨wa,hwa⟩:∃wa,w.alloc (.cells #[.slice p n c] 37)=wa:=⟨_,rfl⟩
 rw[hwa]at hb1 hbel
 have HF:=Ab ((Fit.of h1 h2).below hbel);have HBX:=Ab hb1;have HB:=Ab hbel;obtain⟨K,hK⟩:∃K,Bm N 1=K:=⟨_,rfl⟩
 have HK:=Ab hK;obtain⟨X,hX⟩:∃X,decide (N=1)=X:=⟨_,rfl⟩
 have hE:((K:Int)==0)=X:=by
  rw[<-hK,<-hX]
  by_cases hn:N=1
  .simp[hn,Bv.2]
  .have:Bm N 1≠0:=fun h0=>hn (Bv.1 h0)
   simp[hn,this]
 rw[hX];clear hK hX h1 h2 hb1 hbel;go_enter Tryz.func148,Tryz.ntmps148;go_wp2;refine Aj (by kernel_rfl) (by kernel_rfl)
  [some (.agg #[.slice p n c]),none,none,some (.bool X),some (.bool X)]
  [false,true,true,false,false] rfl
  (fun w1 w2=>Am (w.heap.size) w1 w2)
  (fun D sp w'=>RG (w.heap.size) wa [(w.heap.size,.cells #[.slice p n c] 37 (0,0))] w'/\True)
  (fun i v w'=>match i with
   | 1=>Fit 1 1 v w'
   | 2=>v=.int .i64 K
   | _=>True)
  ?_ ⟨RG.start HB.out.size (List.forall_mem_cons.2 ⟨HBX.out,fun x hx=>by cases hx⟩),trivial⟩ ?_ ?_
 .intro i v w1 w2 hf hb;split at hf
  .exact hf.keep hb
  .exact hf
  .trivial
 .simp only[Az,Nat.reduceAdd];refine⟨?_,?_,?_,?_,?_,trivial⟩
  all_goals intro D sp w' hD hW hdp hg
  case refine_1=>
   have c0:w'.cell? ⟨w.heap.size,0,none⟩=some (.slice p n c):=Ae.cell (hg.1.of List.mem_cons_self)
   with_reducible refine Ad ?_ ?_
   all_goals simp[Region.wanted,yielded,execOp,Act.eval,Act.put,go_sem,c0]
  case refine_2=>
   (with_reducible refine Ac (w1:=w') (f := 17) (args:=#[.int .u64 1]) ?_ ?_ ?_)
   .simp[Region.wanted,yielded,Act.put,go_sem]
   .simp[Act.eval,Act.put,go_sem]
   .refine(Ea w').mono ?_;rintro en w9 ⟨u,rfl,hu,hb⟩;exact⟨u,rfl,Am.of hb hg.1.base,hu,hg.1.later hb,trivial⟩
  case refine_3=>
   have k1:Fit 1 1 (sp 1) w':=(hdp 1 (mq (by kernel_rfl))).2
   (with_reducible refine Ac (w1:=w') (f := 24) (args:=#[.agg #[.slice p n c],sp 1]) ?_ ?_ ?_)
   .simp[Region.wanted,yielded,Act.put,go_sem]
   .simp[Act.eval,Act.put,go_sem]
   .refine(Bf (HF.out.keep hg.1.keep) k1 he (by decide) HK.out).mono ?_;rintro en w9 ⟨u,rfl,rfl,hb⟩;exact⟨_,rfl,Am.of hb hg.1.base,rfl,hg.1.later hb,trivial⟩
  case refine_4=>
   have k2:(sp 2)=.int .i64 K:=(hdp 2 (mq (by kernel_rfl))).2
   with_reducible refine Ad ?_ ?_
   all_goals simp[Region.wanted,yielded,execOp,Act.eval,Act.put,go_sem,k2,hE]
  all_goals ((with_reducible refine Ad ?_ ?_);all_goals first|(simp only[Region.wanted];done)|simp[Region.wanted,yielded,execOp,Act.eval,Act.put,go_sem])
 .intro sp w7 hsp hg;have HB7:=Ab (HB.out.trans hg.1.keep.bel);clear hsp hg;simp only[Al,Nat.reduceAdd];generalize sp 1=y1,sp 2=y2 at *
  go_simp
  go_wp2;go_ret;exact⟨rfl,HB7.out⟩
theorem Ku {w:World}{b P Q G H e1 e2 A E:Nat}{v u:Value}(h:Au w b P Q G H)(hv:Fit e1 A v w)(hu:Fit e2 E u w)(he1:e1<=30000)(he2:e2<=30000) :
  Calls Tryz.prog 124 #[.pointer (some ⟨b,0,none⟩),v,u] w fun e w'=>∃x,e=.returned x/\Fit 33 (A*E%P) x w'/\Below w.heap.size w w':=by
 obtain⟨pa,na,ca,rfl,h1,h2⟩:=Ao hv;obtain⟨pb,nb,cb,rfl,k1,k2⟩:=Ao hu;have hbx:=Xz.mk3 w (.slice pa na ca) (.slice pb nb cb) (.slice none 0 0);have hbl:=h.lt;obtain⟨wa,hwa⟩:∃wa,((w.alloc (.cells #[.slice pa na ca] 37)).alloc (.cells #[.slice pb nb cb] 37)).alloc (.cells #[.slice none 0 0] 37)=wa:=⟨_,rfl⟩
 rw[hwa]at hbx
 obtain⟨X,hX⟩:∃X,A*E%P=X:=⟨_,rfl⟩
 have HX:=Ab hX;have HLX:Aa (X<An 33):=⟨by rw[<-hX];exact Nat.lt_trans (Nat.mod_lt _ (by have:=h.lims.1;omega)) h.lims.2.1⟩
 rw[hX];obtain⟨rp,rq,pg,ng,cg,ph,nh,ch,g1,g2,_⟩:=h.ex;have HL:Aa (b<w.heap.size/\rp<w.heap.size):=⟨hbl,g2.at_.lt⟩
 have HG:=Ab ((hbx.bel.block b hbl).trans g1);have HR:=Ab (g2.below hbx.bel);have HA:=Ab ((Fit.of h1 h2).below hbx.bel);have HE:=Ab ((Fit.of k1 k2).below hbx.bel);have HB0:Aa (w.heap.size<=w.heap.size+1+1):=⟨by omega⟩
 have HNE:Aa (∀x∈[((w.heap.size,.cells #[.slice pa na ca] 37 (0,0)):Nat×Obj),(w.heap.size+1,.cells #[.slice pb nb cb] 37 (0,0))],x.1≠w.heap.size+1+1):=⟨List.forall_mem_cons.2 ⟨by simp only;omega,List.forall_mem_cons.2 ⟨by simp only;omega,fun x hx=>by cases hx⟩⟩⟩
 have HBX:=Ab hbx;clear hX g1 g2 h1 h2 k1 k2 hbx hbl h hv hu;go_enter Tryz.func124,Tryz.ntmps124;go_wp2;refine Aj (by kernel_rfl) (by kernel_rfl)
  [some (.pointer (some ⟨b,0,none⟩)),none,some (.pointer (some ⟨b,0,none⟩)),some (.pointer (some ⟨b,0,none⟩)),some (.pointer (some ⟨rp,0,none⟩)),some (.agg #[.slice pa na ca]),some (.agg #[.slice pb nb cb]),none,none]
  [false,true,false,false,false,false,false,true,true] rfl
  (fun w1 w2=>Am (w.heap.size) w1 w2)
  (fun D sp w'=>RG (w.heap.size) wa [(w.heap.size,.cells #[.slice pa na ca] 37 (0,0)),(w.heap.size+1,.cells #[.slice pb nb cb] 37 (0,0))] w'/\Ya (D 8) (w.heap.size+1+1) (X) w')
  (fun i v w'=>match i with
   | 1=>v=.pointer (some ⟨b,0,none⟩)
   | 7=>Fit 33 (X) v w'
   | _=>True)
  ?_ ⟨RG.start HBX.out.bel.size (List.forall_mem_cons.2 ⟨HBX.out.b0,List.forall_mem_cons.2 ⟨HBX.out.b1,fun x hx=>by cases hx⟩⟩),Ya.fresh HBX.out.b2⟩ ?_ ?_
 .intro i v w1 w2 hf hb;split at hf
  .exact hf
  .exact hf.keep hb
  .trivial
 .simp only[Az,Nat.reduceAdd];refine⟨?_,?_,?_,?_,?_,?_,?_,?_,?_,trivial⟩
  all_goals intro D sp w' hD hW hdp hg
  case refine_2=>
   (with_reducible refine Ac (w1:=w') (f := 81) (args:=#[.pointer (some ⟨b,0,none⟩)]) ?_ ?_ ?_)
   .simp[Region.wanted,yielded,Act.put,go_sem]
   .simp[Act.eval,Act.put,go_sem]
   .refine(Ex w' b).mono ?_;rintro en w9 ⟨rfl,rfl⟩;exact⟨_,rfl,Am.same _ _,rfl,hg.1,by simpa [upd]using hg.2⟩
  case refine_3=>
   have k1:(sp 1)=.pointer (some ⟨b,0,none⟩):=(hdp 1 (mq (by kernel_rfl))).2
   with_reducible refine Ad ?_ ?_
   all_goals simp[Region.wanted,yielded,execOp,Act.eval,Act.put,go_sem,k1]
  case refine_5=>
   have c0:=(Db ((hg.1.keep.bel.block b HL.out.1).trans HG.out)).1
   with_reducible refine Ad ?_ ?_
   all_goals simp[Region.wanted,yielded,execOp,Act.eval,Act.put,go_sem,c0]
  case refine_6=>
   have c0:w'.cell? ⟨w.heap.size,0,none⟩=some (.slice pa na ca):=Ae.cell (hg.1.of List.mem_cons_self)
   with_reducible refine Ad ?_ ?_
   all_goals simp[Region.wanted,yielded,execOp,Act.eval,Act.put,go_sem,c0]
  case refine_7=>
   have c0:w'.cell? ⟨w.heap.size+1,0,none⟩=some (.slice pb nb cb):=Ae.cell (hg.1.of (List.mem_cons_of_mem _ List.mem_cons_self))
   with_reducible refine Ad ?_ ?_
   all_goals simp[Region.wanted,yielded,execOp,Act.eval,Act.put,go_sem,c0]
  case refine_8=>
   (with_reducible refine Ac (w1:=w') (f := 33) (args:=#[.pointer (some ⟨rp,0,none⟩),.agg #[.slice pa na ca],.agg #[.slice pb nb cb]]) ?_ ?_ ?_)
   .simp[Region.wanted,yielded,Act.put,go_sem]
   .simp[Act.eval,Act.put,go_sem]
   .refine(Dq (HR.out.keep HL.out.2 hg.1.keep) (HA.out.keep hg.1.keep) (HE.out.keep hg.1.keep) (by omega) (by omega)).mono ?_;rintro en w9 ⟨u,rfl,hu,hb⟩;rw[HX.out]at hu
    exact⟨u,rfl,Am.of hb hg.1.base,hu,hg.1.later hb,by simpa [upd]using hg.2.later hb⟩
  case refine_9=>
   have hx:∃p n c,sp 7=.agg #[.slice p n c]/\Ag w' p n c (X)/\X<An (33):=(hdp 7 (mq (by kernel_rfl))).2
   (with_reducible refine Av hx fun p hx1=>Av hx1 fun n hx2=>Av hx2 fun c hx3=>?_)
   have h1:=hx3.1;have hp:=hg.2.put (hx3.2.1)
   (with_reducible refine Av hp fun q hy1=>Av hy1 fun m hy2=>Av hy2 fun k hy3=>?_)
   have h6:=hy3.1.cell;have h7:=hy3.1.free
   (with_reducible refine Ap (w1:=w'.setCell ⟨w.heap.size+1+1,0,none⟩ (.slice p n c)) ?_ ?_ ?_)
   .simp[Region.wanted,yielded,Act.put,go_sem]
   .simp[execOp,Act.eval,Act.put,go_sem,h1,h6,h7]
   .refine⟨Am.store hy3.1 HB0.out _,trivial,hg.1.store hy3.1 HB0.out HNE.out _,?_⟩;have h8:=hy3.2;simpa [upd]using h8
  all_goals ((with_reducible refine Ad ?_ ?_);all_goals first|(simp only[Region.wanted];done)|simp[Region.wanted,yielded,execOp,Act.eval,Act.put,go_sem])
 .intro sp w7 hsp hg;obtain⟨hg1,pz,nz,cz,hz1,hz2⟩:=hg;have kz:=hz1.cell;have HZ:=Ab (hz2 rfl);have HB7:=Ab (HBX.out.bel.trans hg1.keep.bel);clear hsp hg1 hz1 hz2;simp only[Al,Nat.reduceAdd];generalize sp 1=y1,sp 7=y7,sp 8=y8 at *
  go_simp
  go_wp2;exact bodyPost_ret (v:=.agg #[.slice pz nz cz]) (by simp[results,Tryz.results124,go_sem,kz]) rfl ⟨_,rfl,Fit.of HZ.out HLX.out,HB7.out⟩
theorem aE {w:World}{b P Q G H e1 e2 A E:Nat}{v u:Value}(h:Au w b P Q G H)(hv:Fit e1 A v w)(hu:Fit e2 E u w)(he1:e1<=30000)(he2:e2<=30000) :
  Calls Tryz.prog 25 #[.pointer (some ⟨b,0,none⟩),v,u] w fun e w'=>∃x,e=.returned x/\Fit 33 (A^E%P) x w'/\Below w.heap.size w w':=by
 obtain⟨pa,na,ca,rfl,h1,h2⟩:=Ao hv;obtain⟨pb,nb,cb,rfl,k1,k2⟩:=Ao hu;have hbx:=Xz.mk3 w (.slice pa na ca) (.slice pb nb cb) (.slice none 0 0);have hbl:=h.lt;obtain⟨wa,hwa⟩:∃wa,((w.alloc (.cells #[.slice pa na ca] 37)).alloc (.cells #[.slice pb nb cb] 37)).alloc (.cells #[.slice none 0 0] 37)=wa:=⟨_,rfl⟩
 rw[hwa]at hbx
 obtain⟨X,hX⟩:∃X,A^E%P=X:=⟨_,rfl⟩
 have HX:=Ab hX;have HLX:Aa (X<An 33):=⟨by rw[<-hX];exact Nat.lt_trans (Nat.mod_lt _ (by have:=h.lims.1;omega)) h.lims.2.1⟩
 rw[hX];obtain⟨rp,rq,pg,ng,cg,ph,nh,ch,g1,g2,_⟩:=h.ex;have HL:Aa (b<w.heap.size/\rp<w.heap.size):=⟨hbl,g2.at_.lt⟩
 have HG:=Ab ((hbx.bel.block b hbl).trans g1);have HR:=Ab (g2.below hbx.bel);have HA:=Ab ((Fit.of h1 h2).below hbx.bel);have HE:=Ab ((Fit.of k1 k2).below hbx.bel);have HB0:Aa (w.heap.size<=w.heap.size+1+1):=⟨by omega⟩
 have HNE:Aa (∀x∈[((w.heap.size,.cells #[.slice pa na ca] 37 (0,0)):Nat×Obj),(w.heap.size+1,.cells #[.slice pb nb cb] 37 (0,0))],x.1≠w.heap.size+1+1):=⟨List.forall_mem_cons.2 ⟨by simp only;omega,List.forall_mem_cons.2 ⟨by simp only;omega,fun x hx=>by cases hx⟩⟩⟩
 have HBX:=Ab hbx;clear hX g1 g2 h1 h2 k1 k2 hbx hbl h hv hu;go_enter Tryz.func25,Tryz.ntmps25;go_wp2;refine Aj (by kernel_rfl) (by kernel_rfl)
  [some (.pointer (some ⟨b,0,none⟩)),none,some (.pointer (some ⟨b,0,none⟩)),some (.pointer (some ⟨b,0,none⟩)),some (.pointer (some ⟨rp,0,none⟩)),some (.agg #[.slice pa na ca]),some (.agg #[.slice pb nb cb]),none,none]
  [false,true,false,false,false,false,false,true,true] rfl
  (fun w1 w2=>Am (w.heap.size) w1 w2)
  (fun D sp w'=>RG (w.heap.size) wa [(w.heap.size,.cells #[.slice pa na ca] 37 (0,0)),(w.heap.size+1,.cells #[.slice pb nb cb] 37 (0,0))] w'/\Ya (D 8) (w.heap.size+1+1) (X) w')
  (fun i v w'=>match i with
   | 1=>v=.pointer (some ⟨b,0,none⟩)
   | 7=>Fit 33 (X) v w'
   | _=>True)
  ?_ ⟨RG.start HBX.out.bel.size (List.forall_mem_cons.2 ⟨HBX.out.b0,List.forall_mem_cons.2 ⟨HBX.out.b1,fun x hx=>by cases hx⟩⟩),Ya.fresh HBX.out.b2⟩ ?_ ?_
 .intro i v w1 w2 hf hb;split at hf
  .exact hf
  .exact hf.keep hb
  .trivial
 .simp only[Az,Nat.reduceAdd];refine⟨?_,?_,?_,?_,?_,?_,?_,?_,?_,trivial⟩
  all_goals intro D sp w' hD hW hdp hg
  case refine_2=>
   (with_reducible refine Ac (w1:=w') (f := 81) (args:=#[.pointer (some ⟨b,0,none⟩)]) ?_ ?_ ?_)
   .simp[Region.wanted,yielded,Act.put,go_sem]
   .simp[Act.eval,Act.put,go_sem]
   .refine(Ex w' b).mono ?_;rintro en w9 ⟨rfl,rfl⟩;exact⟨_,rfl,Am.same _ _,rfl,hg.1,by simpa [upd]using hg.2⟩
  case refine_3=>
   have k1:(sp 1)=.pointer (some ⟨b,0,none⟩):=(hdp 1 (mq (by kernel_rfl))).2
   with_reducible refine Ad ?_ ?_
   all_goals simp[Region.wanted,yielded,execOp,Act.eval,Act.put,go_sem,k1]
  case refine_5=>
   have c0:=(Db ((hg.1.keep.bel.block b HL.out.1).trans HG.out)).1
   with_reducible refine Ad ?_ ?_
   all_goals simp[Region.wanted,yielded,execOp,Act.eval,Act.put,go_sem,c0]
  case refine_6=>
   have c0:w'.cell? ⟨w.heap.size,0,none⟩=some (.slice pa na ca):=Ae.cell (hg.1.of List.mem_cons_self)
   with_reducible refine Ad ?_ ?_
   all_goals simp[Region.wanted,yielded,execOp,Act.eval,Act.put,go_sem,c0]
  case refine_7=>
   have c0:w'.cell? ⟨w.heap.size+1,0,none⟩=some (.slice pb nb cb):=Ae.cell (hg.1.of (List.mem_cons_of_mem _ List.mem_cons_self))
   with_reducible refine Ad ?_ ?_
   all_goals simp[Region.wanted,yielded,execOp,Act.eval,Act.put,go_sem,c0]
  case refine_8=>
   (with_reducible refine Ac (w1:=w') (f := 82) (args:=#[.pointer (some ⟨rp,0,none⟩),.agg #[.slice pa na ca],.agg #[.slice pb nb cb]]) ?_ ?_ ?_)
   .simp[Region.wanted,yielded,Act.put,go_sem]
   .simp[Act.eval,Act.put,go_sem]
   .refine(Ii (HR.out.keep HL.out.2 hg.1.keep) (HA.out.keep hg.1.keep) (HE.out.keep hg.1.keep) (by omega) (by omega)).mono ?_;rintro en w9 ⟨u,rfl,hu,hb⟩;rw[HX.out]at hu
    exact⟨u,rfl,Am.of hb hg.1.base,hu,hg.1.later hb,by simpa [upd]using hg.2.later hb⟩
  case refine_9=>
   have hx:∃p n c,sp 7=.agg #[.slice p n c]/\Ag w' p n c (X)/\X<An (33):=(hdp 7 (mq (by kernel_rfl))).2
   (with_reducible refine Av hx fun p hx1=>Av hx1 fun n hx2=>Av hx2 fun c hx3=>?_)
   have h1:=hx3.1;have hp:=hg.2.put (hx3.2.1)
   (with_reducible refine Av hp fun q hy1=>Av hy1 fun m hy2=>Av hy2 fun k hy3=>?_)
   have h6:=hy3.1.cell;have h7:=hy3.1.free
   (with_reducible refine Ap (w1:=w'.setCell ⟨w.heap.size+1+1,0,none⟩ (.slice p n c)) ?_ ?_ ?_)
   .simp[Region.wanted,yielded,Act.put,go_sem]
   .simp[execOp,Act.eval,Act.put,go_sem,h1,h6,h7]
   .refine⟨Am.store hy3.1 HB0.out _,trivial,hg.1.store hy3.1 HB0.out HNE.out _,?_⟩;have h8:=hy3.2;simpa [upd]using h8
  all_goals ((with_reducible refine Ad ?_ ?_);all_goals first|(simp only[Region.wanted];done)|simp[Region.wanted,yielded,execOp,Act.eval,Act.put,go_sem])
 .intro sp w7 hsp hg;obtain⟨hg1,pz,nz,cz,hz1,hz2⟩:=hg;have kz:=hz1.cell;have HZ:=Ab (hz2 rfl);have HB7:=Ab (HBX.out.bel.trans hg1.keep.bel);clear hsp hg1 hz1 hz2;simp only[Al,Nat.reduceAdd];generalize sp 1=y1,sp 7=y7,sp 8=y8 at *
  go_simp
  go_wp2;exact bodyPost_ret (v:=.agg #[.slice pz nz cz]) (by simp[results,Tryz.results25,go_sem,kz]) rfl ⟨_,rfl,Fit.of HZ.out HLX.out,HB7.out⟩
theorem aD {w:World}{b P Q G H e1 A:Nat}{v:Value}(h:Au w b P Q G H)(hv:Fit e1 A v w)(he1:e1<=30000) :
  Calls Tryz.prog 85 #[.pointer (some ⟨b,0,none⟩),v] w fun e w'=>e=.returned (.bool (decide (0<A/\A<P/\A^Q%P=1)))/\Below w.heap.size w w':=by
 obtain⟨pa,na,ca,rfl,h1,h2⟩:=Ao hv;have hb1:=Ae.made w (.slice pa na ca);have hbel:Below w.heap.size w (w.alloc (.cells #[.slice pa na ca] 37)):=Bt;obtain⟨wa,hwa⟩:∃wa,w.alloc (.cells #[.slice pa na ca] 37)=wa:=⟨_,rfl⟩
 rw[hwa]at hb1 hbel
 have HA:=Ab ((Fit.of h1 h2).below hbel);have HBX:=Ab hb1;have HB:=Ab hbel;have HG:=Ab (Ol.of h (Aw _) hbel);obtain⟨rp,rq,pg,ng,cg,ph,nh,ch,g1,g2,g3,_⟩:=h.ex;have HL:Aa (b<w.heap.size/\rp<w.heap.size/\rq<w.heap.size):=⟨h.lt,g2.at_.lt,g3.at_.lt⟩
 have HGB:=Ab ((hbel.block b h.lt).trans g1);have HRQ:=Ab (g3.below hbel);have hq2:=h.lims.2.2.1;obtain⟨K,hK0⟩:∃K,Bm A P=K:=⟨_,rfl⟩
 have HK:=Ab hK0;obtain⟨ANS,hANS⟩:∃X,decide (0<A/\A<P/\A^Q%P=1)=X:=⟨_,rfl⟩
 obtain⟨X,hX⟩:∃X,decide (A^Q%P=1)=X:=⟨_,rfl⟩
 have HX:=Ab hX;rw[hANS]
 by_cases hl:A<P
 .have HANS:Aa (ANS=X):=⟨by
   rw[<-hANS,<-hX];refine decide_eq_decide.2 ⟨fun h=>h.2.2,fun h=>⟨?_,hl,h⟩⟩;rcases Nat.eq_zero_or_pos A with rfl|h0
   .rw[Nat.zero_pow (by omega),Nat.zero_mod]at h;omega
   .exact h0⟩
  have hK:decide (K<0)=true:=decide_eq_true (by rw[<-hK0,Eb hl];decide);clear hl hANS hX hK0 hq2 g1 g2 g3 h1 h2 hb1 hbel h hv;go_enter Tryz.func85,Tryz.ntmps85;go_wp2;refine Aj (by kernel_rfl) (by kernel_rfl)
   [some (.agg #[.slice pa na ca]),some (.pointer (some ⟨b,0,none⟩)),none,none,some (.bool true),some (.bool true),some (.pointer (some ⟨b,0,none⟩)),some (.agg #[.slice pa na ca]),some (.pointer (some ⟨b,0,none⟩)),none,some (.pointer (some ⟨b,0,none⟩)),some (.pointer (some ⟨b,1,none⟩)),some (.pointer (some ⟨rq,0,none⟩)),none,none,none,some (.bool X),some (.bool X)]
   [false,false,true,true,false,false,false,false,false,true,false,false,false,true,true,true,false,false] rfl
   (fun w1 w2=>Am (w.heap.size) w1 w2)
   (fun D sp w'=>RG (w.heap.size) wa [(w.heap.size,.cells #[.slice pa na ca] 37 (0,0))] w'/\True)
   (fun i v w'=>match i with
    | 2=>Fit 33 P v w'
    | 3=>v=.int .i64 K
    | 9=>v=.pointer (some ⟨b,0,none⟩)
    | 13=>Fit 33 Q v w'
    | 14=>Fit 33 (A^Q%P) v w'
    | 15=>v=.bool X
    | _=>True)
   ?_ ⟨RG.start HB.out.size (List.forall_mem_cons.2 ⟨HBX.out,fun x hx=>by cases hx⟩),trivial⟩ ?_ ?_
  .intro i v w1 w2 hf hb;split at hf
   .exact hf.keep hb
   .exact hf
   .exact hf
   .exact hf.keep hb
   .exact hf.keep hb
   .exact hf
   .trivial
  .simp only[Az,Nat.reduceAdd];refine⟨?_,?_,?_,?_,?_,?_,?_,?_,?_,?_,?_,?_,?_,?_,?_,?_,?_,?_,trivial⟩
   all_goals intro D sp w' hD hW hdp hg
   case refine_1|refine_8=>
    have c0:w'.cell? ⟨w.heap.size,0,none⟩=some (.slice pa na ca):=Ae.cell (hg.1.of List.mem_cons_self)
    with_reducible refine Ad ?_ ?_
    all_goals simp[Region.wanted,yielded,execOp,Act.eval,Act.put,go_sem,c0]
   case refine_3=>
    (with_reducible refine Ac (w1:=w') (f := 64) (args:=#[.pointer (some ⟨b,0,none⟩)]) ?_ ?_ ?_)
    .simp[Region.wanted,yielded,Act.put,go_sem]
    .simp[Act.eval,Act.put,go_sem]
    .refine(lC (HG.out.keep hg.1.keep)).mono ?_;rintro en w9 ⟨u,rfl,hu,hb⟩;exact⟨u,rfl,Am.of hb hg.1.base,hu,hg.1.later hb,trivial⟩
   case refine_4=>
    have k2:Fit 33 P (sp 2) w':=(hdp 2 (mq (by kernel_rfl))).2
    (with_reducible refine Ac (w1:=w') (f := 24) (args:=#[.agg #[.slice pa na ca],sp 2]) ?_ ?_ ?_)
    .simp[Region.wanted,yielded,Act.put,go_sem]
    .simp[Act.eval,Act.put,go_sem]
    .refine(Bf (HA.out.keep hg.1.keep) k2 (by omega) (by decide) HK.out).mono ?_;rintro en w9 ⟨u,rfl,rfl,hb⟩;exact⟨_,rfl,Am.of hb hg.1.base,rfl,hg.1.later hb,trivial⟩
   case refine_5=>
    have k3:(sp 3)=.int .i64 K:=(hdp 3 (mq (by kernel_rfl))).2
    with_reducible refine Ad ?_ ?_
    all_goals simp[Region.wanted,yielded,execOp,Act.eval,Act.put,go_sem,k3,hK]
   case refine_10=>
    (with_reducible refine Ac (w1:=w') (f := 81) (args:=#[.pointer (some ⟨b,0,none⟩)]) ?_ ?_ ?_)
    .simp[Region.wanted,yielded,Act.put,go_sem]
    .simp[Act.eval,Act.put,go_sem]
    .refine(Ex w' b).mono ?_;rintro en w9 ⟨rfl,rfl⟩;exact⟨_,rfl,Am.same _ _,rfl,hg.1,trivial⟩
   case refine_11=>
    have k9:(sp 9)=.pointer (some ⟨b,0,none⟩):=(hdp 9 (mq (by kernel_rfl))).2
    with_reducible refine Ad ?_ ?_
    all_goals simp[Region.wanted,yielded,execOp,Act.eval,Act.put,go_sem,k9]
   case refine_13=>
    have c0:=(Db ((hg.1.keep.bel.block b HL.out.1).trans HGB.out)).2.1
    with_reducible refine Ad ?_ ?_
    all_goals simp[Region.wanted,yielded,execOp,Act.eval,Act.put,go_sem,c0]
   case refine_14=>
    (with_reducible refine Ac (w1:=w') (f := 57) (args:=#[.pointer (some ⟨rq,0,none⟩)]) ?_ ?_ ?_)
    .simp[Region.wanted,yielded,Act.put,go_sem]
    .simp[Act.eval,Act.put,go_sem]
    .refine(Ff (HRQ.out.keep HL.out.2.2 hg.1.keep)).mono ?_;rintro en w9 ⟨u,rfl,hu,hb⟩;exact⟨u,rfl,Am.of hb hg.1.base,hu,hg.1.later hb,trivial⟩
   case refine_15=>
    have k13:Fit 33 Q (sp 13) w':=(hdp 13 (mq (by kernel_rfl))).2
    (with_reducible refine Ac (w1:=w') (f := 25) (args:=#[.pointer (some ⟨b,0,none⟩),.agg #[.slice pa na ca],sp 13]) ?_ ?_ ?_)
    .simp[Region.wanted,yielded,Act.put,go_sem]
    .simp[Act.eval,Act.put,go_sem]
    .refine(aE (HG.out.keep hg.1.keep) (HA.out.keep hg.1.keep) k13 (by omega) (by decide)).mono ?_;rintro en w9 ⟨u,rfl,hu,hb⟩;exact⟨u,rfl,Am.of hb hg.1.base,hu,hg.1.later hb,trivial⟩
   case refine_16=>
    have k14:Fit 33 (A^Q%P) (sp 14) w':=(hdp 14 (mq (by kernel_rfl))).2
    (with_reducible refine Ac (w1:=w') (f := 148) (args:=#[sp 14]) ?_ ?_ ?_)
    .simp[Region.wanted,yielded,Act.put,go_sem]
    .simp[Act.eval,Act.put,go_sem]
    .refine(Vf k14 (by decide)).mono ?_;rintro en w9 ⟨rfl,hb⟩;rw[HX.out];exact⟨_,rfl,Am.of hb hg.1.base,rfl,hg.1.later hb,trivial⟩
   case refine_17=>
    have k15:(sp 15)=.bool X:=(hdp 15 (mq (by kernel_rfl))).2
    with_reducible refine Ad ?_ ?_
    all_goals simp[Region.wanted,yielded,execOp,Act.eval,Act.put,go_sem,k15]
   all_goals ((with_reducible refine Ad ?_ ?_);all_goals first|(simp only[Region.wanted];done)|simp[Region.wanted,yielded,execOp,Act.eval,Act.put,go_sem])
  .intro sp w7 hsp hg;have HB7:=Ab (HB.out.trans hg.1.keep.bel);clear hsp hg hK;simp only[Al,Nat.reduceAdd];generalize sp 2=y2,sp 3=y3,sp 9=y9,sp 13=y13,sp 14=y14,sp 15=y15 at *
   go_simp
   go_wp2;go_ret;exact⟨by rw[HANS.out];rfl,HB7.out⟩
 .have HANS:Aa (ANS=false):=⟨by
   rw[<-hANS];exact decide_eq_false fun h=>hl h.2.1⟩
  have hK:decide (K<0)=false:=decide_eq_false (by
   rw[<-hK0];rcases Nat.eq_or_lt_of_le (Nat.le_of_not_lt hl) with h|h
   .rw[h,Iu];decide
   .have:=Iv.2 h;omega)
  clear hl hANS hX HX hK0 hq2 g1 g2 g3 h1 h2 hb1 hbel h hv;go_enter Tryz.func85,Tryz.ntmps85;go_wp2;refine Aj (by kernel_rfl) (by kernel_rfl)
   [some (.agg #[.slice pa na ca]),some (.pointer (some ⟨b,0,none⟩)),none,none,some (.bool false),some (.bool false),some (undef),some (undef),some (undef),some (undef),some (undef),some (undef),some (undef),some (undef),some (undef),some (undef),some (.bool false),some (.bool false)]
   [false,false,true,true,false,false,false,false,false,false,false,false,false,false,false,false,false,false] rfl
   (fun w1 w2=>Am (w.heap.size) w1 w2)
   (fun D sp w'=>RG (w.heap.size) wa [(w.heap.size,.cells #[.slice pa na ca] 37 (0,0))] w'/\True)
   (fun i v w'=>match i with
    | 2=>Fit 33 P v w'
    | 3=>v=.int .i64 K
    | _=>True)
   ?_ ⟨RG.start HB.out.size (List.forall_mem_cons.2 ⟨HBX.out,fun x hx=>by cases hx⟩),trivial⟩ ?_ ?_
  .intro i v w1 w2 hf hb;split at hf
   .exact hf.keep hb
   .exact hf
   .trivial
  .simp only[Az,Nat.reduceAdd];refine⟨?_,?_,?_,?_,?_,?_,?_,?_,?_,?_,?_,?_,?_,?_,?_,?_,?_,?_,trivial⟩
   all_goals intro D sp w' hD hW hdp hg
   case refine_1=>
    have c0:w'.cell? ⟨w.heap.size,0,none⟩=some (.slice pa na ca):=Ae.cell (hg.1.of List.mem_cons_self)
    with_reducible refine Ad ?_ ?_
    all_goals simp[Region.wanted,yielded,execOp,Act.eval,Act.put,go_sem,c0]
   case refine_3=>
    (with_reducible refine Ac (w1:=w') (f := 64) (args:=#[.pointer (some ⟨b,0,none⟩)]) ?_ ?_ ?_)
    .simp[Region.wanted,yielded,Act.put,go_sem]
    .simp[Act.eval,Act.put,go_sem]
    .refine(lC (HG.out.keep hg.1.keep)).mono ?_;rintro en w9 ⟨u,rfl,hu,hb⟩;exact⟨u,rfl,Am.of hb hg.1.base,hu,hg.1.later hb,trivial⟩
   case refine_4=>
    have k2:Fit 33 P (sp 2) w':=(hdp 2 (mq (by kernel_rfl))).2
    (with_reducible refine Ac (w1:=w') (f := 24) (args:=#[.agg #[.slice pa na ca],sp 2]) ?_ ?_ ?_)
    .simp[Region.wanted,yielded,Act.put,go_sem]
    .simp[Act.eval,Act.put,go_sem]
    .refine(Bf (HA.out.keep hg.1.keep) k2 (by omega) (by decide) HK.out).mono ?_;rintro en w9 ⟨u,rfl,rfl,hb⟩;exact⟨_,rfl,Am.of hb hg.1.base,rfl,hg.1.later hb,trivial⟩
   case refine_5=>
    have k3:(sp 3)=.int .i64 K:=(hdp 3 (mq (by kernel_rfl))).2
    with_reducible refine Ad ?_ ?_
    all_goals simp[Region.wanted,yielded,execOp,Act.eval,Act.put,go_sem,k3,hK]
   case refine_7|refine_8|refine_9|refine_10|refine_11|refine_12|refine_13|refine_14|refine_15|refine_16=>
    (with_reducible refine Fh ?_ ?_)
    ·(simp[Region.wanted,yielded,Act.put,go_sem]<;>exact fun h=>by cases h)
    .exact⟨rfl,rfl⟩
   all_goals ((with_reducible refine Ad ?_ ?_);all_goals first|(simp only[Region.wanted];done)|simp[Region.wanted,yielded,execOp,Act.eval,Act.put,go_sem])
  .intro sp w7 hsp hg;have HB7:=Ab (HB.out.trans hg.1.keep.bel);clear hsp hg hK;simp only[Al,Nat.reduceAdd];generalize sp 2=y2,sp 3=y3 at *
   go_simp
   go_wp2;go_ret;exact⟨by rw[HANS.out];rfl,HB7.out⟩
end Go.Proofs.YtokhckjemidbpaaGreatDoor
