/- A group's plain calls: its numbers, its field, its size; of no group. -/
import Derived.Test.YtokhckjemidbpaaGreatDoorGrpN
import Derived.BigRegion
import Derived.Laws.Rows
import Derived.Laws.OwnMore
import Derived.Lib.AppendZeros
import Derived.ArgAppend
import Derived.Test.YtokhckjemidbpaaGreatDoorExp
set_option maxRecDepth 1000000
set_option maxHeartbeats 16000000
set_option linter.all false
namespace Go.Proofs.YtokhckjemidbpaaGreatDoor
open Go Go.RowKit Go.Proofs.YtokhckjemidbpaaGreatDoor.Flow
theorem dL (N:Nat):be (Bf N (Ao N))=N:=by
 unfold be Bf;rw[List.reverse_reverse,Od,Nat.mod_eq_of_lt (Jm N)]
theorem Es {w:World}{v:Value}{e N:Nat}(h:Fit e N v w)(he:e<=200) :
  Calls Tryz.prog 29 #[v] w fun en w'=>∃x,en=.returned x/\Il N x w'/\Below w.heap.size w w':=by
 obtain⟨p,n,c,rfl,h1,h2⟩:=h;have hbx:=Cw.mk1 w (.slice p n c) 37;have HF:=Ac ((Fit.of h1 h2).below hbx.bel);have HB:=Ac hbx.bel;have hl:Aa (Ao N<=1000):=⟨by
  have:Ay N<=32*e:=(Cj N _).2 (by
   have:Al e=2^(32*e):=by unfold Al;rw[Nat.pow_mul]
   rw[<-this];exact h2)
  unfold Ao;omega⟩
 clear h1 h2 hbx;go_enter Tryz.func29,Tryz.ntmps29
 go_wp2_with fail
 refine(Zt HF.out (by omega)).mono ?_;rintro en w1 ⟨_,rfl,⟨q,m,d,rfl,hr⟩,b1⟩;have HR:Aa (Bb w1 .u8 q m d (Bf N (Ao N))):=⟨⟨hr.len,hr.cap,hr.max,fun _=>hr⟩⟩
 have HM:Aa (m<=1000):=⟨by rw[hr.len,Cl];exact hl.out⟩
 have HB1:=Ac (Ab HB.out b1);clear hr b1
 go_wp2_with fail
 refine(cC w1 q m d _ HR.out (Ga N _).reverse HM.out).mono ?_;rintro en w2 ⟨x,y,z,rfl,hb,b2,_⟩;rw[dL]at hb
 have HN:=Ac hb;have HB2:=Ac (Ab HB1.out b2);clear hb b2;go_wp2;go_ret;exact⟨_,rfl,Il.of HN.out,HB2.out⟩
theorem Zw {t:TypeId}{w:World}{b:Nat}{x0 x1 x2 x3:Option Addr×Nat×Nat}(h:Cr t w b (.slice x0.1 x0.2.1 x0.2.2) (.slice x1.1 x1.2.1 x1.2.2) (.slice x2.1 x2.2.1 x2.2.2) (.slice x3.1 x3.2.1 x3.2.2))(u0 u1 u2 u3:Value) :
  Fl w ((((w.setCell ⟨b,0,none⟩ u0).setCell ⟨b,1,none⟩ u1).setCell ⟨b,2,none⟩ u2).setCell ⟨b,3,none⟩ u3):=by
 have h0:=h.at_
 have k0:=Fl.set h.cells.1 u0;have k1:Fl (w.setCell ⟨b,0,none⟩ u0) ((w.setCell ⟨b,0,none⟩ u0).setCell ⟨b,1,none⟩ u1):=Fl.set (p:=x1.1) (n:=x1.2.1) (c:=x1.2.2) (by simp[World.cell?,World.setCell,Array.getElem?_modify,h0]) u1;have k2:Fl ((w.setCell ⟨b,0,none⟩ u0).setCell ⟨b,1,none⟩ u1) (((w.setCell ⟨b,0,none⟩ u0).setCell ⟨b,1,none⟩ u1).setCell ⟨b,2,none⟩ u2):=Fl.set (p:=x2.1) (n:=x2.2.1) (c:=x2.2.2) (by simp[World.cell?,World.setCell,Array.getElem?_modify,h0]) u2;have k3:Fl (((w.setCell ⟨b,0,none⟩ u0).setCell ⟨b,1,none⟩ u1).setCell ⟨b,2,none⟩ u2) ((((w.setCell ⟨b,0,none⟩ u0).setCell ⟨b,1,none⟩ u1).setCell ⟨b,2,none⟩ u2).setCell ⟨b,3,none⟩ u3):=Fl.set (p:=x3.1) (n:=x3.2.1) (c:=x3.2.2) (by simp[World.cell?,World.setCell,Array.getElem?_modify,h0]) u3;exact((k0.trans k1).trans k2).trans k3
structure If (P Q G H:Nat) (v:Value) (w:World):Prop where
 ex:∃p0 n0 c0 p1 n1 c1 p2 n2 c2 p3 n3 c3,v=.agg #[.slice p0 n0 c0,.slice p1 n1 c1,.slice p2 n2 c2,.slice p3 n3 c3]/\Bj w p0 n0 c0 P/\Bj w p1 n1 c1 Q/\Bj w p2 n2 c2 G/\Bj w p3 n3 c3 H
theorem If.below {P Q G H:Nat}{v:Value}{w w':World}(h:If P Q G H v w)(hb:Below w.heap.size w w'):If P Q G H v w':=by
 obtain⟨p0,n0,c0,p1,n1,c1,p2,n2,c2,p3,n3,c3,h0,h1,h2,h3,h4⟩:=h.ex;exact⟨p0,n0,c0,p1,n1,c1,p2,n2,c2,p3,n3,c3,h0,h1.below hb,h2.below hb,h3.below hb,h4.below hb⟩
structure eB (Q:Nat) (v:Value) (w:World):Prop where
 ex:∃r,v=.pointer (some ⟨r,0,none⟩)/\Ring w r Q 33
section
variable {At:World->Nat->Nat->Nat->Nat->Nat->Prop} {ready:World->Prop}
end
theorem Qg (w:World)(pk:Option Addr)(nk ck:Nat)(salt:List Nat)(ps:Option Addr)(ns cs:Nat)(secret:List Nat)(hT:Tabs w)(hK:Bu w ⟨pk,nk,ck,salt⟩)(hS:Bu w ⟨ps,ns,cs,secret⟩) :
  Calls Tryz.prog 241 #[.slice pk nk ck,.slice ps ns cs] w (Jr (Vz salt secret) w):=by
 have hb:Below w.heap.size w (w.alloc (.cells #[.slice ps ns cs] 23)):=By;have hz:=hb.size;have HC:=Ac (Sh (w.alloc (.cells #[.slice ps ns cs] 23)) pk nk ck salt _ _ _ [⟨ps,ns,cs,secret⟩] (hT.below hb hT.size) (hK.below hb).row hK.bytes (bZ w ⟨ps,ns,cs,secret⟩ hS));have HB:=Ac hb;clear hT hK hS hb;go_enter Tryz.func241,Tryz.ntmps241
 go_wp2_with fail
 refine HC.out.mono ?_;rintro e w1 ⟨q,rfl,hq,hb1,hk⟩;rw[Qs]at hk
 go_wp2;go_ret;exact⟨q,rfl,by omega,Fi HB.out hb1,hk⟩
theorem Ss (w:World)(pk:Option Addr)(nk ck:Nat)(salt:List Nat)(ps:Option Addr)(ns cs:Nat)(secret:List Nat)(pi:Option Addr)(ni ci:Nat)(info:List Nat)(n:Nat)(hT:Tabs w)(hK:Bu w ⟨pk,nk,ck,salt⟩)(hS:Bu w ⟨ps,ns,cs,secret⟩)(hI:Bu w ⟨pi,ni,ci,info⟩)(hn:n<=8160) :
  Calls Tryz.prog 219 #[.slice pk nk ck,.slice ps ns cs,.slice pi ni ci,.int .i64 n] w (Vt n ((Gi (Jc salt secret) info ((n+31)/32)).take n) w):=by
 have HC:=Ac (Qg w pk nk ck salt ps ns cs secret hT hK hS);have HI:Aa (Bu w ⟨pi,ni,ci,info⟩):=⟨hI⟩
 have HT:Aa (Tabs w):=⟨hT⟩
 clear hT hK hS hI;go_enter Tryz.func219,Tryz.ntmps219
 go_wp2_with fail
 refine HC.out.mono ?_;rintro e w1 ⟨q,rfl,hq,hb1,hk⟩;have hr:Bb w1 .u8 (some ⟨q,0,none⟩) 32 32 (Jc salt secret):=⟨(Jb _ _).symm,Av _,by omega,fun _=>hk.row (Jb _ _).symm (Av _) (by omega)⟩
 go_wp2_with fail
 refine(Sm w1 _ _ _ (Jc salt secret) pi ni ci info n (HT.out.below hb1 HT.out.size) hr (Pd _ _) (HI.out.below hb1) hn).mono ?_;rintro e w2 ⟨p,rfl,hr2,hn2,hb2,hz2⟩;have hz:=hb1.size;have HE:=Ac hr2;have HN:Aa (El w.heap.size p/\(p=none->n=0)):=⟨hn2.mono hz,hz2⟩
 clear hr2 hn2 hz2 hr hk;go_wp2;exact bodyPost_ret (v:=.tuple #[.slice p n n,.int .i64 0]) (by simp[results,Tryz.results219,go_sem]) rfl ⟨p,rfl,HE.out,HN.out.1,Fi hb1 hb2,HN.out.2⟩
theorem Oo {N:Nat}{l:List Bn}(h:Told N l):Co N:=by
 rcases h with h|⟨h,s,hs,rfl⟩
 .exact h.prime
 .exact Nq l [] (fun x hx=>by cases hx) h s hs
def Ek (seed:List Nat)(P c:Nat):Nat:=be ((Gi (Jc [] seed) [104,c] ((Ao P+8+31)/32)).take (Ao P+8))
def Dw (f:Nat->Nat):Nat->Nat->Option Nat
 | 0,_=>none
 | k+1,c=>if 1<f c then some (f c) else Dw f k (c+1)
def Pu (P Q G:Nat):Prop:=(P-1)%Q=0/\64<Q/\1<G/\G<P/\G^Q%P=1
open Classical in
noncomputable def newSpec (P Q G:Nat) (seed:List Nat) (l:List Bn):Nat×Nat :=
 if Told P l/\Told Q l then
  if Pu P Q G then
   match Dw (fun c=>Ek seed P c^((P-1)/Q)%P) 256 0 with
   | some h=>(0,h)
   | none=>(6,0)
  else (1,0)
 else (8,0)
theorem Rn (xs ys:List Nat):be (xs++ys)=be xs*B8 ys.length+be ys:=by
 unfold be;rw[List.reverse_append,Rd,List.length_reverse,Nat.mul_comm (B8 _),Nat.add_comm]
theorem Uw:∀(bs:List Nat) (a:Nat),bs.foldl (fun n x=>n*256+x) a=a*B8 bs.length+be bs
 | [],a=>by simp[be,le,Gs]
 | x::xs,a=>by
  rw[List.foldl_cons,Uw xs,show x::xs=[x]++xs from rfl,Rn,List.length_append,List.length_singleton,Nat.add_comm 1,Fa];have h1:be [x]=x:=by simp[be,le]
  rw[h1,Nat.add_mul,Nat.mul_assoc,Nat.add_assoc]
theorem Sc (bs:List Nat):Ww bs=be bs:=by
 unfold Ww;rw[Uw];simp
theorem fH {P X Y s:Nat}:((X*(256^s%P))%P+Y)%P=(X*256^s+Y)%P:=by
 rw[Nat.mul_mod_mod,Nat.mod_add_mod]
theorem cQ (seed:List Nat)(P c:Nat):∃bs:List Nat,(Gi (Jc [] seed) [104,c] ((8+Ao P+31)/32)).take (8+Ao P)=bs/\bs.length=8+Ao P/\Au bs/\be (bs.take 8)*256^Ao P+be (bs.drop 8)=Ek seed P c:=by
 have hl:((Gi (Jc [] seed) [104,c] ((8+Ao P+31)/32)).take (8+Ao P)).length=8+Ao P:=by
  rw[List.length_take,Gp];omega
 refine⟨_,rfl,hl,(Pi _ _ _).take _,?_⟩;obtain⟨bs,hb⟩:∃x,(Gi (Jc [] seed) [104,c] ((8+Ao P+31)/32)).take (8+Ao P)=x:=⟨_,rfl⟩
 have hh:Ek seed P c=be bs:=by rw[<-hb];unfold Ek;rw[Nat.add_comm (Ao P) 8]
 rw[hb]at hl ⊢
 have h2:=Rn (bs.take 8) (bs.drop 8);rw[List.take_append_drop,List.length_drop,hl,show 8+Ao P-8=Ao P by omega]at h2
 rw[hh,h2];rfl
theorem eT (A t P:Nat):(A%P)^t%P=A^t%P:=(Nat.pow_mod A t P).symm
theorem Xj {f:Nat->Nat}{k c:Nat}(h:1<f c):Dw f (k+1) c=some (f c):=by rw[Dw,if_pos h]
theorem Ls:∀i,i<3->Ao (gP i)=iE i
 | 0,_=>by kernel_rfl
 | 1,_=>by kernel_rfl
 | 2,_=>by kernel_rfl
 | _+3,h=>by omega
theorem Ph (key info:List Nat):Gi key info 1=Jc key (info++[1]):=by
 simp[Gi,Pz]
theorem cP:∀i,i<3->Ek [] (gP i) 0=Ww (Pf i)
 | 0,h=>by
  rw[Sc];unfold Ek;rw[Ls 0 h,Sk];show be ((Gi _ _ 1).take 10)=_;rw[Ph];show be ((Jc _ [104,0,1]).take 10)=_;rw[Vx];rfl
 | 1,h=>by
  rw[Sc];unfold Ek;rw[Ls 1 h,Sk];show be ((Gi _ _ 1).take 11)=_;rw[Ph];show be ((Jc _ [104,0,1]).take 11)=_;rw[Vx];rfl
 | 2,h=>by
  rw[Sc];unfold Ek;rw[Ls 2 h,Sk];show be ((Gi _ _ 1).take 17)=_;rw[Ph];show be ((Jc _ [104,0,1]).take 17)=_;rw[Vx];rfl
 | _+3,h=>by omega
theorem Xg:∀i,i<3->(gP i-1)/gQ i=Ku i
 | 0,_=>by decide
 | 1,_=>by decide
 | 2,_=>by decide
 | _+3,h=>by omega
theorem gI (i:Nat)(hi:i<3):Pu (gP i) (gQ i) (gG i):=by
 obtain⟨h1,h2,h3,_⟩:=Lr i hi;exact⟨by rw[Rg i hi];exact Nat.mul_mod_right _ _,h1,h2,h3,aB i hi⟩
theorem Zg (i:Nat)(hi:i<3):newSpec (gP i) (gQ i) (gG i) [] (Dr i)=(0,gH i):=by
 have h1:Ek [] (gP i) 0^((gP i-1)/gQ i)%gP i=gH i:=by rw[cP i hi,Xg i hi,iG i hi]
 have h2:=(Lr i hi).2.2.2.1;unfold newSpec;rw[if_pos ⟨fE i hi,fD i hi⟩,if_pos (gI i hi)];have h3:Dw (fun c=>Ek [] (gP i) c^((gP i-1)/gQ i)%gP i) 256 0=some (gH i):=by
  rw[Xj (by show 1<_;rw[h1];exact h2)];show some (Ek [] (gP i) 0^((gP i-1)/gQ i)%gP i)=_;rw[h1]
 rw[h3]
theorem Xi:∀i,i<3->∀s∈Dr i,s.ps.length<=1000
 | 0,_=>by intro s hs;cases hs
 | 1,_=>by intro s hs;rcases List.mem_singleton.1 hs with rfl;simp
 | 2,_=>by
  intro s hs;rcases List.mem_cons.1 hs with rfl|hs
  .simp
  .rcases List.mem_singleton.1 hs with rfl;simp
 | _+3,h=>by omega
theorem Ht (w:World):Fit 0 0 (.agg #[.slice none 0 0]) w:=Fit.of (Ah.nil w) (by decide)
theorem Nh (w:World) :
  Calls Tryz.prog 57 #[.pointer none] w fun en w'=>en=.returned (.agg #[.slice none 0 0])/\Below w.heap.size w w':=by
 have hb1:=Ae.made w (.slice none 0 0);have c1:=hb1.cell;have f1:=hb1.free;have hbel:Below w.heap.size w (w.alloc (.cells #[.slice none 0 0] 37)):=By;go_enter Tryz.func57,Tryz.ntmps57;go_wp2;exact bodyPost_ret (v:=.agg #[.slice none 0 0]) (by simp[results,Tryz.results57,go_sem,c1]) rfl ⟨rfl,hbel⟩
theorem Ap.trans {B:Nat}{w1 w2 w3:World}(h:Ap B w1 w2)(k:Ap B w2 w3):Ap B w1 w3:=⟨h.bel.trans k.bel,fun p n c N x=>k.nat p n c N (h.nat p n c N x)⟩
theorem Ap.drew (B:Nat)(w:World):Ap B w w.drew:=⟨(Bd _ _).drew,fun _ _ _ _ k=>k.below ((Bd _ _).drew)⟩
structure RG (B:Nat) (wx:World) (l:List (Nat×Obj)) (w:World):Prop where
 keep:Ap B wx w
 base:B<=w.heap.size
 blk:∀x∈l,w.heap[x.1]? = some x.2
theorem RG.start {B:Nat}{wx:World}{l:List (Nat×Obj)}(hB:B<=wx.heap.size)(hl:∀x∈l,wx.heap[x.1]? = some x.2):RG B wx l wx.drew:=⟨Ap.drew _ _,hB,hl⟩
theorem RG.later {B:Nat}{wx:World}{l:List (Nat×Obj)}{w w':World}(h:RG B wx l w)(hb:Below w.heap.size w w'):RG B wx l w' :=
 ⟨h.keep.trans (Ap.of hb h.base),Eo h.base hb.size,fun x hx=>by rw[hb.block x.1 (Ik (h.blk x hx)).1];exact h.blk x hx⟩
theorem RG.store {B:Nat}{wx:World}{l:List (Nat×Obj)}{w:World}{b m d:Nat}{q:Option Addr}(h:RG B wx l w)(hb:Ae w b (.slice q m d))(hB:B<=b)(hn:∀x∈l,x.1≠b)(v:Value):RG B wx l (w.setCell ⟨b,0,none⟩ v) :=
 ⟨h.keep.trans (Ap.store hb hB v),by simpa using h.base,fun x hx=>by
  have:=hn x hx;simp[World.setCell,Array.getElem?_modify,this.symm];exact h.blk x hx⟩
theorem RG.of {B:Nat}{wx:World}{l:List (Nat×Obj)}{w:World}(h:RG B wx l w){b:Nat}{o:Obj}(hm:(b,o)∈l):w.heap[b]? = some o:=h.blk _ hm
def Yn (d:Bool)(b N:Nat)(w:World):Prop:=∃p n c,Ae w b (.slice p n c)/\(d=true->Ah w p n c N)
theorem Yn.fresh {w:World}{b N:Nat}{p:Option Addr}{n c:Nat}(h:Ae w b (.slice p n c)):Yn false b N w:=⟨p,n,c,h,fun e=>by cases e⟩
theorem Yn.later {d:Bool}{b N:Nat}{w w':World}(h:Yn d b N w)(hb:Below w.heap.size w w'):Yn d b N w' :=
 let ⟨p,n,c,h1,h2⟩:=h
 ⟨p,n,c,h1.below hb h1.lt,fun e=>(h2 e).below hb⟩
theorem Yn.put {d:Bool}{b N:Nat}{w:World}(h:Yn d b N w){p:Option Addr}{n c:Nat}(hx:Ah w p n c N):∃q m k,Ae w b (.slice q m k)/\Yn true b N (w.setCell ⟨b,0,none⟩ (.slice p n c)) :=
 let ⟨q,m,k,h1,_⟩:=h
 ⟨q,m,k,h1,p,n,c,h1.set _,fun _=>hx.store h1 _⟩
def Xv (d f:Bool)(v:Value)(B N:Nat)(w:World):Prop:=B<=w.heap.size/\(d=true->∃b,v=.pointer (some ⟨b,0,none⟩)/\B<=b/\Yn f b N w)
theorem Xv.start {v:Value}{B N:Nat}{w:World}(h:B<=w.heap.size):Xv false false v B N w:=⟨h,fun e=>by cases e⟩
theorem Xv.later {d f:Bool}{v:Value}{B N:Nat}{w w':World}(h:Xv d f v B N w)(hb:Below w.heap.size w w'):Xv d f v B N w' :=
 ⟨Eo h.1 hb.size,fun e=>let ⟨b,h1,h2,h3⟩:=h.2 e;⟨b,h1,h2,h3.later hb⟩⟩
theorem Xv.made {v:Value}{B N:Nat}{w:World}(h:Xv false false v B N w):Xv true false (.pointer (some ⟨w.heap.size,0,none⟩)) B N (w.alloc (.cells #[.slice none 0 0] 37)) :=
 ⟨by simp;have:=h.1;omega,fun _=>⟨_,rfl,h.1,Yn.fresh (Ae.made _ _)⟩⟩
theorem Xv.put {f:Bool}{v:Value}{B N:Nat}{w:World}(h:Xv true f v B N w){p:Option Addr}{n c:Nat}(hx:Ah w p n c N) :
  ∃b q m k,v=.pointer (some ⟨b,0,none⟩)/\B<=b/\Ae w b (.slice q m k)/\Xv true true v B N (w.setCell ⟨b,0,none⟩ (.slice p n c)) :=
 let ⟨b,h1,h2,h3⟩:=h.2 rfl
 let ⟨q,m,k,h4,h5⟩:=h3.put hx
 ⟨b,q,m,k,h1,h2,h4,by simpa using h.1,fun _=>⟨b,h1,h2,h5⟩⟩
theorem RG.store_over {B B2:Nat}{wx:World}{l:List (Nat×Obj)}{w:World}{b m d:Nat}{q:Option Addr}(h:RG B wx l w)(hb:Ae w b (.slice q m d))(hB:B<=B2)(hB2:B2<=b)(hl:∀x∈l,x.1<B2)(v:Value):RG B wx l (w.setCell ⟨b,0,none⟩ v) :=
 h.store hb (Eo hB hB2) (fun x hx=>by have:=hl x hx;omega) v
def Mt (e N:Nat)(t v:Value)(w:World):Prop:=∃p n c,v=.tuple #[.agg #[.slice p n c],t]/\Ah w p n c N/\N<Al e
theorem Mt.keep {e N B:Nat}{t v:Value}{w w':World}(h:Mt e N t v w)(k:Ap B w w'):Mt e N t v w' :=
 let ⟨p,n,c,h1,h2,h3⟩:=h
 ⟨p,n,c,h1,k.nat _ _ _ _ h2,h3⟩
theorem Ring.keep {B r M f:Nat}{w w':World}(h:Ring w r M f)(hr:r<B)(k:Ap B w w'):Ring w' r M f:=by
 obtain⟨p,n,c,h1,h2,h3⟩:=h.at_.ex
 exact⟨⟨p,n,c,by rw[k.bel.block r hr];exact h1,k.nat _ _ _ _ h2,h3⟩,h.two,h.lim,h.few⟩
structure Bq (w:World) (b P Q G H:Nat):Prop where
 ex:∃rp rq pg ng cg ph nh ch,w.heap[b]? = some (.cells #[.pointer (some ⟨rp,0,none⟩),.pointer (some ⟨rq,0,none⟩),.slice pg ng cg,.slice ph nh ch] 141 (0,0))/\Ring w rp P 33/\Ring w rq Q 33/\Ah w pg ng cg G/\G<Al 33/\Ah w ph nh ch H/\H<Al 33
theorem Bq.lt {w:World}{b P Q G H:Nat}(h:Bq w b P Q G H):b<w.heap.size:=by
 obtain⟨_,_,_,_,_,_,_,_,h1,_⟩:=h.ex;exact(Ik h1).1
theorem Bq.below {w w':World}{b P Q G H:Nat}(h:Bq w b P Q G H)(hb:Below w.heap.size w w'):Bq w' b P Q G H:=by
 have hl:=h.lt;obtain⟨rp,rq,pg,ng,cg,ph,nh,ch,h1,h2,h3,h4,h5,h6,h7⟩:=h.ex;exact⟨rp,rq,pg,ng,cg,ph,nh,ch,by rw[hb.block b hl];exact h1,h2.below hb,h3.below hb,h4.below hb,h5,h6.below hb,h7⟩
theorem Bq.lims {w:World}{b P Q G H:Nat}(h:Bq w b P Q G H):2<=P/\P<Al 33/\2<=Q/\Q<Al 33:=by
 obtain⟨_,_,_,_,_,_,_,_,_,h2,h3,_⟩:=h.ex;exact⟨h2.two,h2.lim,h3.two,h3.lim⟩
theorem Fb {w:World}{b:Nat}{v0 v1 v2 v3:Value}(h:w.heap[b]? = some (.cells #[v0,v1,v2,v3] 141 (0,0))) :
  w.cell? ⟨b,0,none⟩=some v0/\w.cell? ⟨b,1,none⟩=some v1/\w.cell? ⟨b,2,none⟩=some v2/\w.cell? ⟨b,3,none⟩=some v3:=by
 simp[World.cell?,h]
theorem Hr (w:World)(b:Nat):Calls Tryz.prog 81 #[.pointer (some ⟨b,0,none⟩)] w fun e w'=>e=.returned (.pointer (some ⟨b,0,none⟩))/\w'=w:=by
 go_enter Tryz.func81,Tryz.ntmps81;go_wp2;go_ret;exact⟨rfl,rfl⟩
def Tf (w:World)(b:Nat):Prop:=w.heap[b]? = some (.cells #[.pointer none,.pointer none,.slice none 0 0,.slice none 0 0] 141 (0,0))
theorem Tf.cells {w:World}{b:Nat}(h:Tf w b):w.cell? ⟨b,0,none⟩=some (.pointer none)/\w.cell? ⟨b,1,none⟩=some (.pointer none):=by
 obtain⟨h0,h1,_⟩:=Fb h;exact⟨h0,h1⟩
theorem Wt (w:World):Calls Tryz.prog 81 #[.pointer none] w fun e w'=>∃b,e=.returned (.pointer (some ⟨b,0,none⟩))/\Tf w' b/\Below w.heap.size w w':=by
 have hn:Tf (w.alloc (.cells #[.pointer none,.pointer none,.slice none 0 0,.slice none 0 0] 141)) w.heap.size:=heap_alloc_new w _;have hb:Below w.heap.size w (w.alloc (.cells #[.pointer none,.pointer none,.slice none 0 0,.slice none 0 0] 141)):=By;have HN:=Ac hn;have HB:=Ac hb;clear hn hb;go_enter Tryz.func81,Tryz.ntmps81;go_wp2;go_ret;exact⟨_,rfl,HN.out,HB.out⟩
theorem Nm {w:World}{e N:Nat}{v:Value}(h:Fit e N v w)(he:e<=300000) :
  Calls Tryz.prog 83 #[v] w fun en w'=>∃x,en=.returned x/\Fit e N x w'/\Below w.heap.size w w':=by
 obtain⟨pa,na,ca,rfl,h1,h2⟩:=Aw h;have hbx:=dW.mk2 w (.slice pa na ca) (.slice none 0 0);have hz:∀w',Fit 0 0 (.agg #[.slice none 0 0]) w':=fun w'=>Fit.of (Ah.nil w') (by decide)
 have HZ:=Af hz;clear hz;go_enter Tryz.func83,Tryz.ntmps83
 go_wp2_with fail
 refine(Ma (h.below hbx.bel) (HZ.out _) (by omega) (by omega)).mono ?_;rintro en w1 ⟨x,rfl,hx,hb⟩;replace hbx:=hbx.later hb;obtain⟨pc,nc,cc,rfl,y1,_⟩:=hx;have c1:=hbx.b1.cell;have f1:=hbx.b1.free;have z1:=hbx.b1.lt;go_wp2;exact bodyPost_ret (v:=.agg #[.slice pc nc cc]) (by simp[results,Tryz.results83,go_sem,c1]) rfl ⟨_,rfl,Fit.of (y1.store hbx.b1 _) h2,hbx.bel.setCell (by simp) _⟩
theorem Nr {w:World}{e N:Nat}{v:Value}(h:Fit e N v w)(he:e<=900000) :
  Calls Tryz.prog 176 #[v] w fun en w'=>en=.returned (.int .i64 (Ao N:Nat))/\Below w.heap.size w w':=by
 obtain⟨p,n,c,rfl,h1,h2⟩:=h;have hn:n<1000000:=by have:=h1.len_le h2;omega
 have hl:Ay N<=30000000:=by have:=Hf h2;omega
 have hbx:=Cw.mk1 w (.slice p n c) 37;have H1:=Ac (h1.below hbx.bel);have HBX:=Ac hbx.bel;have HS:Aa (Ao N=(Ay N+7)/8):=⟨rfl⟩
 clear h1 h2 hbx;go_enter Tryz.func176,Tryz.ntmps176
 go_wp2_with fail
 refine(Dy _ p n c N H1.out hn).mono ?_;rintro en w1 ⟨rfl,hb1⟩;have HB1:=Ac (Ab HBX.out hb1);clear hb1;obtain⟨L,hL⟩:∃L,Ay N=L:=⟨_,rfl⟩
 rw[hL]at hl HS
 simp only[hL];clear hL;go_wp2;go_ret;refine⟨?_,HB1.out⟩;rw[HS.out];exact congrArg (fun z=>Ending.returned (.int .i64 z)) (by omega)
theorem gJ {w:World}{b P Q G H:Nat}(h:Bq w b P Q G H) :
  Calls Tryz.prog 64 #[.pointer (some ⟨b,0,none⟩)] w fun e w'=>∃x,e=.returned x/\Fit 33 P x w'/\Below w.heap.size w w':=by
 have hb1:=Ae.made w (.slice none 0 0);have hbel:Below w.heap.size w (w.alloc (.cells #[.slice none 0 0] 37)):=By;obtain⟨wa,hwa⟩:∃wa,w.alloc (.cells #[.slice none 0 0] 37)=wa:=⟨_,rfl⟩
 rw[hwa]at hb1 hbel
 obtain⟨rp,rq,pg,ng,cg,ph,nh,ch,h1,h2,h3,h4,h5,h6,h7⟩:=(h.below hbel).ex;obtain⟨c0,cq,c2,c3⟩:=Fb h1;have HR:=Ac h2;have HBX:=Ac hb1;have HB:=Ac hbel;clear h h1 h2 h3 h4 h5 h6 h7 hb1 hbel;go_enter Tryz.func64,Tryz.ntmps64
 go_wp2_with fail
 refine(Hr wa b).mono ?_;rintro en w1 ⟨rfl,rfl⟩
 go_wp2_with fail
 refine(Dj HR.out).mono ?_;rintro en w2 ⟨x,rfl,hx,hb2⟩;obtain⟨pc,nc,cc,rfl,y1,y2⟩:=hx;have hbn:=HBX.out.below hb2 HBX.out.lt;have k1:=hbn.cell;have f1:=hbn.free;have z1:=hbn.lt;clear c0 cq c2 c3;go_wp2;exact bodyPost_ret (v:=.agg #[.slice pc nc cc]) (by simp[results,Tryz.results64,go_sem,k1]) rfl ⟨_,rfl,Fit.of (y1.store hbn _) y2,(Ab HB.out hb2).setCell (by simp) _⟩
theorem gM {w:World}{b P Q G H:Nat}(h:Bq w b P Q G H) :
  Calls Tryz.prog 26 #[.pointer (some ⟨b,0,none⟩)] w fun e w'=>∃x,e=.returned x/\Fit 33 G x w'/\Below w.heap.size w w':=by
 have hb1:=Ae.made w (.slice none 0 0);have hbel:Below w.heap.size w (w.alloc (.cells #[.slice none 0 0] 37)):=By;obtain⟨wa,hwa⟩:∃wa,w.alloc (.cells #[.slice none 0 0] 37)=wa:=⟨_,rfl⟩
 rw[hwa]at hb1 hbel
 obtain⟨rp,rq,pg,ng,cg,ph,nh,ch,h1,h2,h3,h4,h5,h6,h7⟩:=(h.below hbel).ex;obtain⟨c0,cq,c2,c3⟩:=Fb h1;have HR:=Ac (Fit.of h4 h5);have HBX:=Ac hb1;have HB:=Ac hbel;clear h h1 h2 h3 h4 h5 h6 h7 hb1 hbel;go_enter Tryz.func26,Tryz.ntmps26
 go_wp2_with fail
 refine(Hr wa b).mono ?_;rintro en w1 ⟨rfl,rfl⟩
 go_wp2_with fail
 refine(Nm HR.out (by decide)).mono ?_;rintro en w2 ⟨x,rfl,hx,hb2⟩;obtain⟨pc,nc,cc,rfl,y1,y2⟩:=hx;have hbn:=HBX.out.below hb2 HBX.out.lt;have k1:=hbn.cell;have f1:=hbn.free;have z1:=hbn.lt;clear c0 cq c2 c3;go_wp2;exact bodyPost_ret (v:=.agg #[.slice pc nc cc]) (by simp[results,Tryz.results26,go_sem,k1]) rfl ⟨_,rfl,Fit.of (y1.store hbn _) y2,(Ab HB.out hb2).setCell (by simp) _⟩
theorem gL {w:World}{b P Q G H:Nat}(h:Bq w b P Q G H) :
  Calls Tryz.prog 53 #[.pointer (some ⟨b,0,none⟩)] w fun e w'=>∃x,e=.returned x/\Fit 33 H x w'/\Below w.heap.size w w':=by
 have hb1:=Ae.made w (.slice none 0 0);have hbel:Below w.heap.size w (w.alloc (.cells #[.slice none 0 0] 37)):=By;obtain⟨wa,hwa⟩:∃wa,w.alloc (.cells #[.slice none 0 0] 37)=wa:=⟨_,rfl⟩
 rw[hwa]at hb1 hbel
 obtain⟨rp,rq,pg,ng,cg,ph,nh,ch,h1,h2,h3,h4,h5,h6,h7⟩:=(h.below hbel).ex;obtain⟨c0,cq,c2,c3⟩:=Fb h1;have HR:=Ac (Fit.of h6 h7);have HBX:=Ac hb1;have HB:=Ac hbel;clear h h1 h2 h3 h4 h5 h6 h7 hb1 hbel;go_enter Tryz.func53,Tryz.ntmps53
 go_wp2_with fail
 refine(Hr wa b).mono ?_;rintro en w1 ⟨rfl,rfl⟩
 go_wp2_with fail
 refine(Nm HR.out (by decide)).mono ?_;rintro en w2 ⟨x,rfl,hx,hb2⟩;obtain⟨pc,nc,cc,rfl,y1,y2⟩:=hx;have hbn:=HBX.out.below hb2 HBX.out.lt;have k1:=hbn.cell;have f1:=hbn.free;have z1:=hbn.lt;clear c0 cq c2 c3;go_wp2;exact bodyPost_ret (v:=.agg #[.slice pc nc cc]) (by simp[results,Tryz.results53,go_sem,k1]) rfl ⟨_,rfl,Fit.of (y1.store hbn _) y2,(Ab HB.out hb2).setCell (by simp) _⟩
theorem Gb {w:World}{b P Q G H:Nat}(h:Bq w b P Q G H) :
  Calls Tryz.prog 30 #[.pointer (some ⟨b,0,none⟩)] w fun e w'=>∃r,e=.returned (.pointer (some ⟨r,0,none⟩))/\Ring w' r Q 33/\Below w.heap.size w w':=by
 have hq:=h.lims.2.2.1;obtain⟨rp,rq,pg,ng,cg,ph,nh,ch,h1,h2,h3,h4,h5,h6,h7⟩:=h.ex;obtain⟨c0,cq,c2,c3⟩:=Fb h1;have HR:=Ac h3;clear h h1 h2 h3 h4 h5 h6 h7;go_enter Tryz.func30,Tryz.ntmps30
 go_wp2_with fail
 refine(Hr w b).mono ?_;rintro en w1 ⟨rfl,rfl⟩
 go_wp2_with fail
 refine(Dj HR.out).mono ?_;rintro en w2 ⟨x,rfl,hx,hb2⟩;have HX:=Ac hx;have HB2:=Ac hb2;clear hx hb2 c0 cq c2 c3
 go_wp2_with fail
 refine(Fx HX.out (by decide)).mono ?_;rintro en w3 ⟨hb3,hh⟩;rcases hh with ⟨hl,_⟩|⟨_,r,rfl,hr,_⟩
 .omega
 have HR3:=Ac hr;have HB3:=Ac (Ab HB2.out hb3);clear hr hb3;go_wp2;go_ret;exact⟨r,rfl,HR3.out,HB3.out⟩
theorem Xf (w:World):Calls Tryz.prog 30 #[.pointer none] w fun e w'=>e=.returned (.pointer none)/\Below w.heap.size w w':=by
 go_enter Tryz.func30,Tryz.ntmps30
 go_wp2_with fail
 refine(Wt w).mono ?_;rintro en w1 ⟨b,rfl,hn,hb1⟩;obtain⟨c0,c1⟩:=hn.cells;have HB1:=Ac hb1;clear hn hb1
 go_wp2_with fail
 refine(Nh w1).mono ?_;rintro en w2 ⟨rfl,hb2⟩;have HB2:=Ac (Ab HB1.out hb2);have HF:=Ac (Ht w2);clear hb2 c0 c1
 go_wp2_with fail
 refine(Fx HF.out (by decide)).mono ?_;rintro en w3 ⟨hb3,hh⟩;rcases hh with ⟨_,rfl⟩|⟨hl,_⟩
 .have HB3:Aa _:=⟨Ab HB2.out hb3⟩
  clear hb3;go_wp2;go_ret;exact⟨rfl,HB3.out⟩
 .omega
end Go.Proofs.YtokhckjemidbpaaGreatDoor
