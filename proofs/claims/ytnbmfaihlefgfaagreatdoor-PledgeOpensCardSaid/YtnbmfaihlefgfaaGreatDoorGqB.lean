/- A group's product, its power, its members. -/
import Derived.Test.YtnbmfaihlefgfaaGreatDoorMacE
import Derived.Test.YtnbmfaihlefgfaaGreatDoorGrpN
import Derived.BigRegion
import Derived.Laws.Rows
set_option maxRecDepth 1000000
set_option maxHeartbeats 16000000
set_option linter.all false
namespace Go.Proofs.YtnbmfaihlefgfaaGreatDoor
def Kj (P:Nat):Nat->List (Nat×Nat)->Nat
 | x,[]=>x
 | x,(b,e)::l=>Kj P (x*(b^e%P)%P) l
theorem Rq {P:Nat}(hP:2<=P):∀(l:List (Nat×Nat)) (x:Nat),x<P->Kj P x l<P
 | [],_,h=>h
 | (_,_)::l,_,_=>Rq hP l _ (Nat.mod_lt _ (by omega))
theorem Ln {P Q g:Nat}(h:g^Q%P=1%P)(a:Nat):g^a%P=g^(a%Q)%P:=by
 have h1:a=Q*(a/Q)+a%Q:=(Nat.div_add_mod a Q).symm;have h2:g^(Q*(a/Q))%P=1%P:=by
  rw[Nat.pow_mul,Nat.pow_mod,h,<-Nat.pow_mod,Nat.one_pow]
 rw[show g^a=g^(Q*(a/Q))*g^(a%Q) by rw[<-Nat.pow_add,<-h1],Nat.mul_mod,h2,<-Nat.mul_mod,Nat.one_mul]
theorem Tu {P Q g a b:Nat}(h:g^Q%P=1%P)(hab:a%Q=b%Q):g^a%P=g^b%P:=by
 rw[Ln h a,Ln h b,hab]
def Gm (P x:Nat):List Nat->Nat
 | []=>1
 | c::l=>Gm P x l^x%P*c%P
def Ta (x:Nat):List Nat->Nat
 | []=>0
 | c::l=>c+x*Ta x l
open Go Go.RowKit Go.Proofs.YtnbmfaihlefgfaaGreatDoor.Flow
theorem Zt (N:Nat):be (Do N (Aw N))=N:=by
 unfold be Do;rw[List.reverse_reverse,Vr,Nat.mod_eq_of_lt (Zm N)]
theorem Jl {w:World}{v:Value}{e N:Nat}(h:Fit e N v w)(he:e<=200) :
  Calls Tryz.prog 46 #[v] w fun en w'=>∃x,en=.returned x/\Ap N x w'/\Below w.heap.size w w':=by
 obtain⟨p,n,c,rfl,h1,h2⟩:=h;have hbx:=Cu.mk1 w (.slice p n c) 36;have HF:=Aa ((Fit.of h1 h2).below hbx.bel);have HB:=Aa hbx.bel;have hl:Ac (Aw N<=1000):=⟨by
  have:Al N<=32*e:=(Bc N _).2 (by
   have:Ao e=2^(32*e):=by unfold Ao;rw[Nat.pow_mul]
   rw[<-this];exact h2)
  unfold Aw;omega⟩
 clear h1 h2 hbx;go_enter Tryz.func46,Tryz.ntmps46
 go_wp2_with fail
 refine(Ue HF.out (by omega)).mono ?_;rintro en w1 ⟨_,rfl,⟨q,m,d,rfl,hr⟩,b1⟩;have HR:Ac (Bq w1 .u8 q m d (Do N (Aw N))):=⟨⟨hr.len,hr.cap,hr.max,fun _=>hr⟩⟩
 have HM:Ac (m<=1000):=⟨by rw[hr.len,Lc];exact hl.out⟩
 have HB1:=Aa (Ae HB.out b1);clear hr b1
 go_wp2_with fail
 refine(Xy w1 q m d _ HR.out (Mm N _).reverse HM.out).mono ?_;rintro en w2 ⟨x,y,z,rfl,hb,b2,_⟩;rw[Zt]at hb
 have HN:=Aa hb;have HB2:=Aa (Ae HB1.out b2);clear hb b2;go_wp2;go_ret;exact⟨_,rfl,Ap.of HN.out,HB2.out⟩
theorem eR {t:TypeId}{w:World}{b:Nat}{x0 x1 x2 x3:Option Addr×Nat×Nat}(h:Cv t w b (.slice x0.1 x0.2.1 x0.2.2) (.slice x1.1 x1.2.1 x1.2.2) (.slice x2.1 x2.2.1 x2.2.2) (.slice x3.1 x3.2.1 x3.2.2))(u0 u1 u2 u3:Value) :
  Gt w ((((w.setCell ⟨b,0,none⟩ u0).setCell ⟨b,1,none⟩ u1).setCell ⟨b,2,none⟩ u2).setCell ⟨b,3,none⟩ u3):=by
 have h0:=h.at_
 have k0:=Gt.set h.cells.1 u0;have k1:Gt (w.setCell ⟨b,0,none⟩ u0) ((w.setCell ⟨b,0,none⟩ u0).setCell ⟨b,1,none⟩ u1):=Gt.set (p:=x1.1) (n:=x1.2.1) (c:=x1.2.2) (by simp[World.cell?,World.setCell,Array.getElem?_modify,h0]) u1;have k2:Gt ((w.setCell ⟨b,0,none⟩ u0).setCell ⟨b,1,none⟩ u1) (((w.setCell ⟨b,0,none⟩ u0).setCell ⟨b,1,none⟩ u1).setCell ⟨b,2,none⟩ u2):=Gt.set (p:=x2.1) (n:=x2.2.1) (c:=x2.2.2) (by simp[World.cell?,World.setCell,Array.getElem?_modify,h0]) u2;have k3:Gt (((w.setCell ⟨b,0,none⟩ u0).setCell ⟨b,1,none⟩ u1).setCell ⟨b,2,none⟩ u2) ((((w.setCell ⟨b,0,none⟩ u0).setCell ⟨b,1,none⟩ u1).setCell ⟨b,2,none⟩ u2).setCell ⟨b,3,none⟩ u3):=Gt.set (p:=x3.1) (n:=x3.2.1) (c:=x3.2.2) (by simp[World.cell?,World.setCell,Array.getElem?_modify,h0]) u3;exact((k0.trans k1).trans k2).trans k3
structure Fl (P Q G H:Nat) (v:Value) (w:World):Prop where
 ex:∃p0 n0 c0 p1 n1 c1 p2 n2 c2 p3 n3 c3,v=.agg #[.slice p0 n0 c0,.slice p1 n1 c1,.slice p2 n2 c2,.slice p3 n3 c3]/\Bi w p0 n0 c0 P/\Bi w p1 n1 c1 Q/\Bi w p2 n2 c2 G/\Bi w p3 n3 c3 H
theorem Fl.below {P Q G H:Nat}{v:Value}{w w':World}(h:Fl P Q G H v w)(hb:Below w.heap.size w w'):Fl P Q G H v w':=by
 obtain⟨p0,n0,c0,p1,n1,c1,p2,n2,c2,p3,n3,c3,h0,h1,h2,h3,h4⟩:=h.ex;exact⟨p0,n0,c0,p1,n1,c1,p2,n2,c2,p3,n3,c3,h0,h1.below hb,h2.below hb,h3.below hb,h4.below hb⟩
structure kG (Q:Nat) (v:Value) (w:World):Prop where
 ex:∃r,v=.pointer (some ⟨r,0,none⟩)/\Ring w r Q 33
section
variable {At:World->Nat->Nat->Nat->Nat->Nat->Prop} {ready:World->Prop}
end
theorem Tb (w:World)(pk:Option Addr)(nk ck:Nat)(salt:List Nat)(ps:Option Addr)(ns cs:Nat)(secret:List Nat)(hT:Tabs w)(hK:Cq w ⟨pk,nk,ck,salt⟩)(hS:Cq w ⟨ps,ns,cs,secret⟩) :
  Calls Tryz.prog 243 #[.slice pk nk ck,.slice ps ns cs] w (Lh (aJ salt secret) w):=by
 have hb:Below w.heap.size w (w.alloc (.cells #[.slice ps ns cs] 60)):=Cy;have hz:=hb.size;have HC:=Aa (Vp (w.alloc (.cells #[.slice ps ns cs] 60)) pk nk ck salt _ _ _ [⟨ps,ns,cs,secret⟩] (hT.below hb hT.size) (hK.below hb).row hK.bytes (iI w ⟨ps,ns,cs,secret⟩ hS));have HB:=Aa hb;clear hT hK hS hb;go_enter Tryz.func243,Tryz.ntmps243
 go_wp2_with fail
 refine HC.out.mono ?_;rintro e w1 ⟨q,rfl,hq,hb1,hk⟩;rw[Tj]at hk
 go_wp2;go_ret;exact⟨q,rfl,by omega,Gn HB.out hb1,hk⟩
theorem Wf (w:World)(pk:Option Addr)(nk ck:Nat)(salt:List Nat)(ps:Option Addr)(ns cs:Nat)(secret:List Nat)(pi:Option Addr)(ni ci:Nat)(info:List Nat)(n:Nat)(hT:Tabs w)(hK:Cq w ⟨pk,nk,ck,salt⟩)(hS:Cq w ⟨ps,ns,cs,secret⟩)(hI:Cq w ⟨pi,ni,ci,info⟩)(hn:n<=8160) :
  Calls Tryz.prog 223 #[.slice pk nk ck,.slice ps ns cs,.slice pi ni ci,.int .i64 n] w (aB n ((Hu (Kq salt secret) info ((n+31)/32)).take n) w):=by
 have HC:=Aa (Tb w pk nk ck salt ps ns cs secret hT hK hS);have HI:Ac (Cq w ⟨pi,ni,ci,info⟩):=⟨hI⟩
 have HT:Ac (Tabs w):=⟨hT⟩
 clear hT hK hS hI;go_enter Tryz.func223,Tryz.ntmps223
 go_wp2_with fail
 refine HC.out.mono ?_;rintro e w1 ⟨q,rfl,hq,hb1,hk⟩;have hr:Bq w1 .u8 (some ⟨q,0,none⟩) 32 32 (Kq salt secret):=⟨(Ko _ _).symm,Av _,by omega,fun _=>hk.row (Ko _ _).symm (Av _) (by omega)⟩
 go_wp2_with fail
 refine(Vy w1 _ _ _ (Kq salt secret) pi ni ci info n (HT.out.below hb1 HT.out.size) hr (Rw _ _) (HI.out.below hb1) hn).mono ?_;rintro e w2 ⟨p,rfl,hr2,hn2,hb2,hz2⟩;have hz:=hb1.size;have HE:=Aa hr2;have HN:Ac (Eh w.heap.size p/\(p=none->n=0)):=⟨hn2.mono hz,hz2⟩
 clear hr2 hn2 hz2 hr hk;go_wp2;exact bodyPost_ret (v:=.tuple #[.slice p n n,.int .i64 0]) (by simp[results,Tryz.results223,go_sem]) rfl ⟨p,rfl,HE.out,HN.out.1,Gn hb1 hb2,HN.out.2⟩
theorem Qx {N:Nat}{l:List Bp}(h:Told N l):Ce N:=by
 rcases h with h|⟨h,s,hs,rfl⟩
 .exact h.prime
 .exact Lb l [] (fun x hx=>by cases hx) h s hs
def Fp (seed:List Nat)(P c:Nat):Nat:=be ((Hu (Kq [] seed) [104,c] ((Aw P+8+31)/32)).take (Aw P+8))
def Ev (f:Nat->Nat):Nat->Nat->Option Nat
 | 0,_=>none
 | k+1,c=>if 1<f c then some (f c) else Ev f k (c+1)
def Sn (P Q G:Nat):Prop:=(P-1)%Q=0/\64<Q/\1<G/\G<P/\G^Q%P=1
open Classical in
noncomputable def newSpec (P Q G:Nat) (seed:List Nat) (l:List Bp):Nat×Nat :=
 if Told P l/\Told Q l then
  if Sn P Q G then
   match Ev (fun c=>Fp seed P c^((P-1)/Q)%P) 256 0 with
   | some h=>(0,h)
   | none=>(6,0)
  else (1,0)
 else (8,0)
theorem Ut (xs ys:List Nat):be (xs++ys)=be xs*B8 ys.length+be ys:=by
 unfold be;rw[List.reverse_append,Uf,List.length_reverse,Nat.mul_comm (B8 _),Nat.add_comm]
theorem Ys:∀(bs:List Nat) (a:Nat),bs.foldl (fun n x=>n*256+x) a=a*B8 bs.length+be bs
 | [],a=>by simp[be,le,Ic]
 | x::xs,a=>by
  rw[List.foldl_cons,Ys xs,show x::xs=[x]++xs from rfl,Ut,List.length_append,List.length_singleton,Nat.add_comm 1,Gg];have h1:be [x]=x:=by simp[be,le]
  rw[h1,Nat.add_mul,Nat.mul_assoc,Nat.add_assoc]
theorem Vj (bs:List Nat):bG bs=be bs:=by
 unfold bG;rw[Ys];simp
def Bx:List (Nat×Nat)->Nat
 | []=>1
 | (b,e)::l=>b^e*Bx l
theorem Ua (P:Nat):∀(l:List (Nat×Nat)) (x:Nat),Kj P x l%P=x*Bx l%P
 | [],x=>by simp[Kj,Bx]
 | (b,e)::l,x=>by
  rw[Kj,Ua P l,Bx,Nat.mod_mul_mod,Nat.mul_assoc x (b^e%P),<-Nat.mul_mod_mod x (b^e%P*Bx l),Nat.mod_mul_mod,Nat.mul_mod_mod]
theorem eC {P:Nat}(hP:2<=P)(l:List (Nat×Nat)):Kj P 1 l=Bx l%P:=by
 have:=Ua P l 1;rw[Nat.mod_eq_of_lt (Rq hP l 1 (by omega)),Nat.one_mul]at this
 exact this
theorem Mj:∀(l:List (Nat×Nat)) (b e:Nat),Bx (l++[(b,e)])=Bx l*b^e
 | [],b,e=>by simp[Bx]
 | (c,d)::l,b,e=>by rw[List.cons_append,Bx,Mj l,Bx,Nat.mul_assoc]
def Mc (i:Nat)(l:List (Nat×Nat)):List (Nat×Nat):=l.map fun p=>(p.1,p.2/2^i)
def Mt (i:Nat)(l:List (Nat×Nat)):List (Nat×Nat):=l.map fun p=>(p.1,p.2/2^i%2)
theorem fD (l:List (Nat×Nat)):Mc 0 l=l:=by simp[Mc]
theorem Xr (i:Nat):∀l:List (Nat×Nat),Bx (Mc i l)=Bx (Mc (i+1) l)*Bx (Mc (i+1) l)*Bx (Mt i l)
 | []=>rfl
 | (b,e)::l=>by
  have h1:e/2^i=e/2^(i+1)+e/2^(i+1)+e/2^i%2:=by
   rw[Nat.pow_succ,<-Nat.div_div_eq_div_mul];omega
  have h2:b^(e/2^i)=b^(e/2^(i+1))*b^(e/2^(i+1))*b^(e/2^i%2):=by
   rw[<-Nat.pow_add,<-Nat.pow_add,<-h1]
  show b^(e/2^i)*Bx (Mc i l)=(b^(e/2^(i+1))*Bx (Mc (i+1) l))*(b^(e/2^(i+1))*Bx (Mc (i+1) l))*(b^(e/2^i%2)*Bx (Mt i l));rw[h2,Xr i l]
  ac_rfl
theorem Xq (i:Nat):∀l:List (Nat×Nat),(∀p∈l,p.2<2^i)->Bx (Mc i l)=1
 | [],_=>rfl
 | (b,e)::l,h=>by
  show b^(e/2^i)*Bx (Mc i l)=1;rw[Xq i l fun p hp=>h p (List.mem_cons_of_mem _ hp),Nat.div_eq_of_lt (h (b,e) List.mem_cons_self)];simp
theorem fP {i:Nat}{l:List (Nat×Nat)}{k b e:Nat}(h:l[k]? = some (b,e)):Mt i (l.take (k+1))=Mt i (l.take k)++[(b,e/2^i%2)]:=by
 unfold Mt;rw[Ez h,List.map_append];rfl
def Gs:List Nat->Nat
 | []=>0
 | x::l=>max (Al x) (Gs l)
theorem Rr:∀(l:List Nat) (x:Nat),Gs (l++[x])=max (Gs l) (Al x)
 | [],x=>by simp[Gs]
 | y::l,x=>by rw[List.cons_append,Gs,Rr l,Gs];omega
theorem Yb:∀(l:List Nat) (x:Nat),x∈l->x<2^Gs l
 | y::l,x,h=>by
  rcases List.mem_cons.1 h with rfl|h
  .exact Dq (Dl x) (Nat.pow_le_pow_right (by omega) (Nat.le_max_left _ _))
  .exact Dq (Yb l x h) (Nat.pow_le_pow_right (by omega) (Nat.le_max_right _ _))
theorem Yc {m:Nat}:∀(l:List Nat),(∀x∈l,Al x<=m)->Gs l<=m
 | [],_=>Nat.zero_le _
 | y::l,h=>Nat.max_le.2 ⟨h y List.mem_cons_self,Yc l fun x hx=>h x (List.mem_cons_of_mem _ hx)⟩
theorem mG {P X Y s:Nat}:((X*(256^s%P))%P+Y)%P=(X*256^s+Y)%P:=by
 rw[Nat.mul_mod_mod,Nat.mod_add_mod]
theorem iY (seed:List Nat)(P c:Nat):∃bs:List Nat,(Hu (Kq [] seed) [104,c] ((8+Aw P+31)/32)).take (8+Aw P)=bs/\bs.length=8+Aw P/\Be bs/\be (bs.take 8)*256^Aw P+be (bs.drop 8)=Fp seed P c:=by
 have hl:((Hu (Kq [] seed) [104,c] ((8+Aw P+31)/32)).take (8+Aw P)).length=8+Aw P:=by
  rw[List.length_take,Hz];omega
 refine⟨_,rfl,hl,(Sa _ _ _).take _,?_⟩;obtain⟨bs,hb⟩:∃x,(Hu (Kq [] seed) [104,c] ((8+Aw P+31)/32)).take (8+Aw P)=x:=⟨_,rfl⟩
 have hh:Fp seed P c=be bs:=by rw[<-hb];unfold Fp;rw[Nat.add_comm (Aw P) 8]
 rw[hb]at hl ⊢
 have h2:=Ut (bs.take 8) (bs.drop 8);rw[List.take_append_drop,List.length_drop,hl,show 8+Aw P-8=Aw P by omega]at h2
 rw[hh,h2];rfl
theorem lC (A t P:Nat):(A%P)^t%P=A^t%P:=(Nat.pow_mod A t P).symm
theorem bU {f:Nat->Nat}{k c:Nat}(h:1<f c):Ev f (k+1) c=some (f c):=by rw[Ev,if_pos h]
theorem Nr:∀i,i<3->Aw (gP i)=oD i
 | 0,_=>by kernel_rfl
 | 1,_=>by kernel_rfl
 | 2,_=>by kernel_rfl
 | _+3,h=>by omega
theorem Rz (key info:List Nat):Hu key info 1=Kq key (info++[1]):=by
 simp[Hu,Su]
theorem iX:∀i,i<3->Fp [] (gP i) 0=bG (Ry i)
 | 0,h=>by
  rw[Vj];unfold Fp;rw[Nr 0 h,Vs];show be ((Hu _ _ 1).take 10)=_;rw[Rz];show be ((Kq _ [104,0,1]).take 10)=_;rw[aH];rfl
 | 1,h=>by
  rw[Vj];unfold Fp;rw[Nr 1 h,Vs];show be ((Hu _ _ 1).take 11)=_;rw[Rz];show be ((Kq _ [104,0,1]).take 11)=_;rw[aH];rfl
 | 2,h=>by
  rw[Vj];unfold Fp;rw[Nr 2 h,Vs];show be ((Hu _ _ 1).take 17)=_;rw[Rz];show be ((Kq _ [104,0,1]).take 17)=_;rw[aH];rfl
 | _+3,h=>by omega
theorem bP:∀i,i<3->(gP i-1)/gQ i=Mp i
 | 0,_=>by decide
 | 1,_=>by decide
 | 2,_=>by decide
 | _+3,h=>by omega
theorem nL (i:Nat)(hi:i<3):Sn (gP i) (gQ i) (gG i):=by
 obtain⟨h1,h2,h3,_⟩:=El i hi;exact⟨by rw[Uk i hi];exact Nat.mul_mod_right _ _,h1,h2,h3,Lx i hi⟩
theorem dZ (i:Nat)(hi:i<3):newSpec (gP i) (gQ i) (gG i) [] (Ei i)=(0,gH i):=by
 have h1:Fp [] (gP i) 0^((gP i-1)/gQ i)%gP i=gH i:=by rw[iX i hi,bP i hi,oF i hi]
 have h2:=(El i hi).2.2.2.1;unfold newSpec;rw[if_pos ⟨lY i hi,dC i hi⟩,if_pos (nL i hi)];have h3:Ev (fun c=>Fp [] (gP i) c^((gP i-1)/gQ i)%gP i) 256 0=some (gH i):=by
  rw[bU (by show 1<_;rw[h1];exact h2)];show some (Fp [] (gP i) 0^((gP i-1)/gQ i)%gP i)=_;rw[h1]
 rw[h3]
theorem bT:∀i,i<3->∀s∈Ei i,s.ps.length<=1000
 | 0,_=>by intro s hs;cases hs
 | 1,_=>by intro s hs;rcases List.mem_singleton.1 hs with rfl;simp
 | 2,_=>by
  intro s hs;rcases List.mem_cons.1 hs with rfl|hs
  .simp
  .rcases List.mem_singleton.1 hs with rfl;simp
 | _+3,h=>by omega
theorem Vx (w:World):Fit 0 0 (.agg #[.slice none 0 0]) w:=Fit.of (Ah.nil w) (by decide)
theorem An.trans {B:Nat}{w1 w2 w3:World}(h:An B w1 w2)(k:An B w2 w3):An B w1 w3:=⟨h.bel.trans k.bel,fun p n c N x=>k.nat p n c N (h.nat p n c N x)⟩
theorem An.drew (B:Nat)(w:World):An B w w.drew:=⟨(Bg _ _).drew,fun _ _ _ _ k=>k.below ((Bg _ _).drew)⟩
structure RG (B:Nat) (wx:World) (l:List (Nat×Obj)) (w:World):Prop where
 keep:An B wx w
 base:B<=w.heap.size
 blk:∀x∈l,w.heap[x.1]? = some x.2
theorem RG.start {B:Nat}{wx:World}{l:List (Nat×Obj)}(hB:B<=wx.heap.size)(hl:∀x∈l,wx.heap[x.1]? = some x.2):RG B wx l wx.drew:=⟨An.drew _ _,hB,hl⟩
theorem RG.later {B:Nat}{wx:World}{l:List (Nat×Obj)}{w w':World}(h:RG B wx l w)(hb:Below w.heap.size w w'):RG B wx l w' :=
 ⟨h.keep.trans (An.of hb h.base),Fb h.base hb.size,fun x hx=>by rw[hb.block x.1 (Jb (h.blk x hx)).1];exact h.blk x hx⟩
theorem RG.store {B:Nat}{wx:World}{l:List (Nat×Obj)}{w:World}{b m d:Nat}{q:Option Addr}(h:RG B wx l w)(hb:Af w b (.slice q m d))(hB:B<=b)(hn:∀x∈l,x.1≠b)(v:Value):RG B wx l (w.setCell ⟨b,0,none⟩ v) :=
 ⟨h.keep.trans (An.store hb hB v),by simpa using h.base,fun x hx=>by
  have:=hn x hx;simp[World.setCell,Array.getElem?_modify,this.symm];exact h.blk x hx⟩
theorem RG.of {B:Nat}{wx:World}{l:List (Nat×Obj)}{w:World}(h:RG B wx l w){b:Nat}{o:Obj}(hm:(b,o)∈l):w.heap[b]? = some o:=h.blk _ hm
def Qj (d:Bool)(b N:Nat)(w:World):Prop:=∃p n c,Af w b (.slice p n c)/\(d=true->Ah w p n c N)
theorem Qj.fresh {w:World}{b N:Nat}{p:Option Addr}{n c:Nat}(h:Af w b (.slice p n c)):Qj false b N w:=⟨p,n,c,h,fun e=>by cases e⟩
theorem Qj.later {d:Bool}{b N:Nat}{w w':World}(h:Qj d b N w)(hb:Below w.heap.size w w'):Qj d b N w' :=
 let ⟨p,n,c,h1,h2⟩:=h
 ⟨p,n,c,h1.below hb h1.lt,fun e=>(h2 e).below hb⟩
theorem Qj.other {d:Bool}{b N b' m k:Nat}{q:Option Addr}{w:World}(h:Qj d b N w)(hb:Af w b' (.slice q m k))(hne:b≠b')(v:Value):Qj d b N (w.setCell ⟨b',0,none⟩ v) :=
 let ⟨p,n,c,h1,h2⟩:=h
 ⟨p,n,c,h1.other hne v,fun e=>(h2 e).store hb v⟩
theorem Qj.put {d:Bool}{b N:Nat}{w:World}(h:Qj d b N w){p:Option Addr}{n c:Nat}(hx:Ah w p n c N):∃q m k,Af w b (.slice q m k)/\Qj true b N (w.setCell ⟨b,0,none⟩ (.slice p n c)) :=
 let ⟨q,m,k,h1,_⟩:=h
 ⟨q,m,k,h1,p,n,c,h1.set _,fun _=>hx.store h1 _⟩
def Wt (d f:Bool)(v:Value)(B N:Nat)(w:World):Prop:=B<=w.heap.size/\(d=true->∃b,v=.pointer (some ⟨b,0,none⟩)/\B<=b/\Qj f b N w)
theorem Wt.start {v:Value}{B N:Nat}{w:World}(h:B<=w.heap.size):Wt false false v B N w:=⟨h,fun e=>by cases e⟩
theorem Wt.later {d f:Bool}{v:Value}{B N:Nat}{w w':World}(h:Wt d f v B N w)(hb:Below w.heap.size w w'):Wt d f v B N w' :=
 ⟨Fb h.1 hb.size,fun e=>let ⟨b,h1,h2,h3⟩:=h.2 e;⟨b,h1,h2,h3.later hb⟩⟩
theorem Wt.made {v:Value}{B N:Nat}{w:World}(h:Wt false false v B N w):Wt true false (.pointer (some ⟨w.heap.size,0,none⟩)) B N (w.alloc (.cells #[.slice none 0 0] 36)) :=
 ⟨by simp;have:=h.1;omega,fun _=>⟨_,rfl,h.1,Qj.fresh (Af.made _ _)⟩⟩
theorem Wt.put {f:Bool}{v:Value}{B N:Nat}{w:World}(h:Wt true f v B N w){p:Option Addr}{n c:Nat}(hx:Ah w p n c N) :
  ∃b q m k,v=.pointer (some ⟨b,0,none⟩)/\B<=b/\Af w b (.slice q m k)/\Wt true true v B N (w.setCell ⟨b,0,none⟩ (.slice p n c)) :=
 let ⟨b,h1,h2,h3⟩:=h.2 rfl
 let ⟨q,m,k,h4,h5⟩:=h3.put hx
 ⟨b,q,m,k,h1,h2,h4,by simpa using h.1,fun _=>⟨b,h1,h2,h5⟩⟩
theorem RG.store_over {B B2:Nat}{wx:World}{l:List (Nat×Obj)}{w:World}{b m d:Nat}{q:Option Addr}(h:RG B wx l w)(hb:Af w b (.slice q m d))(hB:B<=B2)(hB2:B2<=b)(hl:∀x∈l,x.1<B2)(v:Value):RG B wx l (w.setCell ⟨b,0,none⟩ v) :=
 h.store hb (Fb hB hB2) (fun x hx=>by have:=hl x hx;omega) v
def Gp (e N:Nat)(t v:Value)(w:World):Prop:=∃p n c,v=.tuple #[.agg #[.slice p n c],t]/\Ah w p n c N/\N<Ao e
theorem Gp.keep {e N B:Nat}{t v:Value}{w w':World}(h:Gp e N t v w)(k:An B w w'):Gp e N t v w' :=
 let ⟨p,n,c,h1,h2,h3⟩:=h
 ⟨p,n,c,h1,k.nat _ _ _ _ h2,h3⟩
theorem Ring.keep {B r M f:Nat}{w w':World}(h:Ring w r M f)(hr:r<B)(k:An B w w'):Ring w' r M f:=by
 obtain⟨p,n,c,h1,h2,h3⟩:=h.at_.ex
 exact⟨⟨p,n,c,by rw[k.bel.block r hr];exact h1,k.nat _ _ _ _ h2,h3⟩,h.two,h.lim,h.few⟩
structure Bb (w:World) (b P Q G H:Nat):Prop where
 ex:∃rp rq pg ng cg ph nh ch,w.heap[b]? = some (.cells #[.pointer (some ⟨rp,0,none⟩),.pointer (some ⟨rq,0,none⟩),.slice pg ng cg,.slice ph nh ch] 127 (0,0))/\Ring w rp P 33/\Ring w rq Q 33/\Ah w pg ng cg G/\G<Ao 33/\Ah w ph nh ch H/\H<Ao 33
theorem Bb.lt {w:World}{b P Q G H:Nat}(h:Bb w b P Q G H):b<w.heap.size:=by
 obtain⟨_,_,_,_,_,_,_,_,h1,_⟩:=h.ex;exact(Jb h1).1
theorem Bb.below {w w':World}{b P Q G H:Nat}(h:Bb w b P Q G H)(hb:Below w.heap.size w w'):Bb w' b P Q G H:=by
 have hl:=h.lt;obtain⟨rp,rq,pg,ng,cg,ph,nh,ch,h1,h2,h3,h4,h5,h6,h7⟩:=h.ex;exact⟨rp,rq,pg,ng,cg,ph,nh,ch,by rw[hb.block b hl];exact h1,h2.below hb,h3.below hb,h4.below hb,h5,h6.below hb,h7⟩
theorem Bb.keep {B:Nat}{w w':World}{b P Q G H:Nat}(h:Bb w b P Q G H)(hB:w.heap.size<=B)(k:An B w w'):Bb w' b P Q G H:=by
 have hl:=h.lt;obtain⟨rp,rq,pg,ng,cg,ph,nh,ch,h1,h2,h3,h4,h5,h6,h7⟩:=h.ex;exact⟨rp,rq,pg,ng,cg,ph,nh,ch,by rw[k.bel.block b (by omega)];exact h1,h2.keep (by have:=h2.at_.lt;omega) k,h3.keep (by have:=h3.at_.lt;omega) k,k.nat _ _ _ _ h4,h5,k.nat _ _ _ _ h6,h7⟩
theorem Bb.lims {w:World}{b P Q G H:Nat}(h:Bb w b P Q G H):2<=P/\P<Ao 33/\2<=Q/\Q<Ao 33:=by
 obtain⟨_,_,_,_,_,_,_,_,_,h2,h3,_⟩:=h.ex;exact⟨h2.two,h2.lim,h3.two,h3.lim⟩
structure Oc (B:Nat) (w:World) (b P Q G H:Nat):Prop where
 ex:∃w0,Bb w0 b P Q G H/\w0.heap.size<=B/\An B w0 w
theorem Oc.of {B:Nat}{w w':World}{b P Q G H:Nat}(h:Bb w b P Q G H)(hB:w.heap.size<=B)(k:Below w.heap.size w w')(hB2:B<=w.heap.size:=by exact Av _):Oc B w' b P Q G H:=⟨w,h,hB,An.of k hB2⟩
theorem Oc.keep {B:Nat}{w w':World}{b P Q G H:Nat}(h:Oc B w b P Q G H)(k:An B w w'):Bb w' b P Q G H :=
 let ⟨_,h1,h2,h3⟩:=h.ex
 h1.keep h2 (h3.trans k)
theorem Dj {w:World}{b:Nat}{v0 v1 v2 v3:Value}(h:w.heap[b]? = some (.cells #[v0,v1,v2,v3] 127 (0,0))) :
  w.cell? ⟨b,0,none⟩=some v0/\w.cell? ⟨b,1,none⟩=some v1/\w.cell? ⟨b,2,none⟩=some v2/\w.cell? ⟨b,3,none⟩=some v3:=by
 simp[World.cell?,h]
theorem Er (w:World)(b:Nat):Calls Tryz.prog 87 #[.pointer (some ⟨b,0,none⟩)] w fun e w'=>e=.returned (.pointer (some ⟨b,0,none⟩))/\w'=w:=by
 go_enter Tryz.func87,Tryz.ntmps87;go_wp2;go_ret;exact⟨rfl,rfl⟩
theorem Pu {w:World}{e N:Nat}{v:Value}(h:Fit e N v w)(he:e<=300000) :
  Calls Tryz.prog 115 #[v] w fun en w'=>∃x,en=.returned x/\Fit e N x w'/\Below w.heap.size w w':=by
 obtain⟨pa,na,ca,rfl,h1,h2⟩:=Au h;have hbx:=fW.mk2 w (.slice pa na ca) (.slice none 0 0);have hz:∀w',Fit 0 0 (.agg #[.slice none 0 0]) w':=fun w'=>Fit.of (Ah.nil w') (by decide)
 have HZ:=Ag hz;clear hz;go_enter Tryz.func115,Tryz.ntmps115
 go_wp2_with fail
 refine(Oa (h.below hbx.bel) (HZ.out _) (by omega) (by omega)).mono ?_;rintro en w1 ⟨x,rfl,hx,hb⟩;replace hbx:=hbx.later hb;obtain⟨pc,nc,cc,rfl,y1,_⟩:=hx;have c1:=hbx.b1.cell;have f1:=hbx.b1.free;have z1:=hbx.b1.lt;go_wp2;exact bodyPost_ret (v:=.agg #[.slice pc nc cc]) (by simp[results,Tryz.results115,go_sem,c1]) rfl ⟨_,rfl,Fit.of (y1.store hbx.b1 _) h2,hbx.bel.setCell (by simp) _⟩
theorem Pz {w:World}{e N:Nat}{v:Value}(h:Fit e N v w)(he:e<=900000) :
  Calls Tryz.prog 189 #[v] w fun en w'=>en=.returned (.int .i64 (Aw N:Nat))/\Below w.heap.size w w':=by
 obtain⟨p,n,c,rfl,h1,h2⟩:=h;have hn:n<1000000:=by have:=h1.len_le h2;omega
 have hl:Al N<=30000000:=by have:=Hj h2;omega
 have hbx:=Cu.mk1 w (.slice p n c) 36;have H1:=Aa (h1.below hbx.bel);have HBX:=Aa hbx.bel;have HS:Ac (Aw N=(Al N+7)/8):=⟨rfl⟩
 clear h1 h2 hbx;go_enter Tryz.func189,Tryz.ntmps189
 go_wp2_with fail
 refine(Ex _ p n c N H1.out hn).mono ?_;rintro en w1 ⟨rfl,hb1⟩;have HB1:=Aa (Ae HBX.out hb1);clear hb1;obtain⟨L,hL⟩:∃L,Al N=L:=⟨_,rfl⟩
 rw[hL]at hl HS
 simp only[hL];clear hL;go_wp2;go_ret;refine⟨?_,HB1.out⟩;rw[HS.out];exact congrArg (fun z=>Ending.returned (.int .i64 z)) (by omega)
theorem bQ {w:World}{b P Q G H:Nat}(h:Bb w b P Q G H) :
  Calls Tryz.prog 82 #[.pointer (some ⟨b,0,none⟩)] w fun e w'=>∃x,e=.returned x/\Fit 33 P x w'/\Below w.heap.size w w':=by
 have hb1:=Af.made w (.slice none 0 0);have hbel:Below w.heap.size w (w.alloc (.cells #[.slice none 0 0] 36)):=Cy;obtain⟨wa,hwa⟩:∃wa,w.alloc (.cells #[.slice none 0 0] 36)=wa:=⟨_,rfl⟩
 rw[hwa]at hb1 hbel
 obtain⟨rp,rq,pg,ng,cg,ph,nh,ch,h1,h2,h3,h4,h5,h6,h7⟩:=(h.below hbel).ex;obtain⟨c0,cq,c2,c3⟩:=Dj h1;have HR:=Aa h2;have HBX:=Aa hb1;have HB:=Aa hbel;clear h h1 h2 h3 h4 h5 h6 h7 hb1 hbel;go_enter Tryz.func82,Tryz.ntmps82
 go_wp2_with fail
 refine(Er wa b).mono ?_;rintro en w1 ⟨rfl,rfl⟩
 go_wp2_with fail
 refine(Fa HR.out).mono ?_;rintro en w2 ⟨x,rfl,hx,hb2⟩;obtain⟨pc,nc,cc,rfl,y1,y2⟩:=hx;have hbn:=HBX.out.below hb2 HBX.out.lt;have k1:=hbn.cell;have f1:=hbn.free;have z1:=hbn.lt;clear c0 cq c2 c3;go_wp2;exact bodyPost_ret (v:=.agg #[.slice pc nc cc]) (by simp[results,Tryz.results82,go_sem,k1]) rfl ⟨_,rfl,Fit.of (y1.store hbn _) y2,(Ae HB.out hb2).setCell (by simp) _⟩
theorem bR {w:World}{b P Q G H:Nat}(h:Bb w b P Q G H) :
  Calls Tryz.prog 43 #[.pointer (some ⟨b,0,none⟩)] w fun e w'=>∃x,e=.returned x/\Fit 33 G x w'/\Below w.heap.size w w':=by
 have hb1:=Af.made w (.slice none 0 0);have hbel:Below w.heap.size w (w.alloc (.cells #[.slice none 0 0] 36)):=Cy;obtain⟨wa,hwa⟩:∃wa,w.alloc (.cells #[.slice none 0 0] 36)=wa:=⟨_,rfl⟩
 rw[hwa]at hb1 hbel
 obtain⟨rp,rq,pg,ng,cg,ph,nh,ch,h1,h2,h3,h4,h5,h6,h7⟩:=(h.below hbel).ex;obtain⟨c0,cq,c2,c3⟩:=Dj h1;have HR:=Aa (Fit.of h4 h5);have HBX:=Aa hb1;have HB:=Aa hbel;clear h h1 h2 h3 h4 h5 h6 h7 hb1 hbel;go_enter Tryz.func43,Tryz.ntmps43
 go_wp2_with fail
 refine(Er wa b).mono ?_;rintro en w1 ⟨rfl,rfl⟩
 go_wp2_with fail
 refine(Pu HR.out (by decide)).mono ?_;rintro en w2 ⟨x,rfl,hx,hb2⟩;obtain⟨pc,nc,cc,rfl,y1,y2⟩:=hx;have hbn:=HBX.out.below hb2 HBX.out.lt;have k1:=hbn.cell;have f1:=hbn.free;have z1:=hbn.lt;clear c0 cq c2 c3;go_wp2;exact bodyPost_ret (v:=.agg #[.slice pc nc cc]) (by simp[results,Tryz.results43,go_sem,k1]) rfl ⟨_,rfl,Fit.of (y1.store hbn _) y2,(Ae HB.out hb2).setCell (by simp) _⟩
theorem jC {w:World}{b P Q G H:Nat}(h:Bb w b P Q G H) :
  Calls Tryz.prog 77 #[.pointer (some ⟨b,0,none⟩)] w fun e w'=>∃x,e=.returned x/\Fit 33 H x w'/\Below w.heap.size w w':=by
 have hb1:=Af.made w (.slice none 0 0);have hbel:Below w.heap.size w (w.alloc (.cells #[.slice none 0 0] 36)):=Cy;obtain⟨wa,hwa⟩:∃wa,w.alloc (.cells #[.slice none 0 0] 36)=wa:=⟨_,rfl⟩
 rw[hwa]at hb1 hbel
 obtain⟨rp,rq,pg,ng,cg,ph,nh,ch,h1,h2,h3,h4,h5,h6,h7⟩:=(h.below hbel).ex;obtain⟨c0,cq,c2,c3⟩:=Dj h1;have HR:=Aa (Fit.of h6 h7);have HBX:=Aa hb1;have HB:=Aa hbel;clear h h1 h2 h3 h4 h5 h6 h7 hb1 hbel;go_enter Tryz.func77,Tryz.ntmps77
 go_wp2_with fail
 refine(Er wa b).mono ?_;rintro en w1 ⟨rfl,rfl⟩
 go_wp2_with fail
 refine(Pu HR.out (by decide)).mono ?_;rintro en w2 ⟨x,rfl,hx,hb2⟩;obtain⟨pc,nc,cc,rfl,y1,y2⟩:=hx;have hbn:=HBX.out.below hb2 HBX.out.lt;have k1:=hbn.cell;have f1:=hbn.free;have z1:=hbn.lt;clear c0 cq c2 c3;go_wp2;exact bodyPost_ret (v:=.agg #[.slice pc nc cc]) (by simp[results,Tryz.results77,go_sem,k1]) rfl ⟨_,rfl,Fit.of (y1.store hbn _) y2,(Ae HB.out hb2).setCell (by simp) _⟩
theorem Hk {w:World}{b P Q G H:Nat}(h:Bb w b P Q G H) :
  Calls Tryz.prog 20 #[.pointer (some ⟨b,0,none⟩)] w fun e w'=>∃r,e=.returned (.pointer (some ⟨r,0,none⟩))/\Ring w' r Q 33/\Below w.heap.size w w':=by
 have hq:=h.lims.2.2.1;obtain⟨rp,rq,pg,ng,cg,ph,nh,ch,h1,h2,h3,h4,h5,h6,h7⟩:=h.ex;obtain⟨c0,cq,c2,c3⟩:=Dj h1;have HR:=Aa h3;clear h h1 h2 h3 h4 h5 h6 h7;go_enter Tryz.func20,Tryz.ntmps20
 go_wp2_with fail
 refine(Er w b).mono ?_;rintro en w1 ⟨rfl,rfl⟩
 go_wp2_with fail
 refine(Fa HR.out).mono ?_;rintro en w2 ⟨x,rfl,hx,hb2⟩;have HX:=Aa hx;have HB2:=Aa hb2;clear hx hb2 c0 cq c2 c3
 go_wp2_with fail
 refine(Jj HX.out (by decide)).mono ?_;rintro en w3 ⟨hb3,hh⟩;rcases hh with ⟨hl,_⟩|⟨_,r,rfl,hr,_⟩
 .omega
 have HR3:=Aa hr;have HB3:=Aa (Ae HB2.out hb3);clear hr hb3;go_wp2;go_ret;exact⟨r,rfl,HR3.out,HB3.out⟩
theorem Uh {w:World}{e N:Nat}{v:Value}(h:Fit e N v w)(he:e<=900000) :
  Calls Tryz.prog 134 #[v] w fun en w'=>en=.returned (.bool (decide (N=1)))/\Below w.heap.size w w':=by
 obtain⟨p,n,c,rfl,h1,h2⟩:=h;have hb1:=Af.made w (.slice p n c);have hbel:Below w.heap.size w (w.alloc (.cells #[.slice p n c] 36)):=Cy;obtain⟨wa,hwa⟩:∃wa,w.alloc (.cells #[.slice p n c] 36)=wa:=⟨_,rfl⟩
 rw[hwa]at hb1 hbel
 have HF:=Aa ((Fit.of h1 h2).below hbel);have HBX:=Aa hb1;have HB:=Aa hbel;obtain⟨K,hK⟩:∃K,Bm N 1=K:=⟨_,rfl⟩
 have HK:=Aa hK;obtain⟨X,hX⟩:∃X,decide (N=1)=X:=⟨_,rfl⟩
 have hE:((K:Int)==0)=X:=by
  rw[<-hK,<-hX]
  by_cases hn:N=1
  .simp[hn,Bv.2]
  .have:Bm N 1≠0:=fun h0=>hn (Bv.1 h0)
   simp[hn,this]
 rw[hX];clear hK hX h1 h2 hb1 hbel;go_enter Tryz.func134,Tryz.ntmps134;go_wp2;refine Ak (by kernel_rfl) (by kernel_rfl)
  [some (.agg #[.slice p n c]),none,none,some (.bool X),some (.bool X)]
  [false,true,true,false,false] rfl
  (fun w1 w2=>An (w.heap.size) w1 w2)
  (fun D sp w'=>RG (w.heap.size) wa [(w.heap.size,.cells #[.slice p n c] 36 (0,0))] w'/\True)
  (fun i v w'=>match i with
   | 1=>Fit 1 1 v w'
   | 2=>v=.int .i64 K
   | _=>True)
  ?_ ⟨RG.start HB.out.size (List.forall_mem_cons.2 ⟨HBX.out,fun x hx=>by cases hx⟩),trivial⟩ ?_ ?_
 .intro i v w1 w2 hf hb;split at hf
  .exact hf.keep hb
  .exact hf
  .trivial
 .simp only[Bf,Nat.reduceAdd];refine⟨?_,?_,?_,?_,?_,trivial⟩
  all_goals intro D sp w' hD hW hdp hg
  case refine_1=>
   have c0:w'.cell? ⟨w.heap.size,0,none⟩=some (.slice p n c):=Af.cell (hg.1.of List.mem_cons_self)
   with_reducible refine Ad ?_ ?_
   all_goals simp[Region.wanted,yielded,execOp,Act.eval,Act.put,go_sem,c0]
  case refine_2=>
   (with_reducible refine Ab (w1:=w') (f := 21) (args:=#[.int .u64 1]) ?_ ?_ ?_)
   .simp[Region.wanted,yielded,Act.put,go_sem]
   .simp[Act.eval,Act.put,go_sem]
   .refine(Dt w').mono ?_;rintro en w9 ⟨u,rfl,hu,hb⟩;exact⟨u,rfl,An.of hb hg.1.base,hu,hg.1.later hb,trivial⟩
  case refine_3=>
   have k1:Fit 1 1 (sp 1) w':=(hdp 1 (mq (by kernel_rfl))).2
   (with_reducible refine Ab (w1:=w') (f := 34) (args:=#[.agg #[.slice p n c],sp 1]) ?_ ?_ ?_)
   .simp[Region.wanted,yielded,Act.put,go_sem]
   .simp[Act.eval,Act.put,go_sem]
   .refine(Bk (HF.out.keep hg.1.keep) k1 he (by decide) HK.out).mono ?_;rintro en w9 ⟨u,rfl,rfl,hb⟩;exact⟨_,rfl,An.of hb hg.1.base,rfl,hg.1.later hb,trivial⟩
  case refine_4=>
   have k2:(sp 2)=.int .i64 K:=(hdp 2 (mq (by kernel_rfl))).2
   with_reducible refine Ad ?_ ?_
   all_goals simp[Region.wanted,yielded,execOp,Act.eval,Act.put,go_sem,k2,hE]
  all_goals ((with_reducible refine Ad ?_ ?_);all_goals first|(simp only[Region.wanted];done)|simp[Region.wanted,yielded,execOp,Act.eval,Act.put,go_sem])
 .intro sp w7 hsp hg;have HB7:=Aa (HB.out.trans hg.1.keep.bel);clear hsp hg;simp only[Am,Nat.reduceAdd];generalize sp 1=y1,sp 2=y2 at *
  go_simp
  go_wp2;go_ret;exact⟨rfl,HB7.out⟩
theorem Kt {w:World}{b P Q G H e1 e2 A E:Nat}{v u:Value}(h:Bb w b P Q G H)(hv:Fit e1 A v w)(hu:Fit e2 E u w)(he1:e1<=30000)(he2:e2<=30000) :
  Calls Tryz.prog 89 #[.pointer (some ⟨b,0,none⟩),v,u] w fun e w'=>∃x,e=.returned x/\Fit 33 (A*E%P) x w'/\Below w.heap.size w w':=by
 obtain⟨pa,na,ca,rfl,h1,h2⟩:=Au hv;obtain⟨pb,nb,cb,rfl,k1,k2⟩:=Au hu;have hbx:=aD.mk3 w (.slice pa na ca) (.slice pb nb cb) (.slice none 0 0);have hbl:=h.lt;obtain⟨wa,hwa⟩:∃wa,((w.alloc (.cells #[.slice pa na ca] 36)).alloc (.cells #[.slice pb nb cb] 36)).alloc (.cells #[.slice none 0 0] 36)=wa:=⟨_,rfl⟩
 rw[hwa]at hbx
 obtain⟨X,hX⟩:∃X,A*E%P=X:=⟨_,rfl⟩
 have HX:=Aa hX;have HLX:Ac (X<Ao 33):=⟨by rw[<-hX];exact Nat.lt_trans (Nat.mod_lt _ (by have:=h.lims.1;omega)) h.lims.2.1⟩
 rw[hX];obtain⟨rp,rq,pg,ng,cg,ph,nh,ch,g1,g2,_⟩:=h.ex;have HL:Ac (b<w.heap.size/\rp<w.heap.size):=⟨hbl,g2.at_.lt⟩
 have HG:=Aa ((hbx.bel.block b hbl).trans g1);have HR:=Aa (g2.below hbx.bel);have HA:=Aa ((Fit.of h1 h2).below hbx.bel);have HE:=Aa ((Fit.of k1 k2).below hbx.bel);have HB0:Ac (w.heap.size<=w.heap.size+1+1):=⟨by omega⟩
 have HNE:Ac (∀x∈[((w.heap.size,.cells #[.slice pa na ca] 36 (0,0)):Nat×Obj),(w.heap.size+1,.cells #[.slice pb nb cb] 36 (0,0))],x.1≠w.heap.size+1+1):=⟨List.forall_mem_cons.2 ⟨by simp only;omega,List.forall_mem_cons.2 ⟨by simp only;omega,fun x hx=>by cases hx⟩⟩⟩
 have HBX:=Aa hbx;clear hX g1 g2 h1 h2 k1 k2 hbx hbl h hv hu;go_enter Tryz.func89,Tryz.ntmps89;go_wp2;refine Ak (by kernel_rfl) (by kernel_rfl)
  [some (.pointer (some ⟨b,0,none⟩)),none,some (.pointer (some ⟨b,0,none⟩)),some (.pointer (some ⟨b,0,none⟩)),some (.pointer (some ⟨rp,0,none⟩)),some (.agg #[.slice pa na ca]),some (.agg #[.slice pb nb cb]),none,none]
  [false,true,false,false,false,false,false,true,true] rfl
  (fun w1 w2=>An (w.heap.size) w1 w2)
  (fun D sp w'=>RG (w.heap.size) wa [(w.heap.size,.cells #[.slice pa na ca] 36 (0,0)),(w.heap.size+1,.cells #[.slice pb nb cb] 36 (0,0))] w'/\Qj (D 8) (w.heap.size+1+1) (X) w')
  (fun i v w'=>match i with
   | 1=>v=.pointer (some ⟨b,0,none⟩)
   | 7=>Fit 33 (X) v w'
   | _=>True)
  ?_ ⟨RG.start HBX.out.bel.size (List.forall_mem_cons.2 ⟨HBX.out.b0,List.forall_mem_cons.2 ⟨HBX.out.b1,fun x hx=>by cases hx⟩⟩),Qj.fresh HBX.out.b2⟩ ?_ ?_
 .intro i v w1 w2 hf hb;split at hf
  .exact hf
  .exact hf.keep hb
  .trivial
 .simp only[Bf,Nat.reduceAdd];refine⟨?_,?_,?_,?_,?_,?_,?_,?_,?_,trivial⟩
  all_goals intro D sp w' hD hW hdp hg
  case refine_2=>
   (with_reducible refine Ab (w1:=w') (f := 87) (args:=#[.pointer (some ⟨b,0,none⟩)]) ?_ ?_ ?_)
   .simp[Region.wanted,yielded,Act.put,go_sem]
   .simp[Act.eval,Act.put,go_sem]
   .refine(Er w' b).mono ?_;rintro en w9 ⟨rfl,rfl⟩;exact⟨_,rfl,An.same _ _,rfl,hg.1,by simpa [upd]using hg.2⟩
  case refine_3=>
   have k1:(sp 1)=.pointer (some ⟨b,0,none⟩):=(hdp 1 (mq (by kernel_rfl))).2
   with_reducible refine Ad ?_ ?_
   all_goals simp[Region.wanted,yielded,execOp,Act.eval,Act.put,go_sem,k1]
  case refine_5=>
   have c0:=(Dj ((hg.1.keep.bel.block b HL.out.1).trans HG.out)).1
   with_reducible refine Ad ?_ ?_
   all_goals simp[Region.wanted,yielded,execOp,Act.eval,Act.put,go_sem,c0]
  case refine_6=>
   have c0:w'.cell? ⟨w.heap.size,0,none⟩=some (.slice pa na ca):=Af.cell (hg.1.of List.mem_cons_self)
   with_reducible refine Ad ?_ ?_
   all_goals simp[Region.wanted,yielded,execOp,Act.eval,Act.put,go_sem,c0]
  case refine_7=>
   have c0:w'.cell? ⟨w.heap.size+1,0,none⟩=some (.slice pb nb cb):=Af.cell (hg.1.of (List.mem_cons_of_mem _ List.mem_cons_self))
   with_reducible refine Ad ?_ ?_
   all_goals simp[Region.wanted,yielded,execOp,Act.eval,Act.put,go_sem,c0]
  case refine_8=>
   (with_reducible refine Ab (w1:=w') (f := 48) (args:=#[.pointer (some ⟨rp,0,none⟩),.agg #[.slice pa na ca],.agg #[.slice pb nb cb]]) ?_ ?_ ?_)
   .simp[Region.wanted,yielded,Act.put,go_sem]
   .simp[Act.eval,Act.put,go_sem]
   .refine(Fu (HR.out.keep HL.out.2 hg.1.keep) (HA.out.keep hg.1.keep) (HE.out.keep hg.1.keep) (by omega) (by omega)).mono ?_;rintro en w9 ⟨u,rfl,hu,hb⟩;rw[HX.out]at hu
    exact⟨u,rfl,An.of hb hg.1.base,hu,hg.1.later hb,by simpa [upd]using hg.2.later hb⟩
  case refine_9=>
   have hx:∃p n c,sp 7=.agg #[.slice p n c]/\Ah w' p n c (X)/\X<Ao (33):=(hdp 7 (mq (by kernel_rfl))).2
   (with_reducible refine Az hx fun p hx1=>Az hx1 fun n hx2=>Az hx2 fun c hx3=>?_)
   have h1:=hx3.1;have hp:=hg.2.put (hx3.2.1)
   (with_reducible refine Az hp fun q hy1=>Az hy1 fun m hy2=>Az hy2 fun k hy3=>?_)
   have h6:=hy3.1.cell;have h7:=hy3.1.free
   (with_reducible refine Ar (w1:=w'.setCell ⟨w.heap.size+1+1,0,none⟩ (.slice p n c)) ?_ ?_ ?_)
   .simp[Region.wanted,yielded,Act.put,go_sem]
   .simp[execOp,Act.eval,Act.put,go_sem,h1,h6,h7]
   .refine⟨An.store hy3.1 HB0.out _,trivial,hg.1.store hy3.1 HB0.out HNE.out _,?_⟩;have h8:=hy3.2;simpa [upd]using h8
  all_goals ((with_reducible refine Ad ?_ ?_);all_goals first|(simp only[Region.wanted];done)|simp[Region.wanted,yielded,execOp,Act.eval,Act.put,go_sem])
 .intro sp w7 hsp hg;obtain⟨hg1,pz,nz,cz,hz1,hz2⟩:=hg;have kz:=hz1.cell;have HZ:=Aa (hz2 rfl);have HB7:=Aa (HBX.out.bel.trans hg1.keep.bel);clear hsp hg1 hz1 hz2;simp only[Am,Nat.reduceAdd];generalize sp 1=y1,sp 7=y7,sp 8=y8 at *
  go_simp
  go_wp2;exact bodyPost_ret (v:=.agg #[.slice pz nz cz]) (by simp[results,Tryz.results89,go_sem,kz]) rfl ⟨_,rfl,Fit.of HZ.out HLX.out,HB7.out⟩
theorem Yo {w:World}{b P Q G H e1 e2 A E:Nat}{v u:Value}(h:Bb w b P Q G H)(hv:Fit e1 A v w)(hu:Fit e2 E u w)(he1:e1<=30000)(he2:e2<=30000) :
  Calls Tryz.prog 42 #[.pointer (some ⟨b,0,none⟩),v,u] w fun e w'=>∃x,e=.returned x/\Fit 33 (A^E%P) x w'/\Below w.heap.size w w':=by
 obtain⟨pa,na,ca,rfl,h1,h2⟩:=Au hv;obtain⟨pb,nb,cb,rfl,k1,k2⟩:=Au hu;have hbx:=aD.mk3 w (.slice pa na ca) (.slice pb nb cb) (.slice none 0 0);have hbl:=h.lt;obtain⟨wa,hwa⟩:∃wa,((w.alloc (.cells #[.slice pa na ca] 36)).alloc (.cells #[.slice pb nb cb] 36)).alloc (.cells #[.slice none 0 0] 36)=wa:=⟨_,rfl⟩
 rw[hwa]at hbx
 obtain⟨X,hX⟩:∃X,A^E%P=X:=⟨_,rfl⟩
 have HX:=Aa hX;have HLX:Ac (X<Ao 33):=⟨by rw[<-hX];exact Nat.lt_trans (Nat.mod_lt _ (by have:=h.lims.1;omega)) h.lims.2.1⟩
 rw[hX];obtain⟨rp,rq,pg,ng,cg,ph,nh,ch,g1,g2,_⟩:=h.ex;have HL:Ac (b<w.heap.size/\rp<w.heap.size):=⟨hbl,g2.at_.lt⟩
 have HG:=Aa ((hbx.bel.block b hbl).trans g1);have HR:=Aa (g2.below hbx.bel);have HA:=Aa ((Fit.of h1 h2).below hbx.bel);have HE:=Aa ((Fit.of k1 k2).below hbx.bel);have HB0:Ac (w.heap.size<=w.heap.size+1+1):=⟨by omega⟩
 have HNE:Ac (∀x∈[((w.heap.size,.cells #[.slice pa na ca] 36 (0,0)):Nat×Obj),(w.heap.size+1,.cells #[.slice pb nb cb] 36 (0,0))],x.1≠w.heap.size+1+1):=⟨List.forall_mem_cons.2 ⟨by simp only;omega,List.forall_mem_cons.2 ⟨by simp only;omega,fun x hx=>by cases hx⟩⟩⟩
 have HBX:=Aa hbx;clear hX g1 g2 h1 h2 k1 k2 hbx hbl h hv hu;go_enter Tryz.func42,Tryz.ntmps42;go_wp2;refine Ak (by kernel_rfl) (by kernel_rfl)
  [some (.pointer (some ⟨b,0,none⟩)),none,some (.pointer (some ⟨b,0,none⟩)),some (.pointer (some ⟨b,0,none⟩)),some (.pointer (some ⟨rp,0,none⟩)),some (.agg #[.slice pa na ca]),some (.agg #[.slice pb nb cb]),none,none]
  [false,true,false,false,false,false,false,true,true] rfl
  (fun w1 w2=>An (w.heap.size) w1 w2)
  (fun D sp w'=>RG (w.heap.size) wa [(w.heap.size,.cells #[.slice pa na ca] 36 (0,0)),(w.heap.size+1,.cells #[.slice pb nb cb] 36 (0,0))] w'/\Qj (D 8) (w.heap.size+1+1) (X) w')
  (fun i v w'=>match i with
   | 1=>v=.pointer (some ⟨b,0,none⟩)
   | 7=>Fit 33 (X) v w'
   | _=>True)
  ?_ ⟨RG.start HBX.out.bel.size (List.forall_mem_cons.2 ⟨HBX.out.b0,List.forall_mem_cons.2 ⟨HBX.out.b1,fun x hx=>by cases hx⟩⟩),Qj.fresh HBX.out.b2⟩ ?_ ?_
 .intro i v w1 w2 hf hb;split at hf
  .exact hf
  .exact hf.keep hb
  .trivial
 .simp only[Bf,Nat.reduceAdd];refine⟨?_,?_,?_,?_,?_,?_,?_,?_,?_,trivial⟩
  all_goals intro D sp w' hD hW hdp hg
  case refine_2=>
   (with_reducible refine Ab (w1:=w') (f := 87) (args:=#[.pointer (some ⟨b,0,none⟩)]) ?_ ?_ ?_)
   .simp[Region.wanted,yielded,Act.put,go_sem]
   .simp[Act.eval,Act.put,go_sem]
   .refine(Er w' b).mono ?_;rintro en w9 ⟨rfl,rfl⟩;exact⟨_,rfl,An.same _ _,rfl,hg.1,by simpa [upd]using hg.2⟩
  case refine_3=>
   have k1:(sp 1)=.pointer (some ⟨b,0,none⟩):=(hdp 1 (mq (by kernel_rfl))).2
   with_reducible refine Ad ?_ ?_
   all_goals simp[Region.wanted,yielded,execOp,Act.eval,Act.put,go_sem,k1]
  case refine_5=>
   have c0:=(Dj ((hg.1.keep.bel.block b HL.out.1).trans HG.out)).1
   with_reducible refine Ad ?_ ?_
   all_goals simp[Region.wanted,yielded,execOp,Act.eval,Act.put,go_sem,c0]
  case refine_6=>
   have c0:w'.cell? ⟨w.heap.size,0,none⟩=some (.slice pa na ca):=Af.cell (hg.1.of List.mem_cons_self)
   with_reducible refine Ad ?_ ?_
   all_goals simp[Region.wanted,yielded,execOp,Act.eval,Act.put,go_sem,c0]
  case refine_7=>
   have c0:w'.cell? ⟨w.heap.size+1,0,none⟩=some (.slice pb nb cb):=Af.cell (hg.1.of (List.mem_cons_of_mem _ List.mem_cons_self))
   with_reducible refine Ad ?_ ?_
   all_goals simp[Region.wanted,yielded,execOp,Act.eval,Act.put,go_sem,c0]
  case refine_8=>
   (with_reducible refine Ab (w1:=w') (f := 114) (args:=#[.pointer (some ⟨rp,0,none⟩),.agg #[.slice pa na ca],.agg #[.slice pb nb cb]]) ?_ ?_ ?_)
   .simp[Region.wanted,yielded,Act.put,go_sem]
   .simp[Act.eval,Act.put,go_sem]
   .refine(Iq (HR.out.keep HL.out.2 hg.1.keep) (HA.out.keep hg.1.keep) (HE.out.keep hg.1.keep) (by omega) (by omega)).mono ?_;rintro en w9 ⟨u,rfl,hu,hb⟩;rw[HX.out]at hu
    exact⟨u,rfl,An.of hb hg.1.base,hu,hg.1.later hb,by simpa [upd]using hg.2.later hb⟩
  case refine_9=>
   have hx:∃p n c,sp 7=.agg #[.slice p n c]/\Ah w' p n c (X)/\X<Ao (33):=(hdp 7 (mq (by kernel_rfl))).2
   (with_reducible refine Az hx fun p hx1=>Az hx1 fun n hx2=>Az hx2 fun c hx3=>?_)
   have h1:=hx3.1;have hp:=hg.2.put (hx3.2.1)
   (with_reducible refine Az hp fun q hy1=>Az hy1 fun m hy2=>Az hy2 fun k hy3=>?_)
   have h6:=hy3.1.cell;have h7:=hy3.1.free
   (with_reducible refine Ar (w1:=w'.setCell ⟨w.heap.size+1+1,0,none⟩ (.slice p n c)) ?_ ?_ ?_)
   .simp[Region.wanted,yielded,Act.put,go_sem]
   .simp[execOp,Act.eval,Act.put,go_sem,h1,h6,h7]
   .refine⟨An.store hy3.1 HB0.out _,trivial,hg.1.store hy3.1 HB0.out HNE.out _,?_⟩;have h8:=hy3.2;simpa [upd]using h8
  all_goals ((with_reducible refine Ad ?_ ?_);all_goals first|(simp only[Region.wanted];done)|simp[Region.wanted,yielded,execOp,Act.eval,Act.put,go_sem])
 .intro sp w7 hsp hg;obtain⟨hg1,pz,nz,cz,hz1,hz2⟩:=hg;have kz:=hz1.cell;have HZ:=Aa (hz2 rfl);have HB7:=Aa (HBX.out.bel.trans hg1.keep.bel);clear hsp hg1 hz1 hz2;simp only[Am,Nat.reduceAdd];generalize sp 1=y1,sp 7=y7,sp 8=y8 at *
  go_simp
  go_wp2;exact bodyPost_ret (v:=.agg #[.slice pz nz cz]) (by simp[results,Tryz.results42,go_sem,kz]) rfl ⟨_,rfl,Fit.of HZ.out HLX.out,HB7.out⟩
theorem Pt {w:World}{b P Q G H e1 A:Nat}{v:Value}(h:Bb w b P Q G H)(hv:Fit e1 A v w)(he1:e1<=30000) :
  Calls Tryz.prog 70 #[.pointer (some ⟨b,0,none⟩),v] w fun e w'=>e=.returned (.bool (decide (0<A/\A<P/\A^Q%P=1)))/\Below w.heap.size w w':=by
 obtain⟨pa,na,ca,rfl,h1,h2⟩:=Au hv;have hb1:=Af.made w (.slice pa na ca);have hbel:Below w.heap.size w (w.alloc (.cells #[.slice pa na ca] 36)):=Cy;obtain⟨wa,hwa⟩:∃wa,w.alloc (.cells #[.slice pa na ca] 36)=wa:=⟨_,rfl⟩
 rw[hwa]at hb1 hbel
 have HA:=Aa ((Fit.of h1 h2).below hbel);have HBX:=Aa hb1;have HB:=Aa hbel;have HG:=Aa (Oc.of h (Av _) hbel);obtain⟨rp,rq,pg,ng,cg,ph,nh,ch,g1,g2,g3,_⟩:=h.ex;have HL:Ac (b<w.heap.size/\rp<w.heap.size/\rq<w.heap.size):=⟨h.lt,g2.at_.lt,g3.at_.lt⟩
 have HGB:=Aa ((hbel.block b h.lt).trans g1);have HRQ:=Aa (g3.below hbel);have hq2:=h.lims.2.2.1;obtain⟨K,hK0⟩:∃K,Bm A P=K:=⟨_,rfl⟩
 have HK:=Aa hK0;obtain⟨ANS,hANS⟩:∃X,decide (0<A/\A<P/\A^Q%P=1)=X:=⟨_,rfl⟩
 obtain⟨X,hX⟩:∃X,decide (A^Q%P=1)=X:=⟨_,rfl⟩
 have HX:=Aa hX;rw[hANS]
 by_cases hl:A<P
 .have HANS:Ac (ANS=X):=⟨by
   rw[<-hANS,<-hX];refine decide_eq_decide.2 ⟨fun h=>h.2.2,fun h=>⟨?_,hl,h⟩⟩;rcases Nat.eq_zero_or_pos A with rfl|h0
   .rw[Nat.zero_pow (by omega),Nat.zero_mod]at h;omega
   .exact h0⟩
  have hK:decide (K<0)=true:=decide_eq_true (by rw[<-hK0,Ct hl];decide);clear hl hANS hX hK0 hq2 g1 g2 g3 h1 h2 hb1 hbel h hv;go_enter Tryz.func70,Tryz.ntmps70;go_wp2;refine Ak (by kernel_rfl) (by kernel_rfl)
   [some (.agg #[.slice pa na ca]),some (.pointer (some ⟨b,0,none⟩)),none,none,some (.bool true),some (.bool true),some (.pointer (some ⟨b,0,none⟩)),some (.agg #[.slice pa na ca]),some (.pointer (some ⟨b,0,none⟩)),none,some (.pointer (some ⟨b,0,none⟩)),some (.pointer (some ⟨b,1,none⟩)),some (.pointer (some ⟨rq,0,none⟩)),none,none,none,some (.bool X),some (.bool X)]
   [false,false,true,true,false,false,false,false,false,true,false,false,false,true,true,true,false,false] rfl
   (fun w1 w2=>An (w.heap.size) w1 w2)
   (fun D sp w'=>RG (w.heap.size) wa [(w.heap.size,.cells #[.slice pa na ca] 36 (0,0))] w'/\True)
   (fun i v w'=>match i with
    | 2=>Fit 33 P v w'
    | 3=>v=.int .i64 K
    | 9=>v=.pointer (some ⟨b,0,none⟩)
    | 13=>Fit 33 Q v w'
    | 14=>Fit 33 (A^Q%P) v w'
    | 15=>v=.bool X
    | _=>True)
   ?_ ⟨RG.start HB.out.size (List.forall_mem_cons.2 ⟨HBX.out,fun x hx=>by cases hx⟩),trivial⟩ ?_ ?_
  .intro i v w1 w2 hf hb;split at hf
   .exact hf.keep hb
   .exact hf
   .exact hf
   .exact hf.keep hb
   .exact hf.keep hb
   .exact hf
   .trivial
  .simp only[Bf,Nat.reduceAdd];refine⟨?_,?_,?_,?_,?_,?_,?_,?_,?_,?_,?_,?_,?_,?_,?_,?_,?_,?_,trivial⟩
   all_goals intro D sp w' hD hW hdp hg
   case refine_1|refine_8=>
    have c0:w'.cell? ⟨w.heap.size,0,none⟩=some (.slice pa na ca):=Af.cell (hg.1.of List.mem_cons_self)
    with_reducible refine Ad ?_ ?_
    all_goals simp[Region.wanted,yielded,execOp,Act.eval,Act.put,go_sem,c0]
   case refine_3=>
    (with_reducible refine Ab (w1:=w') (f := 82) (args:=#[.pointer (some ⟨b,0,none⟩)]) ?_ ?_ ?_)
    .simp[Region.wanted,yielded,Act.put,go_sem]
    .simp[Act.eval,Act.put,go_sem]
    .refine(bQ (HG.out.keep hg.1.keep)).mono ?_;rintro en w9 ⟨u,rfl,hu,hb⟩;exact⟨u,rfl,An.of hb hg.1.base,hu,hg.1.later hb,trivial⟩
   case refine_4=>
    have k2:Fit 33 P (sp 2) w':=(hdp 2 (mq (by kernel_rfl))).2
    (with_reducible refine Ab (w1:=w') (f := 34) (args:=#[.agg #[.slice pa na ca],sp 2]) ?_ ?_ ?_)
    .simp[Region.wanted,yielded,Act.put,go_sem]
    .simp[Act.eval,Act.put,go_sem]
    .refine(Bk (HA.out.keep hg.1.keep) k2 (by omega) (by decide) HK.out).mono ?_;rintro en w9 ⟨u,rfl,rfl,hb⟩;exact⟨_,rfl,An.of hb hg.1.base,rfl,hg.1.later hb,trivial⟩
   case refine_5=>
    have k3:(sp 3)=.int .i64 K:=(hdp 3 (mq (by kernel_rfl))).2
    with_reducible refine Ad ?_ ?_
    all_goals simp[Region.wanted,yielded,execOp,Act.eval,Act.put,go_sem,k3,hK]
   case refine_10=>
    (with_reducible refine Ab (w1:=w') (f := 87) (args:=#[.pointer (some ⟨b,0,none⟩)]) ?_ ?_ ?_)
    .simp[Region.wanted,yielded,Act.put,go_sem]
    .simp[Act.eval,Act.put,go_sem]
    .refine(Er w' b).mono ?_;rintro en w9 ⟨rfl,rfl⟩;exact⟨_,rfl,An.same _ _,rfl,hg.1,trivial⟩
   case refine_11=>
    have k9:(sp 9)=.pointer (some ⟨b,0,none⟩):=(hdp 9 (mq (by kernel_rfl))).2
    with_reducible refine Ad ?_ ?_
    all_goals simp[Region.wanted,yielded,execOp,Act.eval,Act.put,go_sem,k9]
   case refine_13=>
    have c0:=(Dj ((hg.1.keep.bel.block b HL.out.1).trans HGB.out)).2.1
    with_reducible refine Ad ?_ ?_
    all_goals simp[Region.wanted,yielded,execOp,Act.eval,Act.put,go_sem,c0]
   case refine_14=>
    (with_reducible refine Ab (w1:=w') (f := 83) (args:=#[.pointer (some ⟨rq,0,none⟩)]) ?_ ?_ ?_)
    .simp[Region.wanted,yielded,Act.put,go_sem]
    .simp[Act.eval,Act.put,go_sem]
    .refine(Fa (HRQ.out.keep HL.out.2.2 hg.1.keep)).mono ?_;rintro en w9 ⟨u,rfl,hu,hb⟩;exact⟨u,rfl,An.of hb hg.1.base,hu,hg.1.later hb,trivial⟩
   case refine_15=>
    have k13:Fit 33 Q (sp 13) w':=(hdp 13 (mq (by kernel_rfl))).2
    (with_reducible refine Ab (w1:=w') (f := 42) (args:=#[.pointer (some ⟨b,0,none⟩),.agg #[.slice pa na ca],sp 13]) ?_ ?_ ?_)
    .simp[Region.wanted,yielded,Act.put,go_sem]
    .simp[Act.eval,Act.put,go_sem]
    .refine(Yo (HG.out.keep hg.1.keep) (HA.out.keep hg.1.keep) k13 (by omega) (by decide)).mono ?_;rintro en w9 ⟨u,rfl,hu,hb⟩;exact⟨u,rfl,An.of hb hg.1.base,hu,hg.1.later hb,trivial⟩
   case refine_16=>
    have k14:Fit 33 (A^Q%P) (sp 14) w':=(hdp 14 (mq (by kernel_rfl))).2
    (with_reducible refine Ab (w1:=w') (f := 134) (args:=#[sp 14]) ?_ ?_ ?_)
    .simp[Region.wanted,yielded,Act.put,go_sem]
    .simp[Act.eval,Act.put,go_sem]
    .refine(Uh k14 (by decide)).mono ?_;rintro en w9 ⟨rfl,hb⟩;rw[HX.out];exact⟨_,rfl,An.of hb hg.1.base,rfl,hg.1.later hb,trivial⟩
   case refine_17=>
    have k15:(sp 15)=.bool X:=(hdp 15 (mq (by kernel_rfl))).2
    with_reducible refine Ad ?_ ?_
    all_goals simp[Region.wanted,yielded,execOp,Act.eval,Act.put,go_sem,k15]
   all_goals ((with_reducible refine Ad ?_ ?_);all_goals first|(simp only[Region.wanted];done)|simp[Region.wanted,yielded,execOp,Act.eval,Act.put,go_sem])
  .intro sp w7 hsp hg;have HB7:=Aa (HB.out.trans hg.1.keep.bel);clear hsp hg hK;simp only[Am,Nat.reduceAdd];generalize sp 2=y2,sp 3=y3,sp 9=y9,sp 13=y13,sp 14=y14,sp 15=y15 at *
   go_simp
   go_wp2;go_ret;exact⟨by rw[HANS.out];rfl,HB7.out⟩
 .have HANS:Ac (ANS=false):=⟨by
   rw[<-hANS];exact decide_eq_false fun h=>hl h.2.1⟩
  have hK:decide (K<0)=false:=decide_eq_false (by
   rw[<-hK0];rcases Nat.eq_or_lt_of_le (Nat.le_of_not_lt hl) with h|h
   .rw[h,Iy];decide
   .have:=Iz.2 h;omega)
  clear hl hANS hX HX hK0 hq2 g1 g2 g3 h1 h2 hb1 hbel h hv;go_enter Tryz.func70,Tryz.ntmps70;go_wp2;refine Ak (by kernel_rfl) (by kernel_rfl)
   [some (.agg #[.slice pa na ca]),some (.pointer (some ⟨b,0,none⟩)),none,none,some (.bool false),some (.bool false),some (undef),some (undef),some (undef),some (undef),some (undef),some (undef),some (undef),some (undef),some (undef),some (undef),some (.bool false),some (.bool false)]
   [false,false,true,true,false,false,false,false,false,false,false,false,false,false,false,false,false,false] rfl
   (fun w1 w2=>An (w.heap.size) w1 w2)
   (fun D sp w'=>RG (w.heap.size) wa [(w.heap.size,.cells #[.slice pa na ca] 36 (0,0))] w'/\True)
   (fun i v w'=>match i with
    | 2=>Fit 33 P v w'
    | 3=>v=.int .i64 K
    | _=>True)
   ?_ ⟨RG.start HB.out.size (List.forall_mem_cons.2 ⟨HBX.out,fun x hx=>by cases hx⟩),trivial⟩ ?_ ?_
  .intro i v w1 w2 hf hb;split at hf
   .exact hf.keep hb
   .exact hf
   .trivial
  .simp only[Bf,Nat.reduceAdd];refine⟨?_,?_,?_,?_,?_,?_,?_,?_,?_,?_,?_,?_,?_,?_,?_,?_,?_,?_,trivial⟩
   all_goals intro D sp w' hD hW hdp hg
   case refine_1=>
    have c0:w'.cell? ⟨w.heap.size,0,none⟩=some (.slice pa na ca):=Af.cell (hg.1.of List.mem_cons_self)
    with_reducible refine Ad ?_ ?_
    all_goals simp[Region.wanted,yielded,execOp,Act.eval,Act.put,go_sem,c0]
   case refine_3=>
    (with_reducible refine Ab (w1:=w') (f := 82) (args:=#[.pointer (some ⟨b,0,none⟩)]) ?_ ?_ ?_)
    .simp[Region.wanted,yielded,Act.put,go_sem]
    .simp[Act.eval,Act.put,go_sem]
    .refine(bQ (HG.out.keep hg.1.keep)).mono ?_;rintro en w9 ⟨u,rfl,hu,hb⟩;exact⟨u,rfl,An.of hb hg.1.base,hu,hg.1.later hb,trivial⟩
   case refine_4=>
    have k2:Fit 33 P (sp 2) w':=(hdp 2 (mq (by kernel_rfl))).2
    (with_reducible refine Ab (w1:=w') (f := 34) (args:=#[.agg #[.slice pa na ca],sp 2]) ?_ ?_ ?_)
    .simp[Region.wanted,yielded,Act.put,go_sem]
    .simp[Act.eval,Act.put,go_sem]
    .refine(Bk (HA.out.keep hg.1.keep) k2 (by omega) (by decide) HK.out).mono ?_;rintro en w9 ⟨u,rfl,rfl,hb⟩;exact⟨_,rfl,An.of hb hg.1.base,rfl,hg.1.later hb,trivial⟩
   case refine_5=>
    have k3:(sp 3)=.int .i64 K:=(hdp 3 (mq (by kernel_rfl))).2
    with_reducible refine Ad ?_ ?_
    all_goals simp[Region.wanted,yielded,execOp,Act.eval,Act.put,go_sem,k3,hK]
   case refine_7|refine_8|refine_9|refine_10|refine_11|refine_12|refine_13|refine_14|refine_15|refine_16=>
    (with_reducible refine Hd ?_ ?_)
    ·(simp[Region.wanted,yielded,Act.put,go_sem]<;>exact fun h=>by cases h)
    .exact⟨rfl,rfl⟩
   all_goals ((with_reducible refine Ad ?_ ?_);all_goals first|(simp only[Region.wanted];done)|simp[Region.wanted,yielded,execOp,Act.eval,Act.put,go_sem])
  .intro sp w7 hsp hg;have HB7:=Aa (HB.out.trans hg.1.keep.bel);clear hsp hg hK;simp only[Am,Nat.reduceAdd];generalize sp 2=y2,sp 3=y3 at *
   go_simp
   go_wp2;go_ret;exact⟨by rw[HANS.out];rfl,HB7.out⟩
end Go.Proofs.YtnbmfaihlefgfaaGreatDoor
