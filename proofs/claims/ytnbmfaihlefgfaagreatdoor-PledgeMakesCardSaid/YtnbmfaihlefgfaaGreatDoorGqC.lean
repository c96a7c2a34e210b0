/- A group's parameters: how often Q goes into P - 1, whether they are right. -/
import Derived.Test.YtnbmfaihlefgfaaGreatDoorGrpN
import Derived.BigRegion
import Derived.Laws.Rows
set_option maxRecDepth 1000000
set_option maxHeartbeats 16000000
set_option linter.all false
namespace Go.Proofs.YtnbmfaihlefgfaaGreatDoor
open Go Go.RowKit Go.Proofs.YtnbmfaihlefgfaaGreatDoor.Flow
theorem Xu (N:Nat):be (Dg N (Au N))=N:=by
 unfold be Dg;rw[List.reverse_reverse,Uk,Nat.mod_eq_of_lt (Xn N)]
theorem Ij {w:World}{v:Value}{e N:Nat}(h:Fit e N v w)(he:e<=200) :
  Calls Tryz.prog 46 #[v] w fun en w'=>∃x,en=.returned x/\Aq N x w'/\Below w.heap.size w w':=by
 obtain⟨p,n,c,rfl,h1,h2⟩:=h;have hbx:=Cu.mk1 w (.slice p n c) 36;have HF:=Ac ((Fit.of h1 h2).below hbx.bel);have HB:=Ac hbx.bel;have hl:Ab (Au N<=1000):=⟨by
  have:Aj N<=32*e:=(Ba N _).2 (by
   have:Am e=2^(32*e):=by unfold Am;rw[Nat.pow_mul]
   rw[<-this];exact h2)
  unfold Au;omega⟩
 clear h1 h2 hbx;go_enter Tryz.func46,Tryz.ntmps46
 go_wp2_with fail
 refine(Sw HF.out (by omega)).mono ?_;rintro en w1 ⟨_,rfl,⟨q,m,d,rfl,hr⟩,b1⟩;have HR:Ab (Bq w1 .u8 q m d (Dg N (Au N))):=⟨⟨hr.len,hr.cap,hr.max,fun _=>hr⟩⟩
 have HM:Ab (m<=1000):=⟨by rw[hr.len,Jy];exact hl.out⟩
 have HB1:=Ac (Ae HB.out b1);clear hr b1
 go_wp2_with fail
 refine(Wd w1 q m d _ HR.out (Lk N _).reverse HM.out).mono ?_;rintro en w2 ⟨x,y,z,rfl,hb,b2,_⟩;rw[Xu]at hb
 have HN:=Ac hb;have HB2:=Ac (Ae HB1.out b2);clear hb b2;go_wp2;go_ret;exact⟨_,rfl,Aq.of HN.out,HB2.out⟩
theorem cO {t:TypeId}{w:World}{b:Nat}{x0 x1 x2 x3:Option Addr×Nat×Nat}(h:Cm t w b (.slice x0.1 x0.2.1 x0.2.2) (.slice x1.1 x1.2.1 x1.2.2) (.slice x2.1 x2.2.1 x2.2.2) (.slice x3.1 x3.2.1 x3.2.2))(u0 u1 u2 u3:Value) :
  Fz w ((((w.setCell ⟨b,0,none⟩ u0).setCell ⟨b,1,none⟩ u1).setCell ⟨b,2,none⟩ u2).setCell ⟨b,3,none⟩ u3):=by
 have h0:=h.at_
 have k0:=Fz.set h.cells.1 u0;have k1:Fz (w.setCell ⟨b,0,none⟩ u0) ((w.setCell ⟨b,0,none⟩ u0).setCell ⟨b,1,none⟩ u1):=Fz.set (p:=x1.1) (n:=x1.2.1) (c:=x1.2.2) (by simp[World.cell?,World.setCell,Array.getElem?_modify,h0]) u1;have k2:Fz ((w.setCell ⟨b,0,none⟩ u0).setCell ⟨b,1,none⟩ u1) (((w.setCell ⟨b,0,none⟩ u0).setCell ⟨b,1,none⟩ u1).setCell ⟨b,2,none⟩ u2):=Fz.set (p:=x2.1) (n:=x2.2.1) (c:=x2.2.2) (by simp[World.cell?,World.setCell,Array.getElem?_modify,h0]) u2;have k3:Fz (((w.setCell ⟨b,0,none⟩ u0).setCell ⟨b,1,none⟩ u1).setCell ⟨b,2,none⟩ u2) ((((w.setCell ⟨b,0,none⟩ u0).setCell ⟨b,1,none⟩ u1).setCell ⟨b,2,none⟩ u2).setCell ⟨b,3,none⟩ u3):=Fz.set (p:=x3.1) (n:=x3.2.1) (c:=x3.2.2) (by simp[World.cell?,World.setCell,Array.getElem?_modify,h0]) u3;exact((k0.trans k1).trans k2).trans k3
structure Cz (P Q G H:Nat) (v:Value) (w:World):Prop where
 ex:∃p0 n0 c0 p1 n1 c1 p2 n2 c2 p3 n3 c3,v=.agg #[.slice p0 n0 c0,.slice p1 n1 c1,.slice p2 n2 c2,.slice p3 n3 c3]/\Ay w p0 n0 c0 P/\Ay w p1 n1 c1 Q/\Ay w p2 n2 c2 G/\Ay w p3 n3 c3 H
theorem Cz.below {P Q G H:Nat}{v:Value}{w w':World}(h:Cz P Q G H v w)(hb:Below w.heap.size w w'):Cz P Q G H v w':=by
 obtain⟨p0,n0,c0,p1,n1,c1,p2,n2,c2,p3,n3,c3,h0,h1,h2,h3,h4⟩:=h.ex;exact⟨p0,n0,c0,p1,n1,c1,p2,n2,c2,p3,n3,c3,h0,h1.below hb,h2.below hb,h3.below hb,h4.below hb⟩
structure iA (Q:Nat) (v:Value) (w:World):Prop where
 ex:∃r,v=.pointer (some ⟨r,0,none⟩)/\Ring w r Q 33
section
variable {At:World->Nat->Nat->Nat->Nat->Nat->Prop} {ready:World->Prop}
end
theorem Rq (w:World)(pk:Option Addr)(nk ck:Nat)(salt:List Nat)(ps:Option Addr)(ns cs:Nat)(secret:List Nat)(hT:Tabs w)(hK:Cl w ⟨pk,nk,ck,salt⟩)(hS:Cl w ⟨ps,ns,cs,secret⟩) :
  Calls Tryz.prog 243 #[.slice pk nk ck,.slice ps ns cs] w (Kc (Yi salt secret) w):=by
 have hb:Below w.heap.size w (w.alloc (.cells #[.slice ps ns cs] 60)):=Co;have hz:=hb.size;have HC:=Ac (Ui (w.alloc (.cells #[.slice ps ns cs] 60)) pk nk ck salt _ _ _ [⟨ps,ns,cs,secret⟩] (hT.below hb hT.size) (hK.below hb).row hK.bytes (eV w ⟨ps,ns,cs,secret⟩ hS));have HB:=Ac hb;clear hT hK hS hb;go_enter Tryz.func243,Tryz.ntmps243
 go_wp2_with fail
 refine HC.out.mono ?_;rintro e w1 ⟨q,rfl,hq,hb1,hk⟩;rw[Sb]at hk
 go_wp2;go_ret;exact⟨q,rfl,by omega,Fu HB.out hb1,hk⟩
theorem Us (w:World)(pk:Option Addr)(nk ck:Nat)(salt:List Nat)(ps:Option Addr)(ns cs:Nat)(secret:List Nat)(pi:Option Addr)(ni ci:Nat)(info:List Nat)(n:Nat)(hT:Tabs w)(hK:Cl w ⟨pk,nk,ck,salt⟩)(hS:Cl w ⟨ps,ns,cs,secret⟩)(hI:Cl w ⟨pi,ni,ci,info⟩)(hn:n<=8160) :
  Calls Tryz.prog 223 #[.slice pk nk ck,.slice ps ns cs,.slice pi ni ci,.int .i64 n] w (Ya n ((Ha (Jm salt secret) info ((n+31)/32)).take n) w):=by
 have HC:=Ac (Rq w pk nk ck salt ps ns cs secret hT hK hS);have HI:Ab (Cl w ⟨pi,ni,ci,info⟩):=⟨hI⟩
 have HT:Ab (Tabs w):=⟨hT⟩
 clear hT hK hS hI;go_enter Tryz.func223,Tryz.ntmps223
 go_wp2_with fail
 refine HC.out.mono ?_;rintro e w1 ⟨q,rfl,hq,hb1,hk⟩;have hr:Bq w1 .u8 (some ⟨q,0,none⟩) 32 32 (Jm salt secret):=⟨(Jl _ _).symm,Av _,by omega,fun _=>hk.row (Jl _ _).symm (Av _) (by omega)⟩
 go_wp2_with fail
 refine(Uo w1 _ _ _ (Jm salt secret) pi ni ci info n (HT.out.below hb1 HT.out.size) hr (Qp _ _) (HI.out.below hb1) hn).mono ?_;rintro e w2 ⟨p,rfl,hr2,hn2,hb2,hz2⟩;have hz:=hb1.size;have HE:=Ac hr2;have HN:Ab (Dv w.heap.size p/\(p=none->n=0)):=⟨hn2.mono hz,hz2⟩
 clear hr2 hn2 hz2 hr hk;go_wp2;exact bodyPost_ret (v:=.tuple #[.slice p n n,.int .i64 0]) (by simp[results,Tryz.results223,go_sem]) rfl ⟨p,rfl,HE.out,HN.out.1,Fu hb1 hb2,HN.out.2⟩
theorem Pu {N:Nat}{l:List Bk}(h:Told N l):Cj N:=by
 rcases h with h|⟨h,s,hs,rfl⟩
 .exact h.prime
 .exact Jw l [] (fun x hx=>by cases hx) h s hs
def Ev (seed:List Nat)(P c:Nat):Nat:=be ((Ha (Jm [] seed) [104,c] ((Au P+8+31)/32)).take (Au P+8))
def Ef (f:Nat->Nat):Nat->Nat->Option Nat
 | 0,_=>none
 | k+1,c=>if 1<f c then some (f c) else Ef f k (c+1)
def Rf (P Q G:Nat):Prop:=(P-1)%Q=0/\64<Q/\1<G/\G<P/\G^Q%P=1
open Classical in
noncomputable def newSpec (P Q G:Nat) (seed:List Nat) (l:List Bk):Nat×Nat :=
 if Told P l/\Told Q l then
  if Rf P Q G then
   match Ef (fun c=>Ev seed P c^((P-1)/Q)%P) 256 0 with
   | some h=>(0,h)
   | none=>(6,0)
  else (1,0)
 else (8,0)
theorem Tk (xs ys:List Nat):be (xs++ys)=be xs*B8 ys.length+be ys:=by
 unfold be;rw[List.reverse_append,Sx,List.length_reverse,Nat.mul_comm (B8 _),Nat.add_comm]
theorem Wx:∀(bs:List Nat) (a:Nat),bs.foldl (fun n x=>n*256+x) a=a*B8 bs.length+be bs
 | [],a=>by simp[be,le,Hg]
 | x::xs,a=>by
  rw[List.foldl_cons,Wx xs,show x::xs=[x]++xs from rfl,Tk,List.length_append,List.length_singleton,Nat.add_comm 1,Fl];have h1:be [x]=x:=by simp[be,le]
  rw[h1,Nat.add_mul,Nat.mul_assoc,Nat.add_assoc]
theorem Uc (bs:List Nat):Zd bs=be bs:=by
 unfold Zd;rw[Wx];simp
def Bu:List (Nat×Nat)->Nat
 | []=>1
 | (b,e)::l=>b^e*Bu l
theorem Sr (P:Nat):∀(l:List (Nat×Nat)) (x:Nat),Jg P x l%P=x*Bu l%P
 | [],x=>by simp[Jg,Bu]
 | (b,e)::l,x=>by
  rw[Jg,Sr P l,Bu,Nat.mod_mul_mod,Nat.mul_assoc x (b^e%P),<-Nat.mul_mod_mod x (b^e%P*Bu l),Nat.mod_mul_mod,Nat.mul_mod_mod]
theorem cA {P:Nat}(hP:2<=P)(l:List (Nat×Nat)):Jg P 1 l=Bu l%P:=by
 have:=Sr P l 1;rw[Nat.mod_eq_of_lt (Ql hP l 1 (by omega)),Nat.one_mul]at this
 exact this
theorem Ld:∀(l:List (Nat×Nat)) (b e:Nat),Bu (l++[(b,e)])=Bu l*b^e
 | [],b,e=>by simp[Bu]
 | (c,d)::l,b,e=>by rw[List.cons_append,Bu,Ld l,Bu,Nat.mul_assoc]
def Kt (i:Nat)(l:List (Nat×Nat)):List (Nat×Nat):=l.map fun p=>(p.1,p.2/2^i)
def Lt (i:Nat)(l:List (Nat×Nat)):List (Nat×Nat):=l.map fun p=>(p.1,p.2/2^i%2)
theorem dC (l:List (Nat×Nat)):Kt 0 l=l:=by simp[Kt]
theorem Vz (i:Nat):∀l:List (Nat×Nat),Bu (Kt i l)=Bu (Kt (i+1) l)*Bu (Kt (i+1) l)*Bu (Lt i l)
 | []=>rfl
 | (b,e)::l=>by
  have h1:e/2^i=e/2^(i+1)+e/2^(i+1)+e/2^i%2:=by
   rw[Nat.pow_succ,<-Nat.div_div_eq_div_mul];omega
  have h2:b^(e/2^i)=b^(e/2^(i+1))*b^(e/2^(i+1))*b^(e/2^i%2):=by
   rw[<-Nat.pow_add,<-Nat.pow_add,<-h1]
  show b^(e/2^i)*Bu (Kt i l)=(b^(e/2^(i+1))*Bu (Kt (i+1) l))*(b^(e/2^(i+1))*Bu (Kt (i+1) l))*(b^(e/2^i%2)*Bu (Lt i l));rw[h2,Vz i l]
  ac_rfl
theorem Vy (i:Nat):∀l:List (Nat×Nat),(∀p∈l,p.2<2^i)->Bu (Kt i l)=1
 | [],_=>rfl
 | (b,e)::l,h=>by
  show b^(e/2^i)*Bu (Kt i l)=1;rw[Vy i l fun p hp=>h p (List.mem_cons_of_mem _ hp),Nat.div_eq_of_lt (h (b,e) List.mem_cons_self)];simp
theorem dN {i:Nat}{l:List (Nat×Nat)}{k b e:Nat}(h:l[k]? = some (b,e)):Lt i (l.take (k+1))=Lt i (l.take k)++[(b,e/2^i%2)]:=by
 unfold Lt;rw[Cp h,List.map_append];rfl
def Fy:List Nat->Nat
 | []=>0
 | x::l=>max (Aj x) (Fy l)
theorem Qm:∀(l:List Nat) (x:Nat),Fy (l++[x])=max (Fy l) (Aj x)
 | [],x=>by simp[Fy]
 | y::l,x=>by rw[List.cons_append,Fy,Qm l,Fy];omega
theorem Wg:∀(l:List Nat) (x:Nat),x∈l->x<2^Fy l
 | y::l,x,h=>by
  rcases List.mem_cons.1 h with rfl|h
  .exact Dj (Dc x) (Nat.pow_le_pow_right (by omega) (Nat.le_max_left _ _))
  .exact Dj (Wg l x h) (Nat.pow_le_pow_right (by omega) (Nat.le_max_right _ _))
theorem Wh {m:Nat}:∀(l:List Nat),(∀x∈l,Aj x<=m)->Fy l<=m
 | [],_=>Nat.zero_le _
 | y::l,h=>Nat.max_le.2 ⟨h y List.mem_cons_self,Wh l fun x hx=>h x (List.mem_cons_of_mem _ hx)⟩
theorem jH {P X Y s:Nat}:((X*(256^s%P))%P+Y)%P=(X*256^s+Y)%P:=by
 rw[Nat.mul_mod_mod,Nat.mod_add_mod]
theorem fP (seed:List Nat)(P c:Nat):∃bs:List Nat,(Ha (Jm [] seed) [104,c] ((8+Au P+31)/32)).take (8+Au P)=bs/\bs.length=8+Au P/\Bb bs/\be (bs.take 8)*256^Au P+be (bs.drop 8)=Ev seed P c:=by
 have hl:((Ha (Jm [] seed) [104,c] ((8+Au P+31)/32)).take (8+Au P)).length=8+Au P:=by
  rw[List.length_take,He];omega
 refine⟨_,rfl,hl,(Qu _ _ _).take _,?_⟩;obtain⟨bs,hb⟩:∃x,(Ha (Jm [] seed) [104,c] ((8+Au P+31)/32)).take (8+Au P)=x:=⟨_,rfl⟩
 have hh:Ev seed P c=be bs:=by rw[<-hb];unfold Ev;rw[Nat.add_comm (Au P) 8]
 rw[hb]at hl ⊢
 have h2:=Tk (bs.take 8) (bs.drop 8);rw[List.take_append_drop,List.length_drop,hl,show 8+Au P-8=Au P by omega]at h2
 rw[hh,h2];rfl
theorem iU (A t P:Nat):(A%P)^t%P=A^t%P:=(Nat.pow_mod A t P).symm
theorem Zp {f:Nat->Nat}{k c:Nat}(h:1<f c):Ef f (k+1) c=some (f c):=by rw[Ef,if_pos h]
theorem Mo:∀i,i<3->Au (gP i)=lC i
 | 0,_=>by kernel_rfl
 | 1,_=>by kernel_rfl
 | 2,_=>by kernel_rfl
 | _+3,h=>by omega
theorem Qt (key info:List Nat):Ha key info 1=Jm key (info++[1]):=by
 simp[Ha,Rj]
theorem fO:∀i,i<3->Ev [] (gP i) 0=Zd (Qs i)
 | 0,h=>by
  rw[Uc];unfold Ev;rw[Mo 0 h,Ul];show be ((Ha _ _ 1).take 10)=_;rw[Qt];show be ((Jm _ [104,0,1]).take 10)=_;rw[Yg];rfl
 | 1,h=>by
  rw[Uc];unfold Ev;rw[Mo 1 h,Ul];show be ((Ha _ _ 1).take 11)=_;rw[Qt];show be ((Jm _ [104,0,1]).take 11)=_;rw[Yg];rfl
 | 2,h=>by
  rw[Uc];unfold Ev;rw[Mo 2 h,Ul];show be ((Ha _ _ 1).take 17)=_;rw[Qt];show be ((Jm _ [104,0,1]).take 17)=_;rw[Yg];rfl
 | _+3,h=>by omega
theorem Zl:∀i,i<3->(gP i-1)/gQ i=Ln i
 | 0,_=>by decide
 | 1,_=>by decide
 | 2,_=>by decide
 | _+3,h=>by omega
theorem kI (i:Nat)(hi:i<3):Rf (gP i) (gQ i) (gG i):=by
 obtain⟨h1,h2,h3,_⟩:=Gr i hi;exact⟨by rw[Tb i hi];exact Nat.mul_mod_right _ _,h1,h2,h3,Tc i hi⟩
theorem bV (i:Nat)(hi:i<3):newSpec (gP i) (gQ i) (gG i) [] (Dw i)=(0,gH i):=by
 have h1:Ev [] (gP i) 0^((gP i-1)/gQ i)%gP i=gH i:=by rw[fO i hi,Zl i hi,lF i hi]
 have h2:=(Gr i hi).2.2.2.1;unfold newSpec;rw[if_pos ⟨jD i hi,aR i hi⟩,if_pos (kI i hi)];have h3:Ef (fun c=>Ev [] (gP i) c^((gP i-1)/gQ i)%gP i) 256 0=some (gH i):=by
  rw[Zp (by show 1<_;rw[h1];exact h2)];show some (Ev [] (gP i) 0^((gP i-1)/gQ i)%gP i)=_;rw[h1]
 rw[h3]
theorem Zo:∀i,i<3->∀s∈Dw i,s.ps.length<=1000
 | 0,_=>by intro s hs;cases hs
 | 1,_=>by intro s hs;rcases List.mem_singleton.1 hs with rfl;simp
 | 2,_=>by
  intro s hs;rcases List.mem_cons.1 hs with rfl|hs
  .simp
  .rcases List.mem_singleton.1 hs with rfl;simp
 | _+3,h=>by omega
theorem Un (w:World):Fit 0 0 (.agg #[.slice none 0 0]) w:=Fit.of (Ah.nil w) (by decide)
theorem Ao.trans {B:Nat}{w1 w2 w3:World}(h:Ao B w1 w2)(k:Ao B w2 w3):Ao B w1 w3:=⟨h.bel.trans k.bel,fun p n c N x=>k.nat p n c N (h.nat p n c N x)⟩
theorem Ao.drew (B:Nat)(w:World):Ao B w w.drew:=⟨(Be _ _).drew,fun _ _ _ _ k=>k.below ((Be _ _).drew)⟩
structure RG (B:Nat) (wx:World) (l:List (Nat×Obj)) (w:World):Prop where
 keep:Ao B wx w
 base:B<=w.heap.size
 blk:∀x∈l,w.heap[x.1]? = some x.2
theorem RG.start {B:Nat}{wx:World}{l:List (Nat×Obj)}(hB:B<=wx.heap.size)(hl:∀x∈l,wx.heap[x.1]? = some x.2):RG B wx l wx.drew:=⟨Ao.drew _ _,hB,hl⟩
theorem RG.later {B:Nat}{wx:World}{l:List (Nat×Obj)}{w w':World}(h:RG B wx l w)(hb:Below w.heap.size w w'):RG B wx l w' :=
 ⟨h.keep.trans (Ao.of hb h.base),Fo h.base hb.size,fun x hx=>by rw[hb.block x.1 (Mv (h.blk x hx)).1];exact h.blk x hx⟩
theorem RG.store {B:Nat}{wx:World}{l:List (Nat×Obj)}{w:World}{b m d:Nat}{q:Option Addr}(h:RG B wx l w)(hb:Af w b (.slice q m d))(hB:B<=b)(hn:∀x∈l,x.1≠b)(v:Value):RG B wx l (w.setCell ⟨b,0,none⟩ v) :=
 ⟨h.keep.trans (Ao.store hb hB v),by simpa using h.base,fun x hx=>by
  have:=hn x hx;simp[World.setCell,Array.getElem?_modify,this.symm];exact h.blk x hx⟩
theorem RG.of {B:Nat}{wx:World}{l:List (Nat×Obj)}{w:World}(h:RG B wx l w){b:Nat}{o:Obj}(hm:(b,o)∈l):w.heap[b]? = some o:=h.blk _ hm
def Yc (d:Bool)(b N:Nat)(w:World):Prop:=∃p n c,Af w b (.slice p n c)/\(d=true->Ah w p n c N)
theorem Yc.fresh {w:World}{b N:Nat}{p:Option Addr}{n c:Nat}(h:Af w b (.slice p n c)):Yc false b N w:=⟨p,n,c,h,fun e=>by cases e⟩
theorem Yc.later {d:Bool}{b N:Nat}{w w':World}(h:Yc d b N w)(hb:Below w.heap.size w w'):Yc d b N w' :=
 let ⟨p,n,c,h1,h2⟩:=h
 ⟨p,n,c,h1.below hb h1.lt,fun e=>(h2 e).below hb⟩
theorem Yc.put {d:Bool}{b N:Nat}{w:World}(h:Yc d b N w){p:Option Addr}{n c:Nat}(hx:Ah w p n c N):∃q m k,Af w b (.slice q m k)/\Yc true b N (w.setCell ⟨b,0,none⟩ (.slice p n c)) :=
 let ⟨q,m,k,h1,_⟩:=h
 ⟨q,m,k,h1,p,n,c,h1.set _,fun _=>hx.store h1 _⟩
def Xz (d f:Bool)(v:Value)(B N:Nat)(w:World):Prop:=B<=w.heap.size/\(d=true->∃b,v=.pointer (some ⟨b,0,none⟩)/\B<=b/\Yc f b N w)
theorem Xz.start {v:Value}{B N:Nat}{w:World}(h:B<=w.heap.size):Xz false false v B N w:=⟨h,fun e=>by cases e⟩
theorem Xz.later {d f:Bool}{v:Value}{B N:Nat}{w w':World}(h:Xz d f v B N w)(hb:Below w.heap.size w w'):Xz d f v B N w' :=
 ⟨Fo h.1 hb.size,fun e=>let ⟨b,h1,h2,h3⟩:=h.2 e;⟨b,h1,h2,h3.later hb⟩⟩
theorem Xz.made {v:Value}{B N:Nat}{w:World}(h:Xz false false v B N w):Xz true false (.pointer (some ⟨w.heap.size,0,none⟩)) B N (w.alloc (.cells #[.slice none 0 0] 36)) :=
 ⟨by simp;have:=h.1;omega,fun _=>⟨_,rfl,h.1,Yc.fresh (Af.made _ _)⟩⟩
theorem Xz.put {f:Bool}{v:Value}{B N:Nat}{w:World}(h:Xz true f v B N w){p:Option Addr}{n c:Nat}(hx:Ah w p n c N) :
  ∃b q m k,v=.pointer (some ⟨b,0,none⟩)/\B<=b/\Af w b (.slice q m k)/\Xz true true v B N (w.setCell ⟨b,0,none⟩ (.slice p n c)) :=
 let ⟨b,h1,h2,h3⟩:=h.2 rfl
 let ⟨q,m,k,h4,h5⟩:=h3.put hx
 ⟨b,q,m,k,h1,h2,h4,by simpa using h.1,fun _=>⟨b,h1,h2,h5⟩⟩
theorem RG.store_over {B B2:Nat}{wx:World}{l:List (Nat×Obj)}{w:World}{b m d:Nat}{q:Option Addr}(h:RG B wx l w)(hb:Af w b (.slice q m d))(hB:B<=B2)(hB2:B2<=b)(hl:∀x∈l,x.1<B2)(v:Value):RG B wx l (w.setCell ⟨b,0,none⟩ v) :=
 h.store hb (Fo hB hB2) (fun x hx=>by have:=hl x hx;omega) v
def Fv (e N:Nat)(t v:Value)(w:World):Prop:=∃p n c,v=.tuple #[.agg #[.slice p n c],t]/\Ah w p n c N/\N<Am e
theorem Fv.keep {e N B:Nat}{t v:Value}{w w':World}(h:Fv e N t v w)(k:Ao B w w'):Fv e N t v w' :=
 let ⟨p,n,c,h1,h2,h3⟩:=h
 ⟨p,n,c,h1,k.nat _ _ _ _ h2,h3⟩
theorem Ring.keep {B r M f:Nat}{w w':World}(h:Ring w r M f)(hr:r<B)(k:Ao B w w'):Ring w' r M f:=by
 obtain⟨p,n,c,h1,h2,h3⟩:=h.at_.ex
 exact⟨⟨p,n,c,by rw[k.bel.block r hr];exact h1,k.nat _ _ _ _ h2,h3⟩,h.two,h.lim,h.few⟩
structure Bo (w:World) (b P Q G H:Nat):Prop where
 ex:∃rp rq pg ng cg ph nh ch,w.heap[b]? = some (.cells #[.pointer (some ⟨rp,0,none⟩),.pointer (some ⟨rq,0,none⟩),.slice pg ng cg,.slice ph nh ch] 127 (0,0))/\Ring w rp P 33/\Ring w rq Q 33/\Ah w pg ng cg G/\G<Am 33/\Ah w ph nh ch H/\H<Am 33
theorem Bo.lt {w:World}{b P Q G H:Nat}(h:Bo w b P Q G H):b<w.heap.size:=by
 obtain⟨_,_,_,_,_,_,_,_,h1,_⟩:=h.ex;exact(Mv h1).1
theorem Bo.below {w w':World}{b P Q G H:Nat}(h:Bo w b P Q G H)(hb:Below w.heap.size w w'):Bo w' b P Q G H:=by
 have hl:=h.lt;obtain⟨rp,rq,pg,ng,cg,ph,nh,ch,h1,h2,h3,h4,h5,h6,h7⟩:=h.ex;exact⟨rp,rq,pg,ng,cg,ph,nh,ch,by rw[hb.block b hl];exact h1,h2.below hb,h3.below hb,h4.below hb,h5,h6.below hb,h7⟩
theorem Bo.lims {w:World}{b P Q G H:Nat}(h:Bo w b P Q G H):2<=P/\P<Am 33/\2<=Q/\Q<Am 33:=by
 obtain⟨_,_,_,_,_,_,_,_,_,h2,h3,_⟩:=h.ex;exact⟨h2.two,h2.lim,h3.two,h3.lim⟩
theorem Ej {w:World}{b:Nat}{v0 v1 v2 v3:Value}(h:w.heap[b]? = some (.cells #[v0,v1,v2,v3] 127 (0,0))) :
  w.cell? ⟨b,0,none⟩=some v0/\w.cell? ⟨b,1,none⟩=some v1/\w.cell? ⟨b,2,none⟩=some v2/\w.cell? ⟨b,3,none⟩=some v3:=by
 simp[World.cell?,h]
theorem Gn (w:World)(b:Nat):Calls Tryz.prog 87 #[.pointer (some ⟨b,0,none⟩)] w fun e w'=>e=.returned (.pointer (some ⟨b,0,none⟩))/\w'=w:=by
 go_enter Tryz.func87,Tryz.ntmps87;go_wp2;go_ret;exact⟨rfl,rfl⟩
theorem Ou {w:World}{e N:Nat}{v:Value}(h:Fit e N v w)(he:e<=300000) :
  Calls Tryz.prog 115 #[v] w fun en w'=>∃x,en=.returned x/\Fit e N x w'/\Below w.heap.size w w':=by
 obtain⟨pa,na,ca,rfl,h1,h2⟩:=Bc h;have hbx:=jR.mk2 w (.slice pa na ca) (.slice none 0 0);have hz:∀w',Fit 0 0 (.agg #[.slice none 0 0]) w':=fun w'=>Fit.of (Ah.nil w') (by decide)
 have HZ:=Ad hz;clear hz;go_enter Tryz.func115,Tryz.ntmps115
 go_wp2_with fail
 refine(Mw (h.below hbx.bel) (HZ.out _) (by omega) (by omega)).mono ?_;rintro en w1 ⟨x,rfl,hx,hb⟩;replace hbx:=hbx.later hb;obtain⟨pc,nc,cc,rfl,y1,_⟩:=hx;have c1:=hbx.b1.cell;have f1:=hbx.b1.free;have z1:=hbx.b1.lt;go_wp2;exact bodyPost_ret (v:=.agg #[.slice pc nc cc]) (by simp[results,Tryz.results115,go_sem,c1]) rfl ⟨_,rfl,Fit.of (y1.store hbx.b1 _) h2,hbx.bel.setCell (by simp) _⟩
theorem Pa {w:World}{e N:Nat}{v:Value}(h:Fit e N v w)(he:e<=900000) :
  Calls Tryz.prog 189 #[v] w fun en w'=>en=.returned (.int .i64 (Au N:Nat))/\Below w.heap.size w w':=by
 obtain⟨p,n,c,rfl,h1,h2⟩:=h;have hn:n<1000000:=by have:=h1.len_le h2;omega
 have hl:Aj N<=30000000:=by have:=Gq h2;omega
 have hbx:=Cu.mk1 w (.slice p n c) 36;have H1:=Ac (h1.below hbx.bel);have HBX:=Ac hbx.bel;have HS:Ab (Au N=(Aj N+7)/8):=⟨rfl⟩
 clear h1 h2 hbx;go_enter Tryz.func189,Tryz.ntmps189
 go_wp2_with fail
 refine(Eg _ p n c N H1.out hn).mono ?_;rintro en w1 ⟨rfl,hb1⟩;have HB1:=Ac (Ae HBX.out hb1);clear hb1;obtain⟨L,hL⟩:∃L,Aj N=L:=⟨_,rfl⟩
 rw[hL]at hl HS
 simp only[hL];clear hL;go_wp2;go_ret;refine⟨?_,HB1.out⟩;rw[HS.out];exact congrArg (fun z=>Ending.returned (.int .i64 z)) (by omega)
theorem kK {w:World}{b P Q G H:Nat}(h:Bo w b P Q G H) :
  Calls Tryz.prog 82 #[.pointer (some ⟨b,0,none⟩)] w fun e w'=>∃x,e=.returned x/\Fit 33 P x w'/\Below w.heap.size w w':=by
 have hb1:=Af.made w (.slice none 0 0);have hbel:Below w.heap.size w (w.alloc (.cells #[.slice none 0 0] 36)):=Co;obtain⟨wa,hwa⟩:∃wa,w.alloc (.cells #[.slice none 0 0] 36)=wa:=⟨_,rfl⟩
 rw[hwa]at hb1 hbel
 obtain⟨rp,rq,pg,ng,cg,ph,nh,ch,h1,h2,h3,h4,h5,h6,h7⟩:=(h.below hbel).ex;obtain⟨c0,cq,c2,c3⟩:=Ej h1;have HR:=Ac h2;have HBX:=Ac hb1;have HB:=Ac hbel;clear h h1 h2 h3 h4 h5 h6 h7 hb1 hbel;go_enter Tryz.func82,Tryz.ntmps82
 go_wp2_with fail
 refine(Gn wa b).mono ?_;rintro en w1 ⟨rfl,rfl⟩
 go_wp2_with fail
 refine(Fn HR.out).mono ?_;rintro en w2 ⟨x,rfl,hx,hb2⟩;obtain⟨pc,nc,cc,rfl,y1,y2⟩:=hx;have hbn:=HBX.out.below hb2 HBX.out.lt;have k1:=hbn.cell;have f1:=hbn.free;have z1:=hbn.lt;clear c0 cq c2 c3;go_wp2;exact bodyPost_ret (v:=.agg #[.slice pc nc cc]) (by simp[results,Tryz.results82,go_sem,k1]) rfl ⟨_,rfl,Fit.of (y1.store hbn _) y2,(Ae HB.out hb2).setCell (by simp) _⟩
theorem Zm {w:World}{b P Q G H:Nat}(h:Bo w b P Q G H) :
  Calls Tryz.prog 43 #[.pointer (some ⟨b,0,none⟩)] w fun e w'=>∃x,e=.returned x/\Fit 33 G x w'/\Below w.heap.size w w':=by
 have hb1:=Af.made w (.slice none 0 0);have hbel:Below w.heap.size w (w.alloc (.cells #[.slice none 0 0] 36)):=Co;obtain⟨wa,hwa⟩:∃wa,w.alloc (.cells #[.slice none 0 0] 36)=wa:=⟨_,rfl⟩
 rw[hwa]at hb1 hbel
 obtain⟨rp,rq,pg,ng,cg,ph,nh,ch,h1,h2,h3,h4,h5,h6,h7⟩:=(h.below hbel).ex;obtain⟨c0,cq,c2,c3⟩:=Ej h1;have HR:=Ac (Fit.of h4 h5);have HBX:=Ac hb1;have HB:=Ac hbel;clear h h1 h2 h3 h4 h5 h6 h7 hb1 hbel;go_enter Tryz.func43,Tryz.ntmps43
 go_wp2_with fail
 refine(Gn wa b).mono ?_;rintro en w1 ⟨rfl,rfl⟩
 go_wp2_with fail
 refine(Ou HR.out (by decide)).mono ?_;rintro en w2 ⟨x,rfl,hx,hb2⟩;obtain⟨pc,nc,cc,rfl,y1,y2⟩:=hx;have hbn:=HBX.out.below hb2 HBX.out.lt;have k1:=hbn.cell;have f1:=hbn.free;have z1:=hbn.lt;clear c0 cq c2 c3;go_wp2;exact bodyPost_ret (v:=.agg #[.slice pc nc cc]) (by simp[results,Tryz.results43,go_sem,k1]) rfl ⟨_,rfl,Fit.of (y1.store hbn _) y2,(Ae HB.out hb2).setCell (by simp) _⟩
theorem fU {w:World}{b P Q G H:Nat}(h:Bo w b P Q G H) :
  Calls Tryz.prog 77 #[.pointer (some ⟨b,0,none⟩)] w fun e w'=>∃x,e=.returned x/\Fit 33 H x w'/\Below w.heap.size w w':=by
 have hb1:=Af.made w (.slice none 0 0);have hbel:Below w.heap.size w (w.alloc (.cells #[.slice none 0 0] 36)):=Co;obtain⟨wa,hwa⟩:∃wa,w.alloc (.cells #[.slice none 0 0] 36)=wa:=⟨_,rfl⟩
 rw[hwa]at hb1 hbel
 obtain⟨rp,rq,pg,ng,cg,ph,nh,ch,h1,h2,h3,h4,h5,h6,h7⟩:=(h.below hbel).ex;obtain⟨c0,cq,c2,c3⟩:=Ej h1;have HR:=Ac (Fit.of h6 h7);have HBX:=Ac hb1;have HB:=Ac hbel;clear h h1 h2 h3 h4 h5 h6 h7 hb1 hbel;go_enter Tryz.func77,Tryz.ntmps77
 go_wp2_with fail
 refine(Gn wa b).mono ?_;rintro en w1 ⟨rfl,rfl⟩
 go_wp2_with fail
 refine(Ou HR.out (by decide)).mono ?_;rintro en w2 ⟨x,rfl,hx,hb2⟩;obtain⟨pc,nc,cc,rfl,y1,y2⟩:=hx;have hbn:=HBX.out.below hb2 HBX.out.lt;have k1:=hbn.cell;have f1:=hbn.free;have z1:=hbn.lt;clear c0 cq c2 c3;go_wp2;exact bodyPost_ret (v:=.agg #[.slice pc nc cc]) (by simp[results,Tryz.results77,go_sem,k1]) rfl ⟨_,rfl,Fit.of (y1.store hbn _) y2,(Ae HB.out hb2).setCell (by simp) _⟩
theorem Qr {w:World}{b P Q G H:Nat}(h:Bo w b P Q G H) :
  Calls Tryz.prog 20 #[.pointer (some ⟨b,0,none⟩)] w fun e w'=>∃r,e=.returned (.pointer (some ⟨r,0,none⟩))/\Ring w' r Q 33/\Below w.heap.size w w':=by
 have hq:=h.lims.2.2.1;obtain⟨rp,rq,pg,ng,cg,ph,nh,ch,h1,h2,h3,h4,h5,h6,h7⟩:=h.ex;obtain⟨c0,cq,c2,c3⟩:=Ej h1;have HR:=Ac h3;clear h h1 h2 h3 h4 h5 h6 h7;go_enter Tryz.func20,Tryz.ntmps20
 go_wp2_with fail
 refine(Gn w b).mono ?_;rintro en w1 ⟨rfl,rfl⟩
 go_wp2_with fail
 refine(Fn HR.out).mono ?_;rintro en w2 ⟨x,rfl,hx,hb2⟩;have HX:=Ac hx;have HB2:=Ac hb2;clear hx hb2 c0 cq c2 c3
 go_wp2_with fail
 refine(Ih HX.out (by decide)).mono ?_;rintro en w3 ⟨hb3,hh⟩;rcases hh with ⟨hl,_⟩|⟨_,r,rfl,hr,_⟩
 .omega
 have HR3:=Ac hr;have HB3:=Ac (Ae HB2.out hb3);clear hr hb3;go_wp2;go_ret;exact⟨r,rfl,HR3.out,HB3.out⟩
theorem cQ {w:World}{e N:Nat}{v:Value}(h:Fit e N v w)(he:e<=900000) :
  Calls Tryz.prog 134 #[v] w fun en w'=>en=.returned (.bool (decide (N=1)))/\Below w.heap.size w w':=by
 obtain⟨p,n,c,rfl,h1,h2⟩:=h;have hb1:=Af.made w (.slice p n c);have hbel:Below w.heap.size w (w.alloc (.cells #[.slice p n c] 36)):=Co;obtain⟨wa,hwa⟩:∃wa,w.alloc (.cells #[.slice p n c] 36)=wa:=⟨_,rfl⟩
 rw[hwa]at hb1 hbel
 have HF:=Ac ((Fit.of h1 h2).below hbel);have HBX:=Ac hb1;have HB:=Ac hbel;obtain⟨K,hK⟩:∃K,Bn N 1=K:=⟨_,rfl⟩
 have HK:=Ac hK;obtain⟨X,hX⟩:∃X,decide (N=1)=X:=⟨_,rfl⟩
 have hE:((K:Int)==0)=X:=by
  rw[<-hK,<-hX]
  by_cases hn:N=1
  .simp[hn,Cr.2]
  .have:Bn N 1≠0:=fun h0=>hn (Cr.1 h0)
   simp[hn,this]
 rw[hX];clear hK hX h1 h2 hb1 hbel;go_enter Tryz.func134,Tryz.ntmps134;go_wp2;refine Al (by kernel_rfl) (by kernel_rfl)
  [some (.agg #[.slice p n c]),none,none,some (.bool X),some (.bool X)]
  [false,true,true,false,false] rfl
  (fun w1 w2=>Ao (w.heap.size) w1 w2)
  (fun D sp w'=>RG (w.heap.size) wa [(w.heap.size,.cells #[.slice p n c] 36 (0,0))] w'/\True)
  (fun i v w'=>match i with
   | 1=>Fit 1 1 v w'
   | 2=>v=.int .i64 K
   | _=>True)
  ?_ ⟨RG.start HB.out.size (List.forall_mem_cons.2 ⟨HBX.out,fun x hx=>by cases hx⟩),trivial⟩ ?_ ?_
 .intro i v w1 w2 hf hb;split at hf
  .exact hf.keep hb
  .exact hf
  .trivial
 .simp only[Bf,Nat.reduceAdd];refine⟨?_,?_,?_,?_,?_,trivial⟩
  all_goals intro D sp w' hD hW hdp hg
  case refine_1=>
   have c0:w'.cell? ⟨w.heap.size,0,none⟩=some (.slice p n c):=Af.cell (hg.1.of List.mem_cons_self)
   with_reducible refine Ag ?_ ?_
   all_goals simp[Region.wanted,yielded,execOp,Act.eval,Act.put,go_sem,c0]
  case refine_2=>
   (with_reducible refine Aa (w1:=w') (f := 21) (args:=#[.int .u64 1]) ?_ ?_ ?_)
   .simp[Region.wanted,yielded,Act.put,go_sem]
   .simp[Act.eval,Act.put,go_sem]
   .refine(Di w').mono ?_;rintro en w9 ⟨u,rfl,hu,hb⟩;exact⟨u,rfl,Ao.of hb hg.1.base,hu,hg.1.later hb,trivial⟩
  case refine_3=>
   have k1:Fit 1 1 (sp 1) w':=(hdp 1 (mq (by kernel_rfl))).2
   (with_reducible refine Aa (w1:=w') (f := 34) (args:=#[.agg #[.slice p n c],sp 1]) ?_ ?_ ?_)
   .simp[Region.wanted,yielded,Act.put,go_sem]
   .simp[Act.eval,Act.put,go_sem]
   .refine(Bp (HF.out.keep hg.1.keep) k1 he (by decide) HK.out).mono ?_;rintro en w9 ⟨u,rfl,rfl,hb⟩;exact⟨_,rfl,Ao.of hb hg.1.base,rfl,hg.1.later hb,trivial⟩
  case refine_4=>
   have k2:(sp 2)=.int .i64 K:=(hdp 2 (mq (by kernel_rfl))).2
   with_reducible refine Ag ?_ ?_
   all_goals simp[Region.wanted,yielded,execOp,Act.eval,Act.put,go_sem,k2,hE]
  all_goals ((with_reducible refine Ag ?_ ?_);all_goals first|(simp only[Region.wanted];done)|simp[Region.wanted,yielded,execOp,Act.eval,Act.put,go_sem])
 .intro sp w7 hsp hg;have HB7:=Ac (HB.out.trans hg.1.keep.bel);clear hsp hg;simp only[An,Nat.reduceAdd];generalize sp 1=y1,sp 2=y2 at *
  go_simp
  go_wp2;go_ret;exact⟨rfl,HB7.out⟩
theorem Mn {w:World}{b P Q G H e1 e2 A E:Nat}{v u:Value}(h:Bo w b P Q G H)(hv:Fit e1 A v w)(hu:Fit e2 E u w)(he1:e1<=30000)(he2:e2<=30000) :
  Calls Tryz.prog 89 #[.pointer (some ⟨b,0,none⟩),v,u] w fun e w'=>∃x,e=.returned x/\Fit 33 (A*E%P) x w'/\Below w.heap.size w w':=by
 obtain⟨pa,na,ca,rfl,h1,h2⟩:=Bc hv;obtain⟨pb,nb,cb,rfl,k1,k2⟩:=Bc hu;have hbx:=aW.mk3 w (.slice pa na ca) (.slice pb nb cb) (.slice none 0 0);have hbl:=h.lt;obtain⟨wa,hwa⟩:∃wa,((w.alloc (.cells #[.slice pa na ca] 36)).alloc (.cells #[.slice pb nb cb] 36)).alloc (.cells #[.slice none 0 0] 36)=wa:=⟨_,rfl⟩
 rw[hwa]at hbx
 obtain⟨X,hX⟩:∃X,A*E%P=X:=⟨_,rfl⟩
 have HX:=Ac hX;have HLX:Ab (X<Am 33):=⟨by rw[<-hX];exact Nat.lt_trans (Nat.mod_lt _ (by have:=h.lims.1;omega)) h.lims.2.1⟩
 rw[hX];obtain⟨rp,rq,pg,ng,cg,ph,nh,ch,g1,g2,_⟩:=h.ex;have HL:Ab (b<w.heap.size/\rp<w.heap.size):=⟨hbl,g2.at_.lt⟩
 have HG:=Ac ((hbx.bel.block b hbl).trans g1);have HR:=Ac (g2.below hbx.bel);have HA:=Ac ((Fit.of h1 h2).below hbx.bel);have HE:=Ac ((Fit.of k1 k2).below hbx.bel);have HB0:Ab (w.heap.size<=w.heap.size+1+1):=⟨by omega⟩
 have HNE:Ab (∀x∈[((w.heap.size,.cells #[.slice pa na ca] 36 (0,0)):Nat×Obj),(w.heap.size+1,.cells #[.slice pb nb cb] 36 (0,0))],x.1≠w.heap.size+1+1):=⟨List.forall_mem_cons.2 ⟨by simp only;omega,List.forall_mem_cons.2 ⟨by simp only;omega,fun x hx=>by cases hx⟩⟩⟩
 have HBX:=Ac hbx;clear hX g1 g2 h1 h2 k1 k2 hbx hbl h hv hu;go_enter Tryz.func89,Tryz.ntmps89;go_wp2;refine Al (by kernel_rfl) (by kernel_rfl)
  [some (.pointer (some ⟨b,0,none⟩)),none,some (.pointer (some ⟨b,0,none⟩)),some (.pointer (some ⟨b,0,none⟩)),some (.pointer (some ⟨rp,0,none⟩)),some (.agg #[.slice pa na ca]),some (.agg #[.slice pb nb cb]),none,none]
  [false,true,false,false,false,false,false,true,true] rfl
  (fun w1 w2=>Ao (w.heap.size) w1 w2)
  (fun D sp w'=>RG (w.heap.size) wa [(w.heap.size,.cells #[.slice pa na ca] 36 (0,0)),(w.heap.size+1,.cells #[.slice pb nb cb] 36 (0,0))] w'/\Yc (D 8) (w.heap.size+1+1) (X) w')
  (fun i v w'=>match i with
   | 1=>v=.pointer (some ⟨b,0,none⟩)
   | 7=>Fit 33 (X) v w'
   | _=>True)
  ?_ ⟨RG.start HBX.out.bel.size (List.forall_mem_cons.2 ⟨HBX.out.b0,List.forall_mem_cons.2 ⟨HBX.out.b1,fun x hx=>by cases hx⟩⟩),Yc.fresh HBX.out.b2⟩ ?_ ?_
 .intro i v w1 w2 hf hb;split at hf
  .exact hf
  .exact hf.keep hb
  .trivial
 .simp only[Bf,Nat.reduceAdd];refine⟨?_,?_,?_,?_,?_,?_,?_,?_,?_,trivial⟩
  all_goals intro D sp w' hD hW hdp hg
  case refine_2=>
   (with_reducible refine Aa (w1:=w') (f := 87) (args:=#[.pointer (some ⟨b,0,none⟩)]) ?_ ?_ ?_)
   .simp[Region.wanted,yielded,Act.put,go_sem]
   .simp[Act.eval,Act.put,go_sem]
   .refine(Gn w' b).mono ?_;rintro en w9 ⟨rfl,rfl⟩;exact⟨_,rfl,Ao.same _ _,rfl,hg.1,by simpa [upd]using hg.2⟩
  case refine_3=>
   have k1:(sp 1)=.pointer (some ⟨b,0,none⟩):=(hdp 1 (mq (by kernel_rfl))).2
   with_reducible refine Ag ?_ ?_
   all_goals simp[Region.wanted,yielded,execOp,Act.eval,Act.put,go_sem,k1]
  case refine_5=>
   have c0:=(Ej ((hg.1.keep.bel.block b HL.out.1).trans HG.out)).1
   with_reducible refine Ag ?_ ?_
   all_goals simp[Region.wanted,yielded,execOp,Act.eval,Act.put,go_sem,c0]
  case refine_6=>
   have c0:w'.cell? ⟨w.heap.size,0,none⟩=some (.slice pa na ca):=Af.cell (hg.1.of List.mem_cons_self)
   with_reducible refine Ag ?_ ?_
   all_goals simp[Region.wanted,yielded,execOp,Act.eval,Act.put,go_sem,c0]
  case refine_7=>
   have c0:w'.cell? ⟨w.heap.size+1,0,none⟩=some (.slice pb nb cb):=Af.cell (hg.1.of (List.mem_cons_of_mem _ List.mem_cons_self))
   with_reducible refine Ag ?_ ?_
   all_goals simp[Region.wanted,yielded,execOp,Act.eval,Act.put,go_sem,c0]
  case refine_8=>
   (with_reducible refine Aa (w1:=w') (f := 48) (args:=#[.pointer (some ⟨rp,0,none⟩),.agg #[.slice pa na ca],.agg #[.slice pb nb cb]]) ?_ ?_ ?_)
   .simp[Region.wanted,yielded,Act.put,go_sem]
   .simp[Act.eval,Act.put,go_sem]
   .refine(Gl (HR.out.keep HL.out.2 hg.1.keep) (HA.out.keep hg.1.keep) (HE.out.keep hg.1.keep) (by omega) (by omega)).mono ?_;rintro en w9 ⟨u,rfl,hu,hb⟩;rw[HX.out]at hu
    exact⟨u,rfl,Ao.of hb hg.1.base,hu,hg.1.later hb,by simpa [upd]using hg.2.later hb⟩
  case refine_9=>
   have hx:∃p n c,sp 7=.agg #[.slice p n c]/\Ah w' p n c (X)/\X<Am (33):=(hdp 7 (mq (by kernel_rfl))).2
   (with_reducible refine Az hx fun p hx1=>Az hx1 fun n hx2=>Az hx2 fun c hx3=>?_)
   have h1:=hx3.1;have hp:=hg.2.put (hx3.2.1)
   (with_reducible refine Az hp fun q hy1=>Az hy1 fun m hy2=>Az hy2 fun k hy3=>?_)
   have h6:=hy3.1.cell;have h7:=hy3.1.free
   (with_reducible refine Ar (w1:=w'.setCell ⟨w.heap.size+1+1,0,none⟩ (.slice p n c)) ?_ ?_ ?_)
   .simp[Region.wanted,yielded,Act.put,go_sem]
   .simp[execOp,Act.eval,Act.put,go_sem,h1,h6,h7]
   .refine⟨Ao.store hy3.1 HB0.out _,trivial,hg.1.store hy3.1 HB0.out HNE.out _,?_⟩;have h8:=hy3.2;simpa [upd]using h8
  all_goals ((with_reducible refine Ag ?_ ?_);all_goals first|(simp only[Region.wanted];done)|simp[Region.wanted,yielded,execOp,Act.eval,Act.put,go_sem])
 .intro sp w7 hsp hg;obtain⟨hg1,pz,nz,cz,hz1,hz2⟩:=hg;have kz:=hz1.cell;have HZ:=Ac (hz2 rfl);have HB7:=Ac (HBX.out.bel.trans hg1.keep.bel);clear hsp hg1 hz1 hz2;simp only[An,Nat.reduceAdd];generalize sp 1=y1,sp 7=y7,sp 8=y8 at *
  go_simp
  go_wp2;exact bodyPost_ret (v:=.agg #[.slice pz nz cz]) (by simp[results,Tryz.results89,go_sem,kz]) rfl ⟨_,rfl,Fit.of HZ.out HLX.out,HB7.out⟩
theorem Ring.wide {w:World}{r M e f:Nat}(h:Ring w r M e)(hf:e<=f)(h2:f<=10000):Ring w r M f:=⟨h.at_,h.two,Dj h.lim (Cf hf),h2⟩
theorem Lh {n:Nat}(w:World)(hn:n<18446744073709551616):Calls Tryz.prog 21 #[.int .u64 (n:Nat)] w fun en w'=>∃x,en=.returned x/\Fit 2 n x w'/\Below w.heap.size w w':=by
 refine(Cq n w hn).mono ?_;rintro en w' ⟨p,m,c,rfl,h,hb,_⟩;exact⟨_,rfl,Fit.of h (by unfold Am;omega),hb⟩
theorem Sq {w:World}{e P Q:Nat}{x y z:Option Addr×Nat×Nat}{ps:Option Addr}{ns cs:Nat}(hP:Hq w x P)(lP:P<Am e)(hQ:Hq w y Q)(lQ:Q<Am e)(h1:1<=P)(h2:1<=Q)(he:e<=32) :
  Calls Tryz.prog 194 #[.agg #[.slice x.1 x.2.1 x.2.2,.slice y.1 y.2.1 y.2.2,.slice z.1 z.2.1 z.2.2,.slice ps ns cs]] w fun en w'=>∃u,en=.returned (.tuple #[u,.bool (decide ((P-1)%Q=0))])/\Fit e ((P-1)/Q) u w'/\Below w.heap.size w w':=by
 have hX0:=Cm.made 118 w (.slice x.1 x.2.1 x.2.2) (.slice y.1 y.2.1 y.2.2) (.slice z.1 z.2.1 z.2.2) (.slice ps ns cs);have hb0:Below w.heap.size w (w.alloc (.cells #[.slice x.1 x.2.1 x.2.2,.slice y.1 y.2.1 y.2.2,.slice z.1 z.2.1 z.2.2,.slice ps ns cs] 118)):=Co;have hsz:(w.alloc (.cells #[.slice x.1 x.2.1 x.2.2,.slice y.1 y.2.1 y.2.2,.slice z.1 z.2.1 z.2.2,.slice ps ns cs] 118)).heap.size=w.heap.size+1:=by simp
 obtain⟨wz,hwz⟩:∃wz,w.alloc (.cells #[.slice x.1 x.2.1 x.2.2,.slice y.1 y.2.1 y.2.2,.slice z.1 z.2.1 z.2.2,.slice ps ns cs] 118)=wz:=⟨_,rfl⟩
 rw[hwz]at hX0 hb0 hsz
 have hR0:=Af.made wz (.slice none 0 0);have hba:Below wz.heap.size wz (wz.alloc (.cells #[.slice none 0 0] 36)):=Co;obtain⟨wa,hwa⟩:∃wa,wz.alloc (.cells #[.slice none 0 0] 36)=wa:=⟨_,rfl⟩
 rw[hwa]at hR0 hba
 have hX1:=hX0.below hba hX0.lt;rw[hsz]at hR0
 have hbel:=Ae hb0 hba;have HX:=Ac hX1;have HR:=Ac hR0;have HB:=Ac hbel;have HSZ:Ab (w.heap.size+1+1<=wa.heap.size):=⟨hR0.lt⟩
 have HP:Ab (Fit e P (.agg #[.slice x.1 x.2.1 x.2.2]) wa):=⟨(Fit.of hP lP).below hbel⟩
 have HQ:Ab (Fit e Q (.agg #[.slice y.1 y.2.1 y.2.2]) wa):=⟨(Fit.of hQ lQ).below hbel⟩
 have H1:=Ac h1;have H2:=Ac h2;have HLT:Ab (∀g∈([(w.heap.size,.cells #[.slice x.1 x.2.1 x.2.2,.slice y.1 y.2.1 y.2.2,.slice z.1 z.2.1 z.2.2,.slice ps ns cs] 118 (0,0)),(w.heap.size+1,.cells #[.slice none 0 0] 36 (0,0))]:List (Nat×Obj)),g.1<wa.heap.size):=⟨List.forall_mem_cons.2 ⟨by simp only;have:=HSZ.out;omega,List.forall_mem_cons.2 ⟨by simp only;have:=HSZ.out;omega,fun g hx=>by cases hx⟩⟩⟩
 obtain⟨ANS,hANS⟩:∃X,decide ((P-1)%Q=0)=X:=⟨_,rfl⟩
 have HANS:=Ac hANS;rw[hANS];clear hANS h1 h2 hX0 hX1 hR0 hb0 hba hbel hP hQ lP lQ;go_enter Tryz.func194,Tryz.ntmps194;go_wp2;refine Al (by kernel_rfl) (by kernel_rfl)
  [some (.pointer (some ⟨w.heap.size,0,none⟩)),some (.agg #[.slice x.1 x.2.1 x.2.2]),none,none,none,none,some (.bool true),none,none,some (.bool true)]
  [false,false,true,true,true,true,false,true,true,false] rfl
  (fun w1 w2=>Ao (w.heap.size) w1 w2)
  (fun D sp w'=>RG (w.heap.size) wa [(w.heap.size,.cells #[.slice x.1 x.2.1 x.2.2,.slice y.1 y.2.1 y.2.2,.slice z.1 z.2.1 z.2.2,.slice ps ns cs] 118 (0,0)),(w.heap.size+1,.cells #[.slice none 0 0] 36 (0,0))] w'/\Xz (D 7) (D 8) (sp 7) (wa.heap.size) (P-1) w')
  (fun i v w'=>match i with
   | 2=>Fit 1 1 v w'
   | 3=>Fv e (P-1) (.bool true) v w'
   | 4=>Fv e (P-1) (.bool true) v w'
   | 5=>Fit (e) (P-1) v w'
   | _=>True)
  ?_ ⟨RG.start HB.out.size (List.forall_mem_cons.2 ⟨HX.out.at_,List.forall_mem_cons.2 ⟨HR.out,fun x hx=>by cases hx⟩⟩),Xz.start (Av _)⟩ ?_ ?_
 .intro i v w1 w2 hf hb;split at hf
  .exact hf.keep hb
  .exact hf.keep hb
  .exact hf.keep hb
  .exact hf.keep hb
  .trivial
 .simp only[Bf,Nat.reduceAdd];refine⟨?_,?_,?_,?_,?_,?_,?_,?_,?_,?_,trivial⟩
  all_goals intro D sp w' hD hW hdp hg
  case refine_2=>
   have c0:=(Cm.cells ⟨hg.1.of List.mem_cons_self⟩).1
   with_reducible refine Ag ?_ ?_
   all_goals simp[Region.wanted,yielded,execOp,Act.eval,Act.put,go_sem,c0]
  case refine_3=>
   (with_reducible refine Aa (w1:=w') (f := 21) (args:=#[.int .u64 1]) ?_ ?_ ?_)
   .simp[Region.wanted,yielded,Act.put,go_sem]
   .simp[Act.eval,Act.put,go_sem]
   .refine(Di w').mono ?_;rintro en w9 ⟨u,rfl,hu,hb⟩;exact⟨u,rfl,Ao.of hb hg.1.base,hu,hg.1.later hb,by simpa [upd]using hg.2.later hb⟩
  case refine_4=>
   have k2:Fit 1 1 (sp 2) w':=(hdp 2 (mq (by kernel_rfl))).2
   (with_reducible refine Aa (w1:=w') (f := 130) (args:=#[.agg #[.slice x.1 x.2.1 x.2.2],sp 2]) ?_ ?_ ?_)
   .simp[Region.wanted,yielded,Act.put,go_sem]
   .simp[Act.eval,Act.put,go_sem]
   .refine(Ts (HP.out.keep hg.1.keep) k2 (by omega) (by decide)).mono ?_;rintro en w9 ⟨_,rfl,⟨p,n,c,rfl,hu1,hu2⟩,hb⟩;rw[decide_eq_true H1.out];exact⟨_,rfl,Ao.of hb hg.1.base,⟨p,n,c,rfl,hu1,hu2⟩,hg.1.later hb,by simpa [upd]using hg.2.later hb⟩
  case refine_5=>
   have k3:Fv e (P-1) (.bool true) (sp 3) w':=(hdp 3 (mq (by kernel_rfl))).2
   (with_reducible refine Ai (w1:=w') (v:=sp 3) ?_ ?_ ?_)
   .simp[Region.wanted,yielded,Act.put,go_sem]
   .simp[execOp,Act.eval,Act.put,go_sem]
   .exact⟨Ao.same _ _,k3,hg.1,by simpa [upd]using hg.2⟩
  case refine_6=>
   have hx:∃p n c,sp 4=.tuple #[.agg #[.slice p n c],.bool true]/\Ah w' p n c (P-1)/\P-1<Am (e):=(hdp 4 (mq (by kernel_rfl))).2
   (with_reducible refine Az hx fun p hx1=>Az hx1 fun n hx2=>Az hx2 fun c hx3=>?_)
   have h1:=hx3.1
   (with_reducible refine Ai (w1:=w') (v:=.agg #[.slice p n c]) ?_ ?_ ?_)
   .simp[Region.wanted,yielded,Act.put,go_sem]
   .simp[execOp,Act.eval,Act.put,go_sem,h1]
   .exact⟨Ao.same _ _,⟨p,n,c,rfl,hx3.2⟩,hg.1,by simpa [upd]using hg.2⟩
  case refine_7=>
   have hx:∃p n c,sp 4=.tuple #[.agg #[.slice p n c],.bool true]/\Ah w' p n c (P-1)/\P-1<Am (e):=(hdp 4 (mq (by kernel_rfl))).2
   (with_reducible refine Az hx fun p hx1=>Az hx1 fun n hx2=>Az hx2 fun c hx3=>?_)
   have h1:=hx3.1
   with_reducible refine Ag ?_ ?_
   all_goals simp[Region.wanted,yielded,execOp,Act.eval,Act.put,go_sem,h1]
  case refine_8=>
   have h9:D 8=false:=hW 8 (mq (by kernel_rfl));rw[hD,h9]at hg
   (with_reducible refine Ai (w1:=w'.alloc (.cells #[.slice none 0 0] 36)) (v:=.pointer (some ⟨w'.heap.size,0,none⟩)) ?_ ?_ ?_)
   .simp[Region.wanted,yielded,Act.put,go_sem]
   .simp[execOp,go_sem]
   .have hb:Below w'.heap.size w' (w'.alloc (.cells #[.slice none 0 0] 36)):=Co;refine⟨Ao.of hb hg.1.base,trivial,hg.1.later hb,?_⟩;have h8:=hg.2.made;simpa [upd,h9]using h8
  case refine_9=>
   have hx:∃p n c,sp 5=.agg #[.slice p n c]/\Ah w' p n c (P-1)/\P-1<Am (e):=(hdp 5 (mq (by kernel_rfl))).2
   (with_reducible refine Az hx fun p hx1=>Az hx1 fun n hx2=>Az hx2 fun c hx3=>?_)
   have h1:=hx3.1;have h9:D 7=true:=(hdp 7 (mq (by kernel_rfl))).1;rw[h9]at hg
   have hp:=hg.2.put (hx3.2.1)
   (with_reducible refine Az hp fun b hy0=>Az hy0 fun q hy1=>Az hy1 fun m hy2=>Az hy2 fun k hy3=>?_)
   have h3:=hy3.1;have h6:=hy3.2.2.1.cell;have h7:=hy3.2.2.1.free
   (with_reducible refine Ar (w1:=w'.setCell ⟨b,0,none⟩ (.slice p n c)) ?_ ?_ ?_)
   .simp[Region.wanted,yielded,Act.put,go_sem]
   .simp[execOp,Act.eval,Act.put,go_sem,h1,h3,h6,h7]
   .refine⟨Ao.store hy3.2.2.1 (Fo HB.out.size hy3.2.1) _,trivial,hg.1.store_over hy3.2.2.1 HB.out.size hy3.2.1 HLT.out _,?_⟩;have h8:=hy3.2.2.2;simpa [upd,h9]using h8
  all_goals ((with_reducible refine Ag ?_ ?_);all_goals first|(simp only[Region.wanted];done)|simp[Region.wanted,yielded,execOp,Act.eval,Act.put,go_sem])
 .intro sp w2 hsp hg;obtain⟨hg1,_,hmk⟩:=hg;obtain⟨b4,e4,hb4,p4,n4,c4,hx4,hn4⟩:=hmk rfl;replace hn4:=hn4 rfl;have HK2:=Ac hg1;have HX4:=Ac hx4;have HN4:=Ac hn4;have HB4:=Ac hb4;have hx4lt:=hx4.lt;obtain⟨c0,cy,c2,c3⟩:=Cm.cells ⟨hg1.of List.mem_cons_self⟩;have cx4:=hx4.cell;have hLP:P-1<Am e:=by have:=HP.out.lim;omega
  have HLP:=Ac hLP;clear hsp hg1 hmk hx4 hn4 hb4 hLP;simp only[An,Nat.reduceAdd];rw[e4];clear e4;generalize sp 2=y2,sp 3=y3,sp 4=y4,sp 5=y5,sp 8=y8 at *
  go_simp
  go_wp2_with fail
  refine(Xc (Fit.of HN4.out HLP.out) (HQ.out.keep HK2.out.keep) (by have:=H2.out;omega) (by omega) (by omega)).mono ?_;rintro en w3 ⟨_,rfl,⟨p6,n6,c6,p7,n7,c7,rfl,hq6,hq7⟩,hb3⟩;have HK3:=Ac (HK2.out.later hb3);have HQ6:=Ac hq6;have HQ7:=Ac hq7;have hs3:=HB4.out;have HS3:Ab (wa.heap.size<=w3.heap.size):=⟨by have:=hb3.size;have:=hx4lt;omega⟩
  have hb5:Below w3.heap.size w3 ((w3.alloc (.cells #[.slice p6 n6 c6] 36)).alloc (.cells #[.slice p7 n7 c7] 36)):=((Be _ _).alloc (Av _) _).alloc (by simp) _;have hB6:=Af.made w3 (.slice p6 n6 c6);have hB7:=Af.made (w3.alloc (.cells #[.slice p6 n6 c6] 36)) (.slice p7 n7 c7);have hB6':=hB6.below (B:=(w3.alloc (.cells #[.slice p6 n6 c6] 36)).heap.size) ((Be _ _).alloc (Av _) (.cells #[.slice p7 n7 c7] 36)) (by simp);rw[show (w3.alloc (.cells #[.slice p6 n6 c6] 36)).heap.size=w3.heap.size+1 by simp]at hB7
  obtain⟨w5,hw5⟩:∃w5,(w3.alloc (.cells #[.slice p6 n6 c6] 36)).alloc (.cells #[.slice p7 n7 c7] 36)=w5:=⟨_,rfl⟩
  rw[hw5]at hb5 hB6' hB7
  have HB6:=Ac hB6';have HB7:=Ac hB7;have HK5:=Ac (HK3.out.later hb5);have HQ6':=Ac (HQ6.out.below hb5);have HF7:Ab (Fit e ((P-1)%Q) (.agg #[.slice p7 n7 c7]) w5):=⟨Fit.of (HQ7.out.below hb5) (by have:=Nat.mod_le (P-1) Q;have:=HLP.out;omega)⟩
  have HLQ:Ab ((P-1)/Q<Am e):=⟨Nat.lt_of_le_of_lt (Nat.div_le_self _ _) HLP.out⟩
  have HNE:Ab (∀g∈([(w3.heap.size,.cells #[.slice p6 n6 c6] 36 (0,0)),(w3.heap.size+1,.cells #[.slice p7 n7 c7] 36 (0,0))]:List (Nat×Obj)),g.1≠w.heap.size+1):=⟨List.forall_mem_cons.2 ⟨by simp only;have:=HSZ.out;have:=HS3.out;omega,List.forall_mem_cons.2 ⟨by simp only;have:=HSZ.out;have:=HS3.out;omega,fun g hx=>by cases hx⟩⟩⟩
  have HB0:Ab (w.heap.size<=w.heap.size+1):=⟨by omega⟩
  have HR5:=Ac (HK5.out.of (List.mem_cons_of_mem _ List.mem_cons_self));clear hq6 hq7 hb3 c0 cy c2 c3 cx4 hs3 hb5 hB6 hB6' hB7 hx4lt;go_wp2;refine Al (by kernel_rfl) (by kernel_rfl)
   [some (.agg #[.slice p6 n6 c6]),some (.agg #[.slice p7 n7 c7]),none,none,some (.bool ANS)]
   [false,false,true,true,false] rfl
   (fun w1 w2=>Ao (w.heap.size) w1 w2)
   (fun D sp w'=>RG (w.heap.size) w5 [(w3.heap.size,.cells #[.slice p6 n6 c6] 36 (0,0)),(w3.heap.size+1,.cells #[.slice p7 n7 c7] 36 (0,0))] w'/\Yc (D 3) (w.heap.size+1) ((P-1)/Q) w')
   (fun i v w'=>match i with
    | 2=>v=.bool ANS
    | _=>True)
   ?_ ⟨RG.start HK5.out.base (List.forall_mem_cons.2 ⟨HB6.out,List.forall_mem_cons.2 ⟨HB7.out,fun g hx=>by cases hx⟩⟩),Yc.fresh (show Af _ _ _ from HR5.out)⟩ ?_ ?_
  .intro i v w1 w2 hf hb;split at hf
   .exact hf
   .trivial
  .simp only[Bf,Nat.reduceAdd];refine⟨?_,?_,?_,?_,?_,trivial⟩
   all_goals intro D sp w' hD hW hdp hg
   case refine_1=>
    have c0:w'.cell? ⟨w3.heap.size,0,none⟩=some (.slice p6 n6 c6):=Af.cell (hg.1.of List.mem_cons_self)
    with_reducible refine Ag ?_ ?_
    all_goals simp[Region.wanted,yielded,execOp,Act.eval,Act.put,go_sem,c0]
   case refine_2=>
    have c0:w'.cell? ⟨w3.heap.size+1,0,none⟩=some (.slice p7 n7 c7):=Af.cell (hg.1.of (List.mem_cons_of_mem _ List.mem_cons_self))
    with_reducible refine Ag ?_ ?_
    all_goals simp[Region.wanted,yielded,execOp,Act.eval,Act.put,go_sem,c0]
   case refine_3=>
    (with_reducible refine Aa (w1:=w') (f := 26) (args:=#[.agg #[.slice p7 n7 c7]]) ?_ ?_ ?_)
    .simp[Region.wanted,yielded,Act.put,go_sem]
    .simp[Act.eval,Act.put,go_sem]
    .refine(Vi (HF7.out.keep hg.1.keep)).mono ?_;rintro en w9 ⟨_,rfl,rfl,hb⟩;rw[HANS.out];exact⟨_,rfl,Ao.of hb hg.1.base,rfl,hg.1.later hb,by simpa [upd]using hg.2.later hb⟩
   case refine_4=>
    have hp:=hg.2.put (hg.1.keep.nat _ _ _ _ HQ6'.out)
    (with_reducible refine Az hp fun q hy1=>Az hy1 fun m hy2=>Az hy2 fun k hy3=>?_)
    have h6:=hy3.1.cell;have h7:=hy3.1.free
    (with_reducible refine Ar (w1:=w'.setCell ⟨w.heap.size+1,0,none⟩ (.slice p6 n6 c6)) ?_ ?_ ?_)
    .simp[Region.wanted,yielded,Act.put,go_sem]
    .simp[execOp,Act.eval,Act.put,go_sem,h6,h7]
    .refine⟨Ao.store hy3.1 HB0.out _,trivial,hg.1.store hy3.1 HB0.out HNE.out _,?_⟩;have h8:=hy3.2;simpa [upd]using h8
   case refine_5=>
    have k2:(sp 2)=.bool ANS:=(hdp 2 (mq (by kernel_rfl))).2
    with_reducible refine Ag ?_ ?_
    all_goals simp[Region.wanted,yielded,execOp,Act.eval,Act.put,go_sem,k2]
  .intro sp w7 hsp hg;obtain⟨hg1,pz,nz,cz,hz1,hz2⟩:=hg;have kz:=hz1.cell;have HZ:=Ac (hz2 rfl);have HE7:=Ac (HB.out.trans (HK5.out.keep.trans hg1.keep).bel);clear hsp hg1 hz1 hz2;simp only[An,Nat.reduceAdd];generalize sp 2=y2,sp 3=y3 at *
   go_simp
   go_wp2;exact bodyPost_ret (v:=.tuple #[.agg #[.slice pz nz cz],.bool ANS]) (by simp[results,Tryz.results194,go_sem,kz]) rfl ⟨_,rfl,Fit.of HZ.out HLQ.out,HE7.out⟩
end Go.Proofs.YtnbmfaihlefgfaaGreatDoor
