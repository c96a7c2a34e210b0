/- A group's plain calls: its numbers, its field, its size; of no group. -/
import Derived.Test.YthgoeiegdhphjaaGreatDoorMacE
import Derived.Test.YthgoeiegdhphjaaGreatDoorGrpN
import Derived.BigRegion
import Derived.Laws.Rows
import Derived.Laws.OwnMore
import Derived.Lib.AppendZeros
import Derived.ArgAppend
import Derived.Test.YthgoeiegdhphjaaGreatDoorExp
import Derived.Test.YthgoeiegdhphjaaGreatDoorCpD
set_option maxRecDepth 1000000
set_option maxHeartbeats 16000000
set_option linter.all false
namespace Go.Proofs.YthgoeiegdhphjaaGreatDoor
open Go Go.RowKit Go.Proofs.YthgoeiegdhphjaaGreatDoor.Flow
theorem Pz (w:World)(pk:Option Addr)(nk ck:Nat)(salt:List Nat)(ps:Option Addr)(ns cs:Nat)(secret:List Nat)(hT:Tabs w)(hK:Bf w ⟨pk,nk,ck,salt⟩)(hS:Bf w ⟨ps,ns,cs,secret⟩) :
  Calls Tryz.prog 224 #[.slice pk nk ck,.slice ps ns cs] w (Ir (Vf salt secret) w):=by
 have hb:Below w.heap.size w (w.alloc (.cells #[.slice ps ns cs] 60)):=Cf;have hz:=hb.size;have HC:=Aa (Rz (w.alloc (.cells #[.slice ps ns cs] 60)) pk nk ck salt _ _ _ [⟨ps,ns,cs,secret⟩] (hT.below hb hT.size) (hK.below hb).row hK.bytes (bE w ⟨ps,ns,cs,secret⟩ hS));have HB:=Aa hb;clear hT hK hS hb;go_enter Tryz.func224,Tryz.ntmps224
 go_wp2_with fail
 refine HC.out.mono ?_;rintro e w1 ⟨q,rfl,hq,hb1,hk⟩;rw[Qf]at hk
 go_wp2;go_ret;exact⟨q,rfl,by omega,Di HB.out hb1,hk⟩
theorem Sj (w:World)(pk:Option Addr)(nk ck:Nat)(salt:List Nat)(ps:Option Addr)(ns cs:Nat)(secret:List Nat)(pi:Option Addr)(ni ci:Nat)(info:List Nat)(n:Nat)(hT:Tabs w)(hK:Bf w ⟨pk,nk,ck,salt⟩)(hS:Bf w ⟨ps,ns,cs,secret⟩)(hI:Bf w ⟨pi,ni,ci,info⟩)(hn:n<=8160) :
  Calls Tryz.prog 205 #[.slice pk nk ck,.slice ps ns cs,.slice pi ni ci,.int .i64 n] w (Uz n ((Fc (Ia salt secret) info ((n+31)/32)).take n) w):=by
 have HC:=Aa (Pz w pk nk ck salt ps ns cs secret hT hK hS);have HI:Ad (Bf w ⟨pi,ni,ci,info⟩):=⟨hI⟩
 have HT:Ad (Tabs w):=⟨hT⟩
 clear hT hK hS hI;go_enter Tryz.func205,Tryz.ntmps205
 go_wp2_with fail
 refine HC.out.mono ?_;rintro e w1 ⟨q,rfl,hq,hb1,hk⟩;have hr:Bk w1 .u8 (some ⟨q,0,none⟩) 32 32 (Ia salt secret):=⟨(Hz _ _).symm,Av _,by omega,fun _=>hk.row (Hz _ _).symm (Av _) (by omega)⟩
 go_wp2_with fail
 refine(Lb w1 _ _ _ (Ia salt secret) pi ni ci info n (HT.out.below hb1 HT.out.size) hr (Ox _ _) (HI.out.below hb1) hn).mono ?_;rintro e w2 ⟨p,rfl,hr2,hn2,hb2,hz2⟩;have hz:=hb1.size;have HE:=Aa hr2;have HN:Ad (Fj w.heap.size p/\(p=none->n=0)):=⟨hn2.mono hz,hz2⟩
 clear hr2 hn2 hz2 hr hk;go_wp2;exact bodyPost_ret (v:=.tuple #[.slice p n n,.int .i64 0]) (by simp[results,Tryz.results205,go_sem]) rfl ⟨p,rfl,HE.out,HN.out.1,Di hb1 hb2,HN.out.2⟩
def Zi (n:Nat):List Nat:=(List.range 8).map fun i=>n/256^i%256
theorem Jw (n:Nat):(Zi n).length=8:=by simp[Zi]
theorem Zh (n:Nat):Az (Zi n):=fun x hx=>by
 simp only[Zi,List.mem_map]at hx;obtain⟨i,_,rfl⟩:=hx;exact Nat.mod_lt _ (by decide)
def El:List (List Nat)->List Nat
 | []=>[]
 | p::L=>Zi p.length++p++El L
theorem Mr:∀(L:List (List Nat)) (p:List Nat),El (L++[p])=El L++(Zi p.length++p)
 | [],p=>by simp[El]
 | a::L,p=>by simp[El,Mr L p]
def Hv (P:Nat):Nat->List (Nat×Nat)->Nat
 | x,[]=>x
 | x,(b,e)::l=>Hv P (x*(b^e%P)%P) l
theorem Oq {P:Nat}(hP:2<=P):∀(l:List (Nat×Nat)) (x:Nat),x<P->Hv P x l<P
 | [],_,h=>h
 | (_,_)::l,_,_=>Oq hP l _ (Nat.mod_lt _ (by omega))
theorem Ag.grown {w w':World}{p:Option Addr}{n c N g:Nat}(h:Ag w p n c N)(hg:w.grownBy w' (some g))(hp:∀q,p=some q->q.block≠g):Ag w' p n c N :=
 let ⟨ws,h1,h2,h3,h4⟩:=h.ex
 ⟨ws,h1.grown hg hp,h2,h3,h4⟩
theorem Oc {N:Nat}{l:List Bj}(h:Told N l):Cl N:=by
 rcases h with h|⟨h,s,hs,rfl⟩
 .exact h.prime
 .exact Nd l [] (fun x hx=>by cases hx) h s hs
def Eg (seed:List Nat)(P c:Nat):Nat:=be ((Fc (Ia [] seed) [104,c] ((As P+8+31)/32)).take (As P+8))
def Dv (f:Nat->Nat):Nat->Nat->Option Nat
 | 0,_=>none
 | k+1,c=>if 1<f c then some (f c) else Dv f k (c+1)
def Pl (P Q G:Nat):Prop:=(P-1)%Q=0/\64<Q/\1<G/\G<P/\G^Q%P=1
open Classical in
noncomputable def newSpec (P Q G:Nat) (seed:List Nat) (l:List Bj):Nat×Nat :=
 if Told P l/\Told Q l then
  if Pl P Q G then
   match Dv (fun c=>Eg seed P c^((P-1)/Q)%P) 256 0 with
   | some h=>(0,h)
   | none=>(6,0)
  else (1,0)
 else (8,0)
theorem Rd (xs ys:List Nat):be (xs++ys)=be xs*B8 ys.length+be ys:=by
 unfold be;rw[List.reverse_append,Qt,List.length_reverse,Nat.mul_comm (B8 _),Nat.add_comm]
theorem Uk:∀(bs:List Nat) (a:Nat),bs.foldl (fun n x=>n*256+x) a=a*B8 bs.length+be bs
 | [],a=>by simp[be,le,Lq]
 | x::xs,a=>by
  rw[List.foldl_cons,Uk xs,show x::xs=[x]++xs from rfl,Rd,List.length_append,List.length_singleton,Nat.add_comm 1,Hp];have h1:be [x]=x:=by simp[be,le]
  rw[h1,Nat.add_mul,Nat.mul_assoc,Nat.add_assoc]
theorem Ru (bs:List Nat):Vz bs=be bs:=by
 unfold Vz;rw[Uk];simp
def Bp:List (Nat×Nat)->Nat
 | []=>1
 | (b,e)::l=>b^e*Bp l
theorem Qp (P:Nat):∀(l:List (Nat×Nat)) (x:Nat),Hv P x l%P=x*Bp l%P
 | [],x=>by simp[Hv,Bp]
 | (b,e)::l,x=>by
  rw[Hv,Qp P l,Bp,Nat.mod_mul_mod,Nat.mul_assoc x (b^e%P),<-Nat.mul_mod_mod x (b^e%P*Bp l),Nat.mod_mul_mod,Nat.mul_mod_mod]
theorem Yw {P:Nat}(hP:2<=P)(l:List (Nat×Nat)):Hv P 1 l=Bp l%P:=by
 have:=Qp P l 1;rw[Nat.mod_eq_of_lt (Oq hP l 1 (by omega)),Nat.one_mul]at this
 exact this
theorem Js:∀(l:List (Nat×Nat)) (b e:Nat),Bp (l++[(b,e)])=Bp l*b^e
 | [],b,e=>by simp[Bp]
 | (c,d)::l,b,e=>by rw[List.cons_append,Bp,Js l,Bp,Nat.mul_assoc]
def Jg (i:Nat)(l:List (Nat×Nat)):List (Nat×Nat):=l.map fun p=>(p.1,p.2/2^i)
def Kg (i:Nat)(l:List (Nat×Nat)):List (Nat×Nat):=l.map fun p=>(p.1,p.2/2^i%2)
theorem Zr (l:List (Nat×Nat)):Jg 0 l=l:=by simp[Jg]
theorem Tw (i:Nat):∀l:List (Nat×Nat),Bp (Jg i l)=Bp (Jg (i+1) l)*Bp (Jg (i+1) l)*Bp (Kg i l)
 | []=>rfl
 | (b,e)::l=>by
  have h1:e/2^i=e/2^(i+1)+e/2^(i+1)+e/2^i%2:=by
   rw[Nat.pow_succ,<-Nat.div_div_eq_div_mul];omega
  have h2:b^(e/2^i)=b^(e/2^(i+1))*b^(e/2^(i+1))*b^(e/2^i%2):=by
   rw[<-Nat.pow_add,<-Nat.pow_add,<-h1]
  show b^(e/2^i)*Bp (Jg i l)=(b^(e/2^(i+1))*Bp (Jg (i+1) l))*(b^(e/2^(i+1))*Bp (Jg (i+1) l))*(b^(e/2^i%2)*Bp (Kg i l));rw[h2,Tw i l]
  ac_rfl
theorem Tv (i:Nat):∀l:List (Nat×Nat),(∀p∈l,p.2<2^i)->Bp (Jg i l)=1
 | [],_=>rfl
 | (b,e)::l,h=>by
  show b^(e/2^i)*Bp (Jg i l)=1;rw[Tv i l fun p hp=>h p (List.mem_cons_of_mem _ hp),Nat.div_eq_of_lt (h (b,e) List.mem_cons_self)];simp
theorem Zz {i:Nat}{l:List (Nat×Nat)}{k b e:Nat}(h:l[k]? = some (b,e)):Kg i (l.take (k+1))=Kg i (l.take k)++[(b,e/2^i%2)]:=by
 unfold Kg;rw[Gl h,List.map_append];rfl
def Fi:List Nat->Nat
 | []=>0
 | x::l=>max (Ba x) (Fi l)
theorem Ot:∀(l:List Nat) (x:Nat),Fi (l++[x])=max (Fi l) (Ba x)
 | [],x=>by simp[Fi]
 | y::l,x=>by rw[List.cons_append,Fi,Ot l,Fi];omega
theorem Ua:∀(l:List Nat) (x:Nat),x∈l->x<2^Fi l
 | y::l,x,h=>by
  rcases List.mem_cons.1 h with rfl|h
  .exact Dm (Lj x) (Nat.pow_le_pow_right (by omega) (Nat.le_max_left _ _))
  .exact Dm (Ua l x h) (Nat.pow_le_pow_right (by omega) (Nat.le_max_right _ _))
theorem Ub {m:Nat}:∀(l:List Nat),(∀x∈l,Ba x<=m)->Fi l<=m
 | [],_=>Nat.zero_le _
 | y::l,h=>Nat.max_le.2 ⟨h y List.mem_cons_self,Ub l fun x hx=>h x (List.mem_cons_of_mem _ hx)⟩
theorem fF {P X Y s:Nat}:((X*(256^s%P))%P+Y)%P=(X*256^s+Y)%P:=by
 rw[Nat.mul_mod_mod,Nat.mod_add_mod]
theorem bY (seed:List Nat)(P c:Nat):∃bs:List Nat,(Fc (Ia [] seed) [104,c] ((8+As P+31)/32)).take (8+As P)=bs/\bs.length=8+As P/\Az bs/\be (bs.take 8)*256^As P+be (bs.drop 8)=Eg seed P c:=by
 have hl:((Fc (Ia [] seed) [104,c] ((8+As P+31)/32)).take (8+As P)).length=8+As P:=by
  rw[List.length_take,Gb];omega
 refine⟨_,rfl,hl,(Kb _ _ _).take _,?_⟩;obtain⟨bs,hb⟩:∃x,(Fc (Ia [] seed) [104,c] ((8+As P+31)/32)).take (8+As P)=x:=⟨_,rfl⟩
 have hh:Eg seed P c=be bs:=by rw[<-hb];unfold Eg;rw[Nat.add_comm (As P) 8]
 rw[hb]at hl ⊢
 have h2:=Rd (bs.take 8) (bs.drop 8);rw[List.take_append_drop,List.length_drop,hl,show 8+As P-8=As P by omega]at h2
 rw[hh,h2];rfl
theorem eL (A t P:Nat):(A%P)^t%P=A^t%P:=(Nat.pow_mod A t P).symm
theorem Wu {f:Nat->Nat}{k c:Nat}(h:1<f c):Dv f (k+1) c=some (f c):=by rw[Dv,if_pos h]
theorem Kz:∀i,i<3->As (gP i)=gW i
 | 0,_=>by kernel_rfl
 | 1,_=>by kernel_rfl
 | 2,_=>by kernel_rfl
 | _+3,h=>by omega
theorem Pc (key info:List Nat):Fc key info 1=Ia key (info++[1]):=by
 simp[Fc,Pr]
theorem bV:∀i,i<3->Eg [] (gP i) 0=Vz (Pb i)
 | 0,h=>by
  rw[Ru];unfold Eg;rw[Kz 0 h,Sb];show be ((Fc _ _ 1).take 10)=_;rw[Pc];show be ((Ia _ [104,0,1]).take 10)=_;rw[Vd];rfl
 | 1,h=>by
  rw[Ru];unfold Eg;rw[Kz 1 h,Sb];show be ((Fc _ _ 1).take 11)=_;rw[Pc];show be ((Ia _ [104,0,1]).take 11)=_;rw[Vd];rfl
 | 2,h=>by
  rw[Ru];unfold Eg;rw[Kz 2 h,Sb];show be ((Fc _ _ 1).take 17)=_;rw[Pc];show be ((Ia _ [104,0,1]).take 17)=_;rw[Vd];rfl
 | _+3,h=>by omega
theorem Wo:∀i,i<3->(gP i-1)/gQ i=Ka i
 | 0,_=>by decide
 | 1,_=>by decide
 | 2,_=>by decide
 | _+3,h=>by omega
theorem gC (i:Nat)(hi:i<3):Pl (gP i) (gQ i) (gG i):=by
 obtain⟨h1,h2,h3,_⟩:=Ky i hi;exact⟨by rw[Qx i hi];exact Nat.mul_mod_right _ _,h1,h2,h3,Mc i hi⟩
theorem Yt (i:Nat)(hi:i<3):newSpec (gP i) (gQ i) (gG i) [] (Do i)=(0,gH i):=by
 have h1:Eg [] (gP i) 0^((gP i-1)/gQ i)%gP i=gH i:=by rw[bV i hi,Wo i hi,gX i hi]
 have h2:=(Ky i hi).2.2.2.1;unfold newSpec;rw[if_pos ⟨fB i hi,fA i hi⟩,if_pos (gC i hi)];have h3:Dv (fun c=>Eg [] (gP i) c^((gP i-1)/gQ i)%gP i) 256 0=some (gH i):=by
  rw[Wu (by show 1<_;rw[h1];exact h2)];show some (Eg [] (gP i) 0^((gP i-1)/gQ i)%gP i)=_;rw[h1]
 rw[h3]
theorem Wt:∀i,i<3->∀s∈Do i,s.ps.length<=1000
 | 0,_=>by intro s hs;cases hs
 | 1,_=>by intro s hs;rcases List.mem_singleton.1 hs with rfl;simp
 | 2,_=>by
  intro s hs;rcases List.mem_cons.1 hs with rfl|hs
  .simp
  .rcases List.mem_singleton.1 hs with rfl;simp
 | _+3,h=>by omega
theorem fC (w:World):Fit 0 0 (.agg #[.slice none 0 0]) w:=Fit.of (Ag.nil w) (by decide)
theorem Mt (w:World) :
  Calls Tryz.prog 56 #[.pointer none] w fun en w'=>en=.returned (.agg #[.slice none 0 0])/\Below w.heap.size w w':=by
 have hb1:=Ae.made w (.slice none 0 0);have c1:=hb1.cell;have f1:=hb1.free;have hbel:Below w.heap.size w (w.alloc (.cells #[.slice none 0 0] 36)):=Cf;go_enter Tryz.func56,Tryz.ntmps56;go_wp2;exact bodyPost_ret (v:=.agg #[.slice none 0 0]) (by simp[results,Tryz.results56,go_sem,c1]) rfl ⟨rfl,hbel⟩
theorem Al.trans {B:Nat}{w1 w2 w3:World}(h:Al B w1 w2)(k:Al B w2 w3):Al B w1 w3:=⟨h.bel.trans k.bel,fun p n c N x=>k.nat p n c N (h.nat p n c N x)⟩
theorem Al.drew (B:Nat)(w:World):Al B w w.drew:=⟨(Bc _ _).drew,fun _ _ _ _ k=>k.below ((Bc _ _).drew)⟩
structure RG (B:Nat) (wx:World) (l:List (Nat×Obj)) (w:World):Prop where
 keep:Al B wx w
 base:B<=w.heap.size
 blk:∀x∈l,w.heap[x.1]? = some x.2
theorem RG.start {B:Nat}{wx:World}{l:List (Nat×Obj)}(hB:B<=wx.heap.size)(hl:∀x∈l,wx.heap[x.1]? = some x.2):RG B wx l wx.drew:=⟨Al.drew _ _,hB,hl⟩
theorem RG.later {B:Nat}{wx:World}{l:List (Nat×Obj)}{w w':World}(h:RG B wx l w)(hb:Below w.heap.size w w'):RG B wx l w' :=
 ⟨h.keep.trans (Al.of hb h.base),Ep h.base hb.size,fun x hx=>by rw[hb.block x.1 (Ll (h.blk x hx)).1];exact h.blk x hx⟩
theorem RG.store {B:Nat}{wx:World}{l:List (Nat×Obj)}{w:World}{b m d:Nat}{q:Option Addr}(h:RG B wx l w)(hb:Ae w b (.slice q m d))(hB:B<=b)(hn:∀x∈l,x.1≠b)(v:Value):RG B wx l (w.setCell ⟨b,0,none⟩ v) :=
 ⟨h.keep.trans (Al.store hb hB v),by simpa using h.base,fun x hx=>by
  have:=hn x hx;simp[World.setCell,Array.getElem?_modify,this.symm];exact h.blk x hx⟩
theorem RG.of {B:Nat}{wx:World}{l:List (Nat×Obj)}{w:World}(h:RG B wx l w){b:Nat}{o:Obj}(hm:(b,o)∈l):w.heap[b]? = some o:=h.blk _ hm
def Lr (d:Bool)(b N:Nat)(w:World):Prop:=∃p n c,Ae w b (.slice p n c)/\(d=true->Ag w p n c N)
theorem Lr.fresh {w:World}{b N:Nat}{p:Option Addr}{n c:Nat}(h:Ae w b (.slice p n c)):Lr false b N w:=⟨p,n,c,h,fun e=>by cases e⟩
theorem Lr.later {d:Bool}{b N:Nat}{w w':World}(h:Lr d b N w)(hb:Below w.heap.size w w'):Lr d b N w' :=
 let ⟨p,n,c,h1,h2⟩:=h
 ⟨p,n,c,h1.below hb h1.lt,fun e=>(h2 e).below hb⟩
theorem Lr.put {d:Bool}{b N:Nat}{w:World}(h:Lr d b N w){p:Option Addr}{n c:Nat}(hx:Ag w p n c N):∃q m k,Ae w b (.slice q m k)/\Lr true b N (w.setCell ⟨b,0,none⟩ (.slice p n c)) :=
 let ⟨q,m,k,h1,_⟩:=h
 ⟨q,m,k,h1,p,n,c,h1.set _,fun _=>hx.store h1 _⟩
def Pn (d f:Bool)(v:Value)(B N:Nat)(w:World):Prop:=B<=w.heap.size/\(d=true->∃b,v=.pointer (some ⟨b,0,none⟩)/\B<=b/\Lr f b N w)
theorem Pn.start {v:Value}{B N:Nat}{w:World}(h:B<=w.heap.size):Pn false false v B N w:=⟨h,fun e=>by cases e⟩
theorem Pn.later {d f:Bool}{v:Value}{B N:Nat}{w w':World}(h:Pn d f v B N w)(hb:Below w.heap.size w w'):Pn d f v B N w' :=
 ⟨Ep h.1 hb.size,fun e=>let ⟨b,h1,h2,h3⟩:=h.2 e;⟨b,h1,h2,h3.later hb⟩⟩
theorem Pn.made {v:Value}{B N:Nat}{w:World}(h:Pn false false v B N w):Pn true false (.pointer (some ⟨w.heap.size,0,none⟩)) B N (w.alloc (.cells #[.slice none 0 0] 36)) :=
 ⟨by simp;have:=h.1;omega,fun _=>⟨_,rfl,h.1,Lr.fresh (Ae.made _ _)⟩⟩
theorem Pn.put {f:Bool}{v:Value}{B N:Nat}{w:World}(h:Pn true f v B N w){p:Option Addr}{n c:Nat}(hx:Ag w p n c N) :
  ∃b q m k,v=.pointer (some ⟨b,0,none⟩)/\B<=b/\Ae w b (.slice q m k)/\Pn true true v B N (w.setCell ⟨b,0,none⟩ (.slice p n c)) :=
 let ⟨b,h1,h2,h3⟩:=h.2 rfl
 let ⟨q,m,k,h4,h5⟩:=h3.put hx
 ⟨b,q,m,k,h1,h2,h4,by simpa using h.1,fun _=>⟨b,h1,h2,h5⟩⟩
theorem RG.store_over {B B2:Nat}{wx:World}{l:List (Nat×Obj)}{w:World}{b m d:Nat}{q:Option Addr}(h:RG B wx l w)(hb:Ae w b (.slice q m d))(hB:B<=B2)(hB2:B2<=b)(hl:∀x∈l,x.1<B2)(v:Value):RG B wx l (w.setCell ⟨b,0,none⟩ v) :=
 h.store hb (Ep hB hB2) (fun x hx=>by have:=hl x hx;omega) v
def Dw (e N:Nat)(t v:Value)(w:World):Prop:=∃p n c,v=.tuple #[.agg #[.slice p n c],t]/\Ag w p n c N/\N<Ao e
theorem Dw.keep {e N B:Nat}{t v:Value}{w w':World}(h:Dw e N t v w)(k:Al B w w'):Dw e N t v w' :=
 let ⟨p,n,c,h1,h2,h3⟩:=h
 ⟨p,n,c,h1,k.nat _ _ _ _ h2,h3⟩
theorem Ring.keep {B r M f:Nat}{w w':World}(h:Ring w r M f)(hr:r<B)(k:Al B w w'):Ring w' r M f:=by
 obtain⟨p,n,c,h1,h2,h3⟩:=h.at_.ex
 exact⟨⟨p,n,c,by rw[k.bel.block r hr];exact h1,k.nat _ _ _ _ h2,h3⟩,h.two,h.lim,h.few⟩
structure Ay (w:World) (b P Q G H:Nat):Prop where
 ex:∃rp rq pg ng cg ph nh ch,w.heap[b]? = some (.cells #[.pointer (some ⟨rp,0,none⟩),.pointer (some ⟨rq,0,none⟩),.slice pg ng cg,.slice ph nh ch] 114 (0,0))/\Ring w rp P 33/\Ring w rq Q 33/\Ag w pg ng cg G/\G<Ao 33/\Ag w ph nh ch H/\H<Ao 33
theorem Ay.lt {w:World}{b P Q G H:Nat}(h:Ay w b P Q G H):b<w.heap.size:=by
 obtain⟨_,_,_,_,_,_,_,_,h1,_⟩:=h.ex;exact(Ll h1).1
theorem Ay.below {w w':World}{b P Q G H:Nat}(h:Ay w b P Q G H)(hb:Below w.heap.size w w'):Ay w' b P Q G H:=by
 have hl:=h.lt;obtain⟨rp,rq,pg,ng,cg,ph,nh,ch,h1,h2,h3,h4,h5,h6,h7⟩:=h.ex;exact⟨rp,rq,pg,ng,cg,ph,nh,ch,by rw[hb.block b hl];exact h1,h2.below hb,h3.below hb,h4.below hb,h5,h6.below hb,h7⟩
theorem Ay.keep {B:Nat}{w w':World}{b P Q G H:Nat}(h:Ay w b P Q G H)(hB:w.heap.size<=B)(k:Al B w w'):Ay w' b P Q G H:=by
 have hl:=h.lt;obtain⟨rp,rq,pg,ng,cg,ph,nh,ch,h1,h2,h3,h4,h5,h6,h7⟩:=h.ex;exact⟨rp,rq,pg,ng,cg,ph,nh,ch,by rw[k.bel.block b (by omega)];exact h1,h2.keep (by have:=h2.at_.lt;omega) k,h3.keep (by have:=h3.at_.lt;omega) k,k.nat _ _ _ _ h4,h5,k.nat _ _ _ _ h6,h7⟩
theorem Ay.lims {w:World}{b P Q G H:Nat}(h:Ay w b P Q G H):2<=P/\P<Ao 33/\2<=Q/\Q<Ao 33:=by
 obtain⟨_,_,_,_,_,_,_,_,_,h2,h3,_⟩:=h.ex;exact⟨h2.two,h2.lim,h3.two,h3.lim⟩
structure Ho (B:Nat) (w:World) (b P Q G H:Nat):Prop where
 ex:∃w0,Ay w0 b P Q G H/\w0.heap.size<=B/\Al B w0 w
theorem Ho.of {B:Nat}{w w':World}{b P Q G H:Nat}(h:Ay w b P Q G H)(hB:w.heap.size<=B)(k:Below w.heap.size w w')(hB2:B<=w.heap.size:=by exact Av _):Ho B w' b P Q G H:=⟨w,h,hB,Al.of k hB2⟩
theorem Ho.keep {B:Nat}{w w':World}{b P Q G H:Nat}(h:Ho B w b P Q G H)(k:Al B w w'):Ay w' b P Q G H :=
 let ⟨_,h1,h2,h3⟩:=h.ex
 h1.keep h2 (h3.trans k)
theorem Ci {w:World}{b:Nat}{v0 v1 v2 v3:Value}(h:w.heap[b]? = some (.cells #[v0,v1,v2,v3] 114 (0,0))) :
  w.cell? ⟨b,0,none⟩=some v0/\w.cell? ⟨b,1,none⟩=some v1/\w.cell? ⟨b,2,none⟩=some v2/\w.cell? ⟨b,3,none⟩=some v3:=by
 simp[World.cell?,h]
theorem Dg (w:World)(b:Nat):Calls Tryz.prog 72 #[.pointer (some ⟨b,0,none⟩)] w fun e w'=>e=.returned (.pointer (some ⟨b,0,none⟩))/\w'=w:=by
 go_enter Tryz.func72,Tryz.ntmps72;go_wp2;go_ret;exact⟨rfl,rfl⟩
def Sy (w:World)(b:Nat):Prop:=w.heap[b]? = some (.cells #[.pointer none,.pointer none,.slice none 0 0,.slice none 0 0] 114 (0,0))
theorem Sy.cells {w:World}{b:Nat}(h:Sy w b):w.cell? ⟨b,0,none⟩=some (.pointer none)/\w.cell? ⟨b,1,none⟩=some (.pointer none):=by
 obtain⟨h0,h1,_⟩:=Ci h;exact⟨h0,h1⟩
theorem Vx (w:World):Calls Tryz.prog 72 #[.pointer none] w fun e w'=>∃b,e=.returned (.pointer (some ⟨b,0,none⟩))/\Sy w' b/\Below w.heap.size w w':=by
 have hn:Sy (w.alloc (.cells #[.pointer none,.pointer none,.slice none 0 0,.slice none 0 0] 114)) w.heap.size:=heap_alloc_new w _;have hb:Below w.heap.size w (w.alloc (.cells #[.pointer none,.pointer none,.slice none 0 0,.slice none 0 0] 114)):=Cf;have HN:=Aa hn;have HB:=Aa hb;clear hn hb;go_enter Tryz.func72,Tryz.ntmps72;go_wp2;go_ret;exact⟨_,rfl,HN.out,HB.out⟩
theorem Ui {w:World}{e N:Nat}{v:Value}(h:Fit e N v w)(he:e<=300000) :
  Calls Tryz.prog 101 #[v] w fun en w'=>∃x,en=.returned x/\Fit e N x w'/\Below w.heap.size w w':=by
 obtain⟨pa,na,ca,rfl,h1,h2⟩:=Aq h;have hbx:=Xh.mk2 w (.slice pa na ca) (.slice none 0 0);have hz:∀w',Fit 0 0 (.agg #[.slice none 0 0]) w':=fun w'=>Fit.of (Ag.nil w') (by decide)
 have HZ:=Ah hz;clear hz;go_enter Tryz.func101,Tryz.ntmps101
 go_wp2_with fail
 refine(Je (h.below hbx.bel) (HZ.out _) (by omega) (by omega)).mono ?_;rintro en w1 ⟨x,rfl,hx,hb⟩;replace hbx:=hbx.later hb;obtain⟨pc,nc,cc,rfl,y1,_⟩:=hx;have c1:=hbx.b1.cell;have f1:=hbx.b1.free;have z1:=hbx.b1.lt;go_wp2;exact bodyPost_ret (v:=.agg #[.slice pc nc cc]) (by simp[results,Tryz.results101,go_sem,c1]) rfl ⟨_,rfl,Fit.of (y1.store hbx.b1 _) h2,hbx.bel.setCell (by simp) _⟩
theorem Il {w:World}{e N:Nat}{v:Value}(h:Fit e N v w)(he:e<=900000) :
  Calls Tryz.prog 167 #[v] w fun en w'=>en=.returned (.int .i64 (As N:Nat))/\Below w.heap.size w w':=by
 obtain⟨p,n,c,rfl,h1,h2⟩:=h;have hn:n<1000000:=by have:=h1.len_le h2;omega
 have hl:Ba N<=30000000:=by have:=Ee h2;omega
 have hbx:=Db.mk1 w (.slice p n c) 36;have H1:=Aa (h1.below hbx.bel);have HBX:=Aa hbx.bel;have HS:Ad (As N=(Ba N+7)/8):=⟨rfl⟩
 clear h1 h2 hbx;go_enter Tryz.func167,Tryz.ntmps167
 go_wp2_with fail
 refine(Dj _ p n c N H1.out hn).mono ?_;rintro en w1 ⟨rfl,hb1⟩;have HB1:=Aa (Af HBX.out hb1);clear hb1;obtain⟨L,hL⟩:∃L,Ba N=L:=⟨_,rfl⟩
 rw[hL]at hl HS
 simp only[hL];clear hL;go_wp2;go_ret;refine⟨?_,HB1.out⟩;rw[HS.out];exact congrArg (fun z=>Ending.returned (.int .i64 z)) (by omega)
theorem Wp {w:World}{b P Q G H:Nat}(h:Ay w b P Q G H) :
  Calls Tryz.prog 67 #[.pointer (some ⟨b,0,none⟩)] w fun e w'=>∃x,e=.returned x/\Fit 33 P x w'/\Below w.heap.size w w':=by
 have hb1:=Ae.made w (.slice none 0 0);have hbel:Below w.heap.size w (w.alloc (.cells #[.slice none 0 0] 36)):=Cf;obtain⟨wa,hwa⟩:∃wa,w.alloc (.cells #[.slice none 0 0] 36)=wa:=⟨_,rfl⟩
 rw[hwa]at hb1 hbel
 obtain⟨rp,rq,pg,ng,cg,ph,nh,ch,h1,h2,h3,h4,h5,h6,h7⟩:=(h.below hbel).ex;obtain⟨c0,cq,c2,c3⟩:=Ci h1;have HR:=Aa h2;have HBX:=Aa hb1;have HB:=Aa hbel;clear h h1 h2 h3 h4 h5 h6 h7 hb1 hbel;go_enter Tryz.func67,Tryz.ntmps67
 go_wp2_with fail
 refine(Dg wa b).mono ?_;rintro en w1 ⟨rfl,rfl⟩
 go_wp2_with fail
 refine(Dy HR.out).mono ?_;rintro en w2 ⟨x,rfl,hx,hb2⟩;obtain⟨pc,nc,cc,rfl,y1,y2⟩:=hx;have hbn:=HBX.out.below hb2 HBX.out.lt;have k1:=hbn.cell;have f1:=hbn.free;have z1:=hbn.lt;clear c0 cq c2 c3;go_wp2;exact bodyPost_ret (v:=.agg #[.slice pc nc cc]) (by simp[results,Tryz.results67,go_sem,k1]) rfl ⟨_,rfl,Fit.of (y1.store hbn _) y2,(Af HB.out hb2).setCell (by simp) _⟩
theorem Wr {w:World}{b P Q G H:Nat}(h:Ay w b P Q G H) :
  Calls Tryz.prog 42 #[.pointer (some ⟨b,0,none⟩)] w fun e w'=>∃x,e=.returned x/\Fit 33 G x w'/\Below w.heap.size w w':=by
 have hb1:=Ae.made w (.slice none 0 0);have hbel:Below w.heap.size w (w.alloc (.cells #[.slice none 0 0] 36)):=Cf;obtain⟨wa,hwa⟩:∃wa,w.alloc (.cells #[.slice none 0 0] 36)=wa:=⟨_,rfl⟩
 rw[hwa]at hb1 hbel
 obtain⟨rp,rq,pg,ng,cg,ph,nh,ch,h1,h2,h3,h4,h5,h6,h7⟩:=(h.below hbel).ex;obtain⟨c0,cq,c2,c3⟩:=Ci h1;have HR:=Aa (Fit.of h4 h5);have HBX:=Aa hb1;have HB:=Aa hbel;clear h h1 h2 h3 h4 h5 h6 h7 hb1 hbel;go_enter Tryz.func42,Tryz.ntmps42
 go_wp2_with fail
 refine(Dg wa b).mono ?_;rintro en w1 ⟨rfl,rfl⟩
 go_wp2_with fail
 refine(Ui HR.out (by decide)).mono ?_;rintro en w2 ⟨x,rfl,hx,hb2⟩;obtain⟨pc,nc,cc,rfl,y1,y2⟩:=hx;have hbn:=HBX.out.below hb2 HBX.out.lt;have k1:=hbn.cell;have f1:=hbn.free;have z1:=hbn.lt;clear c0 cq c2 c3;go_wp2;exact bodyPost_ret (v:=.agg #[.slice pc nc cc]) (by simp[results,Tryz.results42,go_sem,k1]) rfl ⟨_,rfl,Fit.of (y1.store hbn _) y2,(Af HB.out hb2).setCell (by simp) _⟩
theorem Jz {w:World}{b P Q G H:Nat}(h:Ay w b P Q G H) :
  Calls Tryz.prog 19 #[.pointer (some ⟨b,0,none⟩)] w fun e w'=>∃r,e=.returned (.pointer (some ⟨r,0,none⟩))/\Ring w' r Q 33/\Below w.heap.size w w':=by
 have hq:=h.lims.2.2.1;obtain⟨rp,rq,pg,ng,cg,ph,nh,ch,h1,h2,h3,h4,h5,h6,h7⟩:=h.ex;obtain⟨c0,cq,c2,c3⟩:=Ci h1;have HR:=Aa h3;clear h h1 h2 h3 h4 h5 h6 h7;go_enter Tryz.func19,Tryz.ntmps19
 go_wp2_with fail
 refine(Dg w b).mono ?_;rintro en w1 ⟨rfl,rfl⟩
 go_wp2_with fail
 refine(Dy HR.out).mono ?_;rintro en w2 ⟨x,rfl,hx,hb2⟩;have HX:=Aa hx;have HB2:=Aa hb2;clear hx hb2 c0 cq c2 c3
 go_wp2_with fail
 refine(Fr HX.out (by decide)).mono ?_;rintro en w3 ⟨hb3,hh⟩;rcases hh with ⟨hl,_⟩|⟨_,r,rfl,hr,_⟩
 .omega
 have HR3:=Aa hr;have HB3:=Aa (Af HB2.out hb3);clear hr hb3;go_wp2;go_ret;exact⟨r,rfl,HR3.out,HB3.out⟩
theorem Zk {w:World}{b P Q G H:Nat}(h:Ay w b P Q G H) :
  Calls Tryz.prog 193 #[.pointer (some ⟨b,0,none⟩)] w fun e w'=>e=.returned (.int .i64 (As P:Nat))/\Below w.heap.size w w':=by
 have HG:=Aa h;clear h;go_enter Tryz.func193,Tryz.ntmps193
 go_wp2_with fail
 refine(Wp HG.out).mono ?_;rintro en w1 ⟨x,rfl,hx,hb1⟩;have HX:=Aa hx;have HB1:=Aa hb1;clear hx hb1
 go_wp2_with fail
 refine(Il HX.out (by decide)).mono ?_;rintro en w2 ⟨rfl,hb2⟩;have HB2:=Aa (Af HB1.out hb2);clear hb2;go_wp2;go_ret;exact⟨rfl,HB2.out⟩
theorem Wm (w:World):Calls Tryz.prog 19 #[.pointer none] w fun e w'=>e=.returned (.pointer none)/\Below w.heap.size w w':=by
 go_enter Tryz.func19,Tryz.ntmps19
 go_wp2_with fail
 refine(Vx w).mono ?_;rintro en w1 ⟨b,rfl,hn,hb1⟩;obtain⟨c0,c1⟩:=hn.cells;have HB1:=Aa hb1;clear hn hb1
 go_wp2_with fail
 refine(Mt w1).mono ?_;rintro en w2 ⟨rfl,hb2⟩;have HB2:=Aa (Af HB1.out hb2);have HF:=Aa (fC w2);clear hb2 c0 c1
 go_wp2_with fail
 refine(Fr HF.out (by decide)).mono ?_;rintro en w3 ⟨hb3,hh⟩;rcases hh with ⟨_,rfl⟩|⟨hl,_⟩
 .have HB3:Ad _:=⟨Af HB2.out hb3⟩
  clear hb3;go_wp2;go_ret;exact⟨rfl,HB3.out⟩
 .omega
end Go.Proofs.YthgoeiegdhphjaaGreatDoor
