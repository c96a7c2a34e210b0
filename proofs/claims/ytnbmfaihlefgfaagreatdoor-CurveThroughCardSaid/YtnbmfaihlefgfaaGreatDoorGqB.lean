/- A group's product, its power, its members. -/
import Derived.Test.YtnbmfaihlefgfaaGreatDoorMacE
import Derived.BigRegion
import Derived.Laws.Rows
import Derived.Laws.OwnMore
import Derived.Lib.AppendZeros
import Derived.ArgAppend
import Derived.Test.YtnbmfaihlefgfaaGreatDoorExp
import Derived.Test.YtnbmfaihlefgfaaGreatDoorCpD
set_option maxRecDepth 1000000
set_option maxHeartbeats 16000000
set_option linter.all false
namespace Go.Proofs.YtnbmfaihlefgfaaGreatDoor
open Go Go.RowKit Go.Proofs.YtnbmfaihlefgfaaGreatDoor.Flow
theorem Qm (w:World)(pk:Option Addr)(nk ck:Nat)(salt:List Nat)(ps:Option Addr)(ns cs:Nat)(secret:List Nat)(hT:Tabs w)(hK:Cg w ⟨pk,nk,ck,salt⟩)(hS:Cg w ⟨ps,ns,cs,secret⟩) :
  Calls Tryz.prog 243 #[.slice pk nk ck,.slice ps ns cs] w (Jb (Vt salt secret) w):=by
 have hb:Below w.heap.size w (w.alloc (.cells #[.slice ps ns cs] 60)):=Cu;have hz:=hb.size;have HC:=Ab (Sj (w.alloc (.cells #[.slice ps ns cs] 60)) pk nk ck salt _ _ _ [⟨ps,ns,cs,secret⟩] (hT.below hb hT.size) (hK.below hb).row hK.bytes (bF w ⟨ps,ns,cs,secret⟩ hS));have HB:=Ab hb;clear hT hK hS hb;go_enter Tryz.func243,Tryz.ntmps243
 go_wp2_with fail
 refine HC.out.mono ?_;rintro e w1 ⟨q,rfl,hq,hb1,hk⟩;rw[Qu]at hk
 go_wp2;go_ret;exact⟨q,rfl,by omega,Dd HB.out hb1,hk⟩
theorem Sw (w:World)(pk:Option Addr)(nk ck:Nat)(salt:List Nat)(ps:Option Addr)(ns cs:Nat)(secret:List Nat)(pi:Option Addr)(ni ci:Nat)(info:List Nat)(n:Nat)(hT:Tabs w)(hK:Cg w ⟨pk,nk,ck,salt⟩)(hS:Cg w ⟨ps,ns,cs,secret⟩)(hI:Cg w ⟨pi,ni,ci,info⟩)(hn:n<=8160) :
  Calls Tryz.prog 223 #[.slice pk nk ck,.slice ps ns cs,.slice pi ni ci,.int .i64 n] w (Vl n ((Fu (Ik salt secret) info ((n+31)/32)).take n) w):=by
 have HC:=Ab (Qm w pk nk ck salt ps ns cs secret hT hK hS);have HI:Aa (Cg w ⟨pi,ni,ci,info⟩):=⟨hI⟩
 have HT:Aa (Tabs w):=⟨hT⟩
 clear hT hK hS hI;go_enter Tryz.func223,Tryz.ntmps223
 go_wp2_with fail
 refine HC.out.mono ?_;rintro e w1 ⟨q,rfl,hq,hb1,hk⟩;have hr:Bm w1 .u8 (some ⟨q,0,none⟩) 32 32 (Ik salt secret):=⟨(Ij _ _).symm,Ar _,by omega,fun _=>hk.row (Ij _ _).symm (Ar _) (by omega)⟩
 go_wp2_with fail
 refine(Sp w1 _ _ _ (Ik salt secret) pi ni ci info n (HT.out.below hb1 HT.out.size) hr (Pb _ _) (HI.out.below hb1) hn).mono ?_;rintro e w2 ⟨p,rfl,hr2,hn2,hb2,hz2⟩;have hz:=hb1.size;have HE:=Ab hr2;have HN:Aa (Fg w.heap.size p/\(p=none->n=0)):=⟨hn2.mono hz,hz2⟩
 clear hr2 hn2 hz2 hr hk;go_wp2;exact bodyPost_ret (v:=.tuple #[.slice p n n,.int .i64 0]) (by simp[results,Tryz.results223,go_sem]) rfl ⟨p,rfl,HE.out,HN.out.1,Dd hb1 hb2,HN.out.2⟩
theorem Oj {N:Nat}{l:List Bh}(h:Told N l):Bo N:=by
 rcases h with h|⟨h,s,hs,rfl⟩
 .exact h.prime
 .exact Ix l [] (fun x hx=>by cases hx) h s hs
def Ef (seed:List Nat)(P c:Nat):Nat:=be ((Fu (Ik [] seed) [104,c] ((Co P+8+31)/32)).take (Co P+8))
def Dy (f:Nat->Nat):Nat->Nat->Option Nat
 | 0,_=>none
 | k+1,c=>if 1<f c then some (f c) else Dy f k (c+1)
def Pu (P Q G:Nat):Prop:=(P-1)%Q=0/\64<Q/\1<G/\G<P/\G^Q%P=1
open Classical in
noncomputable def newSpec (P Q G:Nat) (seed:List Nat) (l:List Bh):Nat×Nat :=
 if Told P l/\Told Q l then
  if Pu P Q G then
   match Dy (fun c=>Ef seed P c^((P-1)/Q)%P) 256 0 with
   | some h=>(0,h)
   | none=>(6,0)
  else (1,0)
 else (8,0)
theorem Rq (xs ys:List Nat):be (xs++ys)=be xs*B8 ys.length+be ys:=by
 unfold be;rw[List.reverse_append,Rf,List.length_reverse,Nat.mul_comm (B8 _),Nat.add_comm]
theorem Uo:∀(bs:List Nat) (a:Nat),bs.foldl (fun n x=>n*256+x) a=a*B8 bs.length+be bs
 | [],a=>by simp[be,le,Oa]
 | x::xs,a=>by
  rw[List.foldl_cons,Uo xs,show x::xs=[x]++xs from rfl,Rq,List.length_append,List.length_singleton,Nat.add_comm 1,Lr];have h1:be [x]=x:=by simp[be,le]
  rw[h1,Nat.add_mul,Nat.mul_assoc,Nat.add_assoc]
theorem Sf (bs:List Nat):Wk bs=be bs:=by
 unfold Wk;rw[Uo];simp
theorem eY {P X Y s:Nat}:((X*(256^s%P))%P+Y)%P=(X*256^s+Y)%P:=by
 rw[Nat.mul_mod_mod,Nat.mod_add_mod]
theorem cA (seed:List Nat)(P c:Nat):∃bs:List Nat,(Fu (Ik [] seed) [104,c] ((8+Co P+31)/32)).take (8+Co P)=bs/\bs.length=8+Co P/\Ay bs/\be (bs.take 8)*256^Co P+be (bs.drop 8)=Ef seed P c:=by
 have hl:((Fu (Ik [] seed) [104,c] ((8+Co P+31)/32)).take (8+Co P)).length=8+Co P:=by
  rw[List.length_take,Fy];omega
 refine⟨_,rfl,hl,(Ph _ _ _).take _,?_⟩;obtain⟨bs,hb⟩:∃x,(Fu (Ik [] seed) [104,c] ((8+Co P+31)/32)).take (8+Co P)=x:=⟨_,rfl⟩
 have hh:Ef seed P c=be bs:=by rw[<-hb];unfold Ef;rw[Nat.add_comm (Co P) 8]
 rw[hb]at hl ⊢
 have h2:=Rq (bs.take 8) (bs.drop 8);rw[List.take_append_drop,List.length_drop,hl,show 8+Co P-8=Co P by omega]at h2
 rw[hh,h2];rfl
theorem eG (A t P:Nat):(A%P)^t%P=A^t%P:=(Nat.pow_mod A t P).symm
theorem Xa {f:Nat->Nat}{k c:Nat}(h:1<f c):Dy f (k+1) c=some (f c):=by rw[Dy,if_pos h]
theorem Pe:∀i,i<3->Co (gP i)=gV i
 | 0,_=>by kernel_rfl
 | 1,_=>by kernel_rfl
 | 2,_=>by kernel_rfl
 | _+3,h=>by omega
theorem Pg (key info:List Nat):Fu key info 1=Ik key (info++[1]):=by
 simp[Fu,Qa]
theorem bZ:∀i,i<3->Ef [] (gP i) 0=Wk (Pf i)
 | 0,h=>by
  rw[Sf];unfold Ef;rw[Pe 0 h,Sl];show be ((Fu _ _ 1).take 10)=_;rw[Pg];show be ((Ik _ [104,0,1]).take 10)=_;rw[Vq];rfl
 | 1,h=>by
  rw[Sf];unfold Ef;rw[Pe 1 h,Sl];show be ((Fu _ _ 1).take 11)=_;rw[Pg];show be ((Ik _ [104,0,1]).take 11)=_;rw[Vq];rfl
 | 2,h=>by
  rw[Sf];unfold Ef;rw[Pe 2 h,Sl];show be ((Fu _ _ 1).take 17)=_;rw[Pg];show be ((Ik _ [104,0,1]).take 17)=_;rw[Vq];rfl
 | _+3,h=>by omega
theorem Wx:∀i,i<3->(gP i-1)/gQ i=Kf i
 | 0,_=>by decide
 | 1,_=>by decide
 | 2,_=>by decide
 | _+3,h=>by omega
theorem fY (i:Nat)(hi:i<3):Pu (gP i) (gQ i) (gG i):=by
 obtain⟨h1,h2,h3,_⟩:=Pd i hi;exact⟨by rw[Rj i hi];exact Nat.mul_mod_right _ _,h1,h2,h3,Zq i hi⟩
theorem Za (i:Nat)(hi:i<3):newSpec (gP i) (gQ i) (gG i) [] (Dn i)=(0,gH i):=by
 have h1:Ef [] (gP i) 0^((gP i-1)/gQ i)%gP i=gH i:=by rw[bZ i hi,Wx i hi,gW i hi]
 have h2:=(Pd i hi).2.2.2.1;unfold newSpec;rw[if_pos ⟨eT i hi,Xy i hi⟩,if_pos (fY i hi)];have h3:Dy (fun c=>Ef [] (gP i) c^((gP i-1)/gQ i)%gP i) 256 0=some (gH i):=by
  rw[Xa (by show 1<_;rw[h1];exact h2)];show some (Ef [] (gP i) 0^((gP i-1)/gQ i)%gP i)=_;rw[h1]
 rw[h3]
theorem Wz:∀i,i<3->∀s∈Dn i,s.ps.length<=1000
 | 0,_=>by intro s hs;cases hs
 | 1,_=>by intro s hs;rcases List.mem_singleton.1 hs with rfl;simp
 | 2,_=>by
  intro s hs;rcases List.mem_cons.1 hs with rfl|hs
  .simp
  .rcases List.mem_singleton.1 hs with rfl;simp
 | _+3,h=>by omega
theorem Ao.trans {B:Nat}{w1 w2 w3:World}(h:Ao B w1 w2)(k:Ao B w2 w3):Ao B w1 w3:=⟨h.bel.trans k.bel,fun p n c N x=>k.nat p n c N (h.nat p n c N x)⟩
theorem Ao.drew (B:Nat)(w:World):Ao B w w.drew:=⟨(Aw _ _).drew,fun _ _ _ _ k=>k.below ((Aw _ _).drew)⟩
structure RG (B:Nat) (wx:World) (l:List (Nat×Obj)) (w:World):Prop where
 keep:Ao B wx w
 base:B<=w.heap.size
 blk:∀x∈l,w.heap[x.1]? = some x.2
theorem RG.start {B:Nat}{wx:World}{l:List (Nat×Obj)}(hB:B<=wx.heap.size)(hl:∀x∈l,wx.heap[x.1]? = some x.2):RG B wx l wx.drew:=⟨Ao.drew _ _,hB,hl⟩
theorem RG.later {B:Nat}{wx:World}{l:List (Nat×Obj)}{w w':World}(h:RG B wx l w)(hb:Below w.heap.size w w'):RG B wx l w' :=
 ⟨h.keep.trans (Ao.of hb h.base),Eu h.base hb.size,fun x hx=>by rw[hb.block x.1 (Ga (h.blk x hx)).1];exact h.blk x hx⟩
theorem RG.store {B:Nat}{wx:World}{l:List (Nat×Obj)}{w:World}{b m d:Nat}{q:Option Addr}(h:RG B wx l w)(hb:Ad w b (.slice q m d))(hB:B<=b)(hn:∀x∈l,x.1≠b)(v:Value):RG B wx l (w.setCell ⟨b,0,none⟩ v) :=
 ⟨h.keep.trans (Ao.store hb hB v),by simpa using h.base,fun x hx=>by
  have:=hn x hx;simp[World.setCell,Array.getElem?_modify,this.symm];exact h.blk x hx⟩
theorem RG.of {B:Nat}{wx:World}{l:List (Nat×Obj)}{w:World}(h:RG B wx l w){b:Nat}{o:Obj}(hm:(b,o)∈l):w.heap[b]? = some o:=h.blk _ hm
def Yc (d:Bool)(b N:Nat)(w:World):Prop:=∃p n c,Ad w b (.slice p n c)/\(d=true->Ag w p n c N)
theorem Yc.fresh {w:World}{b N:Nat}{p:Option Addr}{n c:Nat}(h:Ad w b (.slice p n c)):Yc false b N w:=⟨p,n,c,h,fun e=>by cases e⟩
theorem Yc.later {d:Bool}{b N:Nat}{w w':World}(h:Yc d b N w)(hb:Below w.heap.size w w'):Yc d b N w' :=
 let ⟨p,n,c,h1,h2⟩:=h
 ⟨p,n,c,h1.below hb h1.lt,fun e=>(h2 e).below hb⟩
theorem Yc.put {d:Bool}{b N:Nat}{w:World}(h:Yc d b N w){p:Option Addr}{n c:Nat}(hx:Ag w p n c N):∃q m k,Ad w b (.slice q m k)/\Yc true b N (w.setCell ⟨b,0,none⟩ (.slice p n c)) :=
 let ⟨q,m,k,h1,_⟩:=h
 ⟨q,m,k,h1,p,n,c,h1.set _,fun _=>hx.store h1 _⟩
def Vk (d f:Bool)(v:Value)(B N:Nat)(w:World):Prop:=B<=w.heap.size/\(d=true->∃b,v=.pointer (some ⟨b,0,none⟩)/\B<=b/\Yc f b N w)
theorem Vk.start {v:Value}{B N:Nat}{w:World}(h:B<=w.heap.size):Vk false false v B N w:=⟨h,fun e=>by cases e⟩
theorem Vk.later {d f:Bool}{v:Value}{B N:Nat}{w w':World}(h:Vk d f v B N w)(hb:Below w.heap.size w w'):Vk d f v B N w' :=
 ⟨Eu h.1 hb.size,fun e=>let ⟨b,h1,h2,h3⟩:=h.2 e;⟨b,h1,h2,h3.later hb⟩⟩
theorem Vk.made {v:Value}{B N:Nat}{w:World}(h:Vk false false v B N w):Vk true false (.pointer (some ⟨w.heap.size,0,none⟩)) B N (w.alloc (.cells #[.slice none 0 0] 36)) :=
 ⟨by simp;have:=h.1;omega,fun _=>⟨_,rfl,h.1,Yc.fresh (Ad.made _ _)⟩⟩
theorem Vk.put {f:Bool}{v:Value}{B N:Nat}{w:World}(h:Vk true f v B N w){p:Option Addr}{n c:Nat}(hx:Ag w p n c N) :
  ∃b q m k,v=.pointer (some ⟨b,0,none⟩)/\B<=b/\Ad w b (.slice q m k)/\Vk true true v B N (w.setCell ⟨b,0,none⟩ (.slice p n c)) :=
 let ⟨b,h1,h2,h3⟩:=h.2 rfl
 let ⟨q,m,k,h4,h5⟩:=h3.put hx
 ⟨b,q,m,k,h1,h2,h4,by simpa using h.1,fun _=>⟨b,h1,h2,h5⟩⟩
theorem RG.store_over {B B2:Nat}{wx:World}{l:List (Nat×Obj)}{w:World}{b m d:Nat}{q:Option Addr}(h:RG B wx l w)(hb:Ad w b (.slice q m d))(hB:B<=B2)(hB2:B2<=b)(hl:∀x∈l,x.1<B2)(v:Value):RG B wx l (w.setCell ⟨b,0,none⟩ v) :=
 h.store hb (Eu hB hB2) (fun x hx=>by have:=hl x hx;omega) v
def Ho (e N:Nat)(t v:Value)(w:World):Prop:=∃p n c,v=.tuple #[.agg #[.slice p n c],t]/\Ag w p n c N/\N<Am e
theorem Ho.keep {e N B:Nat}{t v:Value}{w w':World}(h:Ho e N t v w)(k:Ao B w w'):Ho e N t v w' :=
 let ⟨p,n,c,h1,h2,h3⟩:=h
 ⟨p,n,c,h1,k.nat _ _ _ _ h2,h3⟩
theorem Ring.keep {B r M f:Nat}{w w':World}(h:Ring w r M f)(hr:r<B)(k:Ao B w w'):Ring w' r M f:=by
 obtain⟨p,n,c,h1,h2,h3⟩:=h.at_.ex
 exact⟨⟨p,n,c,by rw[k.bel.block r hr];exact h1,k.nat _ _ _ _ h2,h3⟩,h.two,h.lim,h.few⟩
structure Jq (w:World) (b P Q G H:Nat):Prop where
 ex:∃rp rq pg ng cg ph nh ch,w.heap[b]? = some (.cells #[.pointer (some ⟨rp,0,none⟩),.pointer (some ⟨rq,0,none⟩),.slice pg ng cg,.slice ph nh ch] 127 (0,0))/\Ring w rp P 33/\Ring w rq Q 33/\Ag w pg ng cg G/\G<Am 33/\Ag w ph nh ch H/\H<Am 33
theorem Jq.lims {w:World}{b P Q G H:Nat}(h:Jq w b P Q G H):2<=P/\P<Am 33/\2<=Q/\Q<Am 33:=by
 obtain⟨_,_,_,_,_,_,_,_,_,h2,h3,_⟩:=h.ex;exact⟨h2.two,h2.lim,h3.two,h3.lim⟩
theorem Um {w:World}{b:Nat}{v0 v1 v2 v3:Value}(h:w.heap[b]? = some (.cells #[v0,v1,v2,v3] 127 (0,0))) :
  w.cell? ⟨b,0,none⟩=some v0/\w.cell? ⟨b,1,none⟩=some v1/\w.cell? ⟨b,2,none⟩=some v2/\w.cell? ⟨b,3,none⟩=some v3:=by
 simp[World.cell?,h]
theorem Wi (w:World)(b:Nat):Calls Tryz.prog 87 #[.pointer (some ⟨b,0,none⟩)] w fun e w'=>e=.returned (.pointer (some ⟨b,0,none⟩))/\w'=w:=by
 go_enter Tryz.func87,Tryz.ntmps87;go_wp2;go_ret;exact⟨rfl,rfl⟩
theorem Ng {w:World}{e N:Nat}{v:Value}(h:Fit e N v w)(he:e<=900000) :
  Calls Tryz.prog 189 #[v] w fun en w'=>en=.returned (.int .i64 (Co N:Nat))/\Below w.heap.size w w':=by
 obtain⟨p,n,c,rfl,h1,h2⟩:=h;have hn:n<1000000:=by have:=h1.len_le h2;omega
 have hl:Be N<=30000000:=by have:=Lc h2;omega
 have hbx:=Dl.mk1 w (.slice p n c) 36;have H1:=Ab (h1.below hbx.bel);have HBX:=Ab hbx.bel;have HS:Aa (Co N=(Be N+7)/8):=⟨rfl⟩
 clear h1 h2 hbx;go_enter Tryz.func189,Tryz.ntmps189
 go_wp2_with fail
 refine(Fr _ p n c N H1.out hn).mono ?_;rintro en w1 ⟨rfl,hb1⟩;have HB1:=Ab (Ae HBX.out hb1);clear hb1;obtain⟨L,hL⟩:∃L,Be N=L:=⟨_,rfl⟩
 rw[hL]at hl HS
 simp only[hL];clear hL;go_wp2;go_ret;refine⟨?_,HB1.out⟩;rw[HS.out];exact congrArg (fun z=>Ending.returned (.int .i64 z)) (by omega)
theorem Ww {w:World}{b P Q G H:Nat}(h:Jq w b P Q G H) :
  Calls Tryz.prog 20 #[.pointer (some ⟨b,0,none⟩)] w fun e w'=>∃r,e=.returned (.pointer (some ⟨r,0,none⟩))/\Ring w' r Q 33/\Below w.heap.size w w':=by
 have hq:=h.lims.2.2.1;obtain⟨rp,rq,pg,ng,cg,ph,nh,ch,h1,h2,h3,h4,h5,h6,h7⟩:=h.ex;obtain⟨c0,cq,c2,c3⟩:=Um h1;have HR:=Ab h3;clear h h1 h2 h3 h4 h5 h6 h7;go_enter Tryz.func20,Tryz.ntmps20
 go_wp2_with fail
 refine(Wi w b).mono ?_;rintro en w1 ⟨rfl,rfl⟩
 go_wp2_with fail
 refine(Ic HR.out).mono ?_;rintro en w2 ⟨x,rfl,hx,hb2⟩;have HX:=Ab hx;have HB2:=Ab hb2;clear hx hb2 c0 cq c2 c3
 go_wp2_with fail
 refine(Hd HX.out (by decide)).mono ?_;rintro en w3 ⟨hb3,hh⟩;rcases hh with ⟨hl,_⟩|⟨_,r,rfl,hr,_⟩
 .omega
 have HR3:=Ab hr;have HB3:=Ab (Ae HB2.out hb3);clear hr hb3;go_wp2;go_ret;exact⟨r,rfl,HR3.out,HB3.out⟩
theorem Zm {w:World}{e N:Nat}{v:Value}(h:Fit e N v w)(he:e<=900000) :
  Calls Tryz.prog 134 #[v] w fun en w'=>en=.returned (.bool (decide (N=1)))/\Below w.heap.size w w':=by
 obtain⟨p,n,c,rfl,h1,h2⟩:=h;have hb1:=Ad.made w (.slice p n c);have hbel:Below w.heap.size w (w.alloc (.cells #[.slice p n c] 36)):=Cu;obtain⟨wa,hwa⟩:∃wa,w.alloc (.cells #[.slice p n c] 36)=wa:=⟨_,rfl⟩
 rw[hwa]at hb1 hbel
 have HF:=Ab ((Fit.of h1 h2).below hbel);have HBX:=Ab hb1;have HB:=Ab hbel;obtain⟨K,hK⟩:∃K,Bl N 1=K:=⟨_,rfl⟩
 have HK:=Ab hK;obtain⟨X,hX⟩:∃X,decide (N=1)=X:=⟨_,rfl⟩
 have hE:((K:Int)==0)=X:=by
  rw[<-hK,<-hX]
  by_cases hn:N=1
  .simp[hn,Bt.2]
  .have:Bl N 1≠0:=fun h0=>hn (Bt.1 h0)
   simp[hn,this]
 rw[hX];clear hK hX h1 h2 hb1 hbel;go_enter Tryz.func134,Tryz.ntmps134;go_wp2;refine Ak (by kernel_rfl) (by kernel_rfl)
  [some (.agg #[.slice p n c]),none,none,some (.bool X),some (.bool X)]
  [false,true,true,false,false] rfl
  (fun w1 w2=>Ao (w.heap.size) w1 w2)
  (fun D sp w'=>RG (w.heap.size) wa [(w.heap.size,.cells #[.slice p n c] 36 (0,0))] w'/\True)
  (fun i v w'=>match i with
   | 1=>Fit 1 1 v w'
   | 2=>v=.int .i64 K
   | _=>True)
  ?_ ⟨RG.start HB.out.size (List.forall_mem_cons.2 ⟨HBX.out,fun x hx=>by cases hx⟩),trivial⟩ ?_ ?_
 .intro i v w1 w2 hf hb;split at hf
  .exact hf.keep hb
  .exact hf
  .trivial
 .simp only[Bb,Nat.reduceAdd];refine⟨?_,?_,?_,?_,?_,trivial⟩
  all_goals intro D sp w' hD hW hdp hg
  case refine_1=>
   have c0:w'.cell? ⟨w.heap.size,0,none⟩=some (.slice p n c):=Ad.cell (hg.1.of List.mem_cons_self)
   with_reducible refine Af ?_ ?_
   all_goals simp[Region.wanted,yielded,execOp,Act.eval,Act.put,go_sem,c0]
  case refine_2=>
   (with_reducible refine Ac (w1:=w') (f := 21) (args:=#[.int .u64 1]) ?_ ?_ ?_)
   .simp[Region.wanted,yielded,Act.put,go_sem]
   .simp[Act.eval,Act.put,go_sem]
   .refine(Du w').mono ?_;rintro en w9 ⟨u,rfl,hu,hb⟩;exact⟨u,rfl,Ao.of hb hg.1.base,hu,hg.1.later hb,trivial⟩
  case refine_3=>
   have k1:Fit 1 1 (sp 1) w':=(hdp 1 (mq (by kernel_rfl))).2
   (with_reducible refine Ac (w1:=w') (f := 34) (args:=#[.agg #[.slice p n c],sp 1]) ?_ ?_ ?_)
   .simp[Region.wanted,yielded,Act.put,go_sem]
   .simp[Act.eval,Act.put,go_sem]
   .refine(Bj (HF.out.keep hg.1.keep) k1 he (by decide) HK.out).mono ?_;rintro en w9 ⟨u,rfl,rfl,hb⟩;exact⟨_,rfl,Ao.of hb hg.1.base,rfl,hg.1.later hb,trivial⟩
  case refine_4=>
   have k2:(sp 2)=.int .i64 K:=(hdp 2 (mq (by kernel_rfl))).2
   with_reducible refine Af ?_ ?_
   all_goals simp[Region.wanted,yielded,execOp,Act.eval,Act.put,go_sem,k2,hE]
  all_goals ((with_reducible refine Af ?_ ?_);all_goals first|(simp only[Region.wanted];done)|simp[Region.wanted,yielded,execOp,Act.eval,Act.put,go_sem])
 .intro sp w7 hsp hg;have HB7:=Ab (HB.out.trans hg.1.keep.bel);clear hsp hg;simp only[Al,Nat.reduceAdd];generalize sp 1=y1,sp 2=y2 at *
  go_simp
  go_wp2;go_ret;exact⟨rfl,HB7.out⟩
end Go.Proofs.YtnbmfaihlefgfaaGreatDoor
