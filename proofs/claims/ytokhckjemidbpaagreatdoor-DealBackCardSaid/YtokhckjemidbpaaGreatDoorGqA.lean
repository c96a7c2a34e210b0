/- A group's plain calls: its numbers, its field, its size; of no group. -/
import Derived.Test.YtokhckjemidbpaaGreatDoorMacE
import Derived.Test.YtokhckjemidbpaaGreatDoorGrpN
import Derived.BigRegion
import Derived.Laws.Rows
import Derived.Laws.OwnMore
import Derived.Lib.AppendZeros
import Derived.ArgAppend
import Derived.Test.YtokhckjemidbpaaGreatDoorExp
import Derived.Test.YtokhckjemidbpaaGreatDoorCpD
set_option maxRecDepth 1000000
set_option maxHeartbeats 16000000
set_option linter.all false
namespace Go.Proofs.YtokhckjemidbpaaGreatDoor
open Go Go.RowKit Go.Proofs.YtokhckjemidbpaaGreatDoor.Flow
theorem Tl (w:World)(pk:Option Addr)(nk ck:Nat)(salt:List Nat)(ps:Option Addr)(ns cs:Nat)(secret:List Nat)(hT:Tabs w)(hK:Cu w ⟨pk,nk,ck,salt⟩)(hS:Cu w ⟨ps,ns,cs,secret⟩) :
  Calls Tryz.prog 241 #[.slice pk nk ck,.slice ps ns cs] w (Ky (bO salt secret) w):=by
 have hb:Below w.heap.size w (w.alloc (.cells #[.slice ps ns cs] 23)):=Bq;have hz:=hb.size;have HC:=Ab (Wq (w.alloc (.cells #[.slice ps ns cs] 23)) pk nk ck salt _ _ _ [⟨ps,ns,cs,secret⟩] (hT.below hb hT.size) (hK.below hb).row hK.bytes (jS w ⟨ps,ns,cs,secret⟩ hS));have HB:=Ab hb;clear hT hK hS hb;go_enter Tryz.func241,Tryz.ntmps241
 go_wp2_with fail
 refine HC.out.mono ?_;rintro e w1 ⟨q,rfl,hq,hb1,hk⟩;rw[Tw]at hk
 go_wp2;go_ret;exact⟨q,rfl,by omega,Dz HB.out hb1,hk⟩
theorem Xh (w:World)(pk:Option Addr)(nk ck:Nat)(salt:List Nat)(ps:Option Addr)(ns cs:Nat)(secret:List Nat)(pi:Option Addr)(ni ci:Nat)(info:List Nat)(n:Nat)(hT:Tabs w)(hK:Cu w ⟨pk,nk,ck,salt⟩)(hS:Cu w ⟨ps,ns,cs,secret⟩)(hI:Cu w ⟨pi,ni,ci,info⟩)(hn:n<=8160) :
  Calls Tryz.prog 219 #[.slice pk nk ck,.slice ps ns cs,.slice pi ni ci,.int .i64 n] w (bF n ((Hg (Kf salt secret) info ((n+31)/32)).take n) w):=by
 have HC:=Ab (Tl w pk nk ck salt ps ns cs secret hT hK hS);have HI:Aa (Cu w ⟨pi,ni,ci,info⟩):=⟨hI⟩
 have HT:Aa (Tabs w):=⟨hT⟩
 clear hT hK hS hI;go_enter Tryz.func219,Tryz.ntmps219
 go_wp2_with fail
 refine HC.out.mono ?_;rintro e w1 ⟨q,rfl,hq,hb1,hk⟩;have hr:Br w1 .u8 (some ⟨q,0,none⟩) 32 32 (Kf salt secret):=⟨(Ke _ _).symm,Av _,by omega,fun _=>hk.row (Ke _ _).symm (Av _) (by omega)⟩
 go_wp2_with fail
 refine(Wy w1 _ _ _ (Kf salt secret) pi ni ci info n (HT.out.below hb1 HT.out.size) hr (Sc _ _) (HI.out.below hb1) hn).mono ?_;rintro e w2 ⟨p,rfl,hr2,hn2,hb2,hz2⟩;have hz:=hb1.size;have HE:=Ab hr2;have HN:Aa (Gq w.heap.size p/\(p=none->n=0)):=⟨hn2.mono hz,hz2⟩
 clear hr2 hn2 hz2 hr hk;go_wp2;exact bodyPost_ret (v:=.tuple #[.slice p n n,.int .i64 0]) (by simp[results,Tryz.results219,go_sem]) rfl ⟨p,rfl,HE.out,HN.out.1,Dz hb1 hb2,HN.out.2⟩
def Ka (P:Nat):Nat->List (Nat×Nat)->Nat
 | x,[]=>x
 | x,(b,e)::l=>Ka P (x*(b^e%P)%P) l
theorem Rz {P:Nat}(hP:2<=P):∀(l:List (Nat×Nat)) (x:Nat),x<P->Ka P x l<P
 | [],_,h=>h
 | (_,_)::l,_,_=>Rz hP l _ (Nat.mod_lt _ (by omega))
theorem Lc {P Q g:Nat}(h:g^Q%P=1%P)(a:Nat):g^a%P=g^(a%Q)%P:=by
 have h1:a=Q*(a/Q)+a%Q:=(Nat.div_add_mod a Q).symm;have h2:g^(Q*(a/Q))%P=1%P:=by
  rw[Nat.pow_mul,Nat.pow_mod,h,<-Nat.pow_mod,Nat.one_pow]
 rw[show g^a=g^(Q*(a/Q))*g^(a%Q) by rw[<-Nat.pow_add,<-h1],Nat.mul_mod,h2,<-Nat.mul_mod,Nat.one_mul]
theorem Uk {P Q g a b:Nat}(h:g^Q%P=1%P)(hab:a%Q=b%Q):g^a%P=g^b%P:=by
 rw[Lc h a,Lc h b,hab]
def Lo (P x:Nat):List Nat->Nat
 | []=>1
 | c::l=>Lo P x l^x%P*c%P
def Tk (x:Nat):List Nat->Nat
 | []=>0
 | c::l=>c+x*Tk x l
theorem Rh {N:Nat}{l:List Bm}(h:Told N l):Bf N:=by
 rcases h with h|⟨h,s,hs,rfl⟩
 .exact h.prime
 .exact Ku l [] (fun x hx=>by cases hx) h s hs
def Fi (seed:List Nat)(P c:Nat):Nat:=be ((Hg (Kf [] seed) [104,c] ((Dg P+8+31)/32)).take (Dg P+8))
def Et (f:Nat->Nat):Nat->Nat->Option Nat
 | 0,_=>none
 | k+1,c=>if 1<f c then some (f c) else Et f k (c+1)
def Sv (P Q G:Nat):Prop:=(P-1)%Q=0/\64<Q/\1<G/\G<P/\G^Q%P=1
open Classical in
noncomputable def newSpec (P Q G:Nat) (seed:List Nat) (l:List Bm):Nat×Nat :=
 if Told P l/\Told Q l then
  if Sv P Q G then
   match Et (fun c=>Fi seed P c^((P-1)/Q)%P) 256 0 with
   | some h=>(0,h)
   | none=>(6,0)
  else (1,0)
 else (8,0)
theorem Vq (xs ys:List Nat):be (xs++ys)=be xs*B8 ys.length+be ys:=by
 unfold be;rw[List.reverse_append,Uw,List.length_reverse,Nat.mul_comm (B8 _),Nat.add_comm]
theorem aB:∀(bs:List Nat) (a:Nat),bs.foldl (fun n x=>n*256+x) a=a*B8 bs.length+be bs
 | [],a=>by simp[be,le,Qz]
 | x::xs,a=>by
  rw[List.foldl_cons,aB xs,show x::xs=[x]++xs from rfl,Vq,List.length_append,List.length_singleton,Nat.add_comm 1,Oc];have h1:be [x]=x:=by simp[be,le]
  rw[h1,Nat.add_mul,Nat.mul_assoc,Nat.add_assoc]
theorem Wl (bs:List Nat):cM bs=be bs:=by
 unfold cM;rw[aB];simp
def Bv:List (Nat×Nat)->Nat
 | []=>1
 | (b,e)::l=>b^e*Bv l
theorem Ur (P:Nat):∀(l:List (Nat×Nat)) (x:Nat),Ka P x l%P=x*Bv l%P
 | [],x=>by simp[Ka,Bv]
 | (b,e)::l,x=>by
  rw[Ka,Ur P l,Bv,Nat.mod_mul_mod,Nat.mul_assoc x (b^e%P),<-Nat.mul_mod_mod x (b^e%P*Bv l),Nat.mod_mul_mod,Nat.mul_mod_mod]
theorem fV {P:Nat}(hP:2<=P)(l:List (Nat×Nat)):Ka P 1 l=Bv l%P:=by
 have:=Ur P l 1;rw[Nat.mod_eq_of_lt (Rz hP l 1 (by omega)),Nat.one_mul]at this
 exact this
theorem Mb:∀(l:List (Nat×Nat)) (b e:Nat),Bv (l++[(b,e)])=Bv l*b^e
 | [],b,e=>by simp[Bv]
 | (c,d)::l,b,e=>by rw[List.cons_append,Bv,Mb l,Bv,Nat.mul_assoc]
def Lp (i:Nat)(l:List (Nat×Nat)):List (Nat×Nat):=l.map fun p=>(p.1,p.2/2^i)
def Mo (i:Nat)(l:List (Nat×Nat)):List (Nat×Nat):=l.map fun p=>(p.1,p.2/2^i%2)
theorem gU (l:List (Nat×Nat)):Lp 0 l=l:=by simp[Lp]
theorem Yt (i:Nat):∀l:List (Nat×Nat),Bv (Lp i l)=Bv (Lp (i+1) l)*Bv (Lp (i+1) l)*Bv (Mo i l)
 | []=>rfl
 | (b,e)::l=>by
  have h1:e/2^i=e/2^(i+1)+e/2^(i+1)+e/2^i%2:=by
   rw[Nat.pow_succ,<-Nat.div_div_eq_div_mul];omega
  have h2:b^(e/2^i)=b^(e/2^(i+1))*b^(e/2^(i+1))*b^(e/2^i%2):=by
   rw[<-Nat.pow_add,<-Nat.pow_add,<-h1]
  show b^(e/2^i)*Bv (Lp i l)=(b^(e/2^(i+1))*Bv (Lp (i+1) l))*(b^(e/2^(i+1))*Bv (Lp (i+1) l))*(b^(e/2^i%2)*Bv (Mo i l));rw[h2,Yt i l]
  ac_rfl
theorem Yr (i:Nat):∀l:List (Nat×Nat),(∀p∈l,p.2<2^i)->Bv (Lp i l)=1
 | [],_=>rfl
 | (b,e)::l,h=>by
  show b^(e/2^i)*Bv (Lp i l)=1;rw[Yr i l fun p hp=>h p (List.mem_cons_of_mem _ hp),Nat.div_eq_of_lt (h (b,e) List.mem_cons_self)];simp
theorem iG {i:Nat}{l:List (Nat×Nat)}{k b e:Nat}(h:l[k]? = some (b,e)):Mo i (l.take (k+1))=Mo i (l.take k)++[(b,e/2^i%2)]:=by
 unfold Mo;rw[Cx h,List.map_append];rfl
def Gk:List Nat->Nat
 | []=>0
 | x::l=>max (Bg x) (Gk l)
theorem Sa:∀(l:List Nat) (x:Nat),Gk (l++[x])=max (Gk l) (Bg x)
 | [],x=>by simp[Gk]
 | y::l,x=>by rw[List.cons_append,Gk,Sa l,Gk];omega
theorem Zj:∀(l:List Nat) (x:Nat),x∈l->x<2^Gk l
 | y::l,x,h=>by
  rcases List.mem_cons.1 h with rfl|h
  .exact Da (Nt x) (Nat.pow_le_pow_right (by omega) (Nat.le_max_left _ _))
  .exact Da (Zj l x h) (Nat.pow_le_pow_right (by omega) (Nat.le_max_right _ _))
theorem Zk {m:Nat}:∀(l:List Nat),(∀x∈l,Bg x<=m)->Gk l<=m
 | [],_=>Nat.zero_le _
 | y::l,h=>Nat.max_le.2 ⟨h y List.mem_cons_self,Zk l fun x hx=>h x (List.mem_cons_of_mem _ hx)⟩
theorem oF {P X Y s:Nat}:((X*(256^s%P))%P+Y)%P=(X*256^s+Y)%P:=by
 rw[Nat.mul_mod_mod,Nat.mod_add_mod]
theorem kP (seed:List Nat)(P c:Nat):∃bs:List Nat,(Hg (Kf [] seed) [104,c] ((8+Dg P+31)/32)).take (8+Dg P)=bs/\bs.length=8+Dg P/\Bd bs/\be (bs.take 8)*256^Dg P+be (bs.drop 8)=Fi seed P c:=by
 have hl:((Hg (Kf [] seed) [104,c] ((8+Dg P+31)/32)).take (8+Dg P)).length=8+Dg P:=by
  rw[List.length_take,Hn];omega
 refine⟨_,rfl,hl,(Si _ _ _).take _,?_⟩;obtain⟨bs,hb⟩:∃x,(Hg (Kf [] seed) [104,c] ((8+Dg P+31)/32)).take (8+Dg P)=x:=⟨_,rfl⟩
 have hh:Fi seed P c=be bs:=by rw[<-hb];unfold Fi;rw[Nat.add_comm (Dg P) 8]
 rw[hb]at hl ⊢
 have h2:=Vq (bs.take 8) (bs.drop 8);rw[List.take_append_drop,List.length_drop,hl,show 8+Dg P-8=Dg P by omega]at h2
 rw[hh,h2];rfl
theorem nL (A t P:Nat):(A%P)^t%P=A^t%P:=(Nat.pow_mod A t P).symm
theorem dE {f:Nat->Nat}{k c:Nat}(h:1<f c):Et f (k+1) c=some (f c):=by rw[Et,if_pos h]
theorem Sf:∀i,i<3->Dg (gP i)=qF i
 | 0,_=>by kernel_rfl
 | 1,_=>by kernel_rfl
 | 2,_=>by kernel_rfl
 | _+3,h=>by omega
theorem Sh (key info:List Nat):Hg key info 1=Kf key (info++[1]):=by
 simp[Hg,Tb]
theorem kO:∀i,i<3->Fi [] (gP i) 0=cM (Sg i)
 | 0,h=>by
  rw[Wl];unfold Fi;rw[Sf 0 h,Wt];show be ((Hg _ _ 1).take 10)=_;rw[Sh];show be ((Kf _ [104,0,1]).take 10)=_;rw[bM];rfl
 | 1,h=>by
  rw[Wl];unfold Fi;rw[Sf 1 h,Wt];show be ((Hg _ _ 1).take 11)=_;rw[Sh];show be ((Kf _ [104,0,1]).take 11)=_;rw[bM];rfl
 | 2,h=>by
  rw[Wl];unfold Fi;rw[Sf 2 h,Wt];show be ((Hg _ _ 1).take 17)=_;rw[Sh];show be ((Kf _ [104,0,1]).take 17)=_;rw[bM];rfl
 | _+3,h=>by omega
theorem dB:∀i,i<3->(gP i-1)/gQ i=Mg i
 | 0,_=>by decide
 | 1,_=>by decide
 | 2,_=>by decide
 | _+3,h=>by omega
theorem pI (i:Nat)(hi:i<3):Sv (gP i) (gQ i) (gG i):=by
 obtain⟨h1,h2,h3,_⟩:=Ih i hi;exact⟨by rw[Vb i hi];exact Nat.mul_mod_right _ _,h1,h2,h3,Vc i hi⟩
theorem fS (i:Nat)(hi:i<3):newSpec (gP i) (gQ i) (gG i) [] (Ei i)=(0,gH i):=by
 have h1:Fi [] (gP i) 0^((gP i-1)/gQ i)%gP i=gH i:=by rw[kO i hi,dB i hi,qG i hi]
 have h2:=(Ih i hi).2.2.2.1;unfold newSpec;rw[if_pos ⟨oC i hi,eL i hi⟩,if_pos (pI i hi)];have h3:Et (fun c=>Fi [] (gP i) c^((gP i-1)/gQ i)%gP i) 256 0=some (gH i):=by
  rw[dE (by show 1<_;rw[h1];exact h2)];show some (Fi [] (gP i) 0^((gP i-1)/gQ i)%gP i)=_;rw[h1]
 rw[h3]
theorem dD:∀i,i<3->∀s∈Ei i,s.ps.length<=1000
 | 0,_=>by intro s hs;cases hs
 | 1,_=>by intro s hs;rcases List.mem_singleton.1 hs with rfl;simp
 | 2,_=>by
  intro s hs;rcases List.mem_cons.1 hs with rfl|hs
  .simp
  .rcases List.mem_singleton.1 hs with rfl;simp
 | _+3,h=>by omega
theorem eM (w:World):Fit 0 0 (.agg #[.slice none 0 0]) w:=Fit.of (Ag.nil w) (by decide)
theorem Pu (w:World) :
  Calls Tryz.prog 57 #[.pointer none] w fun en w'=>en=.returned (.agg #[.slice none 0 0])/\Below w.heap.size w w':=by
 have hb1:=Af.made w (.slice none 0 0);have c1:=hb1.cell;have f1:=hb1.free;have hbel:Below w.heap.size w (w.alloc (.cells #[.slice none 0 0] 37)):=Bq;go_enter Tryz.func57,Tryz.ntmps57;go_wp2;exact bodyPost_ret (v:=.agg #[.slice none 0 0]) (by simp[results,Tryz.results57,go_sem,c1]) rfl ⟨rfl,hbel⟩
theorem Am.trans {B:Nat}{w1 w2 w3:World}(h:Am B w1 w2)(k:Am B w2 w3):Am B w1 w3:=⟨h.bel.trans k.bel,fun p n c N x=>k.nat p n c N (h.nat p n c N x)⟩
theorem Am.drew (B:Nat)(w:World):Am B w w.drew:=⟨(Ba _ _).drew,fun _ _ _ _ k=>k.below ((Ba _ _).drew)⟩
structure RG (B:Nat) (wx:World) (l:List (Nat×Obj)) (w:World):Prop where
 keep:Am B wx w
 base:B<=w.heap.size
 blk:∀x∈l,w.heap[x.1]? = some x.2
theorem RG.start {B:Nat}{wx:World}{l:List (Nat×Obj)}(hB:B<=wx.heap.size)(hl:∀x∈l,wx.heap[x.1]? = some x.2):RG B wx l wx.drew:=⟨Am.drew _ _,hB,hl⟩
theorem RG.later {B:Nat}{wx:World}{l:List (Nat×Obj)}{w w':World}(h:RG B wx l w)(hb:Below w.heap.size w w'):RG B wx l w' :=
 ⟨h.keep.trans (Am.of hb h.base),Ee h.base hb.size,fun x hx=>by rw[hb.block x.1 (Gg (h.blk x hx)).1];exact h.blk x hx⟩
theorem RG.store {B:Nat}{wx:World}{l:List (Nat×Obj)}{w:World}{b m d:Nat}{q:Option Addr}(h:RG B wx l w)(hb:Af w b (.slice q m d))(hB:B<=b)(hn:∀x∈l,x.1≠b)(v:Value):RG B wx l (w.setCell ⟨b,0,none⟩ v) :=
 ⟨h.keep.trans (Am.store hb hB v),by simpa using h.base,fun x hx=>by
  have:=hn x hx;simp[World.setCell,Array.getElem?_modify,this.symm];exact h.blk x hx⟩
theorem RG.of {B:Nat}{wx:World}{l:List (Nat×Obj)}{w:World}(h:RG B wx l w){b:Nat}{o:Obj}(hm:(b,o)∈l):w.heap[b]? = some o:=h.blk _ hm
def Xu (d:Bool)(b N:Nat)(w:World):Prop:=∃p n c,Af w b (.slice p n c)/\(d=true->Ag w p n c N)
theorem Xu.fresh {w:World}{b N:Nat}{p:Option Addr}{n c:Nat}(h:Af w b (.slice p n c)):Xu false b N w:=⟨p,n,c,h,fun e=>by cases e⟩
theorem Xu.later {d:Bool}{b N:Nat}{w w':World}(h:Xu d b N w)(hb:Below w.heap.size w w'):Xu d b N w' :=
 let ⟨p,n,c,h1,h2⟩:=h
 ⟨p,n,c,h1.below hb h1.lt,fun e=>(h2 e).below hb⟩
theorem Xu.put {d:Bool}{b N:Nat}{w:World}(h:Xu d b N w){p:Option Addr}{n c:Nat}(hx:Ag w p n c N):∃q m k,Af w b (.slice q m k)/\Xu true b N (w.setCell ⟨b,0,none⟩ (.slice p n c)) :=
 let ⟨q,m,k,h1,_⟩:=h
 ⟨q,m,k,h1,p,n,c,h1.set _,fun _=>hx.store h1 _⟩
def bC (d f:Bool)(v:Value)(B N:Nat)(w:World):Prop:=B<=w.heap.size/\(d=true->∃b,v=.pointer (some ⟨b,0,none⟩)/\B<=b/\Xu f b N w)
theorem bC.start {v:Value}{B N:Nat}{w:World}(h:B<=w.heap.size):bC false false v B N w:=⟨h,fun e=>by cases e⟩
theorem bC.later {d f:Bool}{v:Value}{B N:Nat}{w w':World}(h:bC d f v B N w)(hb:Below w.heap.size w w'):bC d f v B N w' :=
 ⟨Ee h.1 hb.size,fun e=>let ⟨b,h1,h2,h3⟩:=h.2 e;⟨b,h1,h2,h3.later hb⟩⟩
theorem bC.made {v:Value}{B N:Nat}{w:World}(h:bC false false v B N w):bC true false (.pointer (some ⟨w.heap.size,0,none⟩)) B N (w.alloc (.cells #[.slice none 0 0] 37)) :=
 ⟨by simp;have:=h.1;omega,fun _=>⟨_,rfl,h.1,Xu.fresh (Af.made _ _)⟩⟩
theorem bC.put {f:Bool}{v:Value}{B N:Nat}{w:World}(h:bC true f v B N w){p:Option Addr}{n c:Nat}(hx:Ag w p n c N) :
  ∃b q m k,v=.pointer (some ⟨b,0,none⟩)/\B<=b/\Af w b (.slice q m k)/\bC true true v B N (w.setCell ⟨b,0,none⟩ (.slice p n c)) :=
 let ⟨b,h1,h2,h3⟩:=h.2 rfl
 let ⟨q,m,k,h4,h5⟩:=h3.put hx
 ⟨b,q,m,k,h1,h2,h4,by simpa using h.1,fun _=>⟨b,h1,h2,h5⟩⟩
theorem RG.store_over {B B2:Nat}{wx:World}{l:List (Nat×Obj)}{w:World}{b m d:Nat}{q:Option Addr}(h:RG B wx l w)(hb:Af w b (.slice q m d))(hB:B<=B2)(hB2:B2<=b)(hl:∀x∈l,x.1<B2)(v:Value):RG B wx l (w.setCell ⟨b,0,none⟩ v) :=
 h.store hb (Ee hB hB2) (fun x hx=>by have:=hl x hx;omega) v
def Gh (e N:Nat)(t v:Value)(w:World):Prop:=∃p n c,v=.tuple #[.agg #[.slice p n c],t]/\Ag w p n c N/\N<An e
theorem Gh.keep {e N B:Nat}{t v:Value}{w w':World}(h:Gh e N t v w)(k:Am B w w'):Gh e N t v w' :=
 let ⟨p,n,c,h1,h2,h3⟩:=h
 ⟨p,n,c,h1,k.nat _ _ _ _ h2,h3⟩
theorem Ring.keep {B r M f:Nat}{w w':World}(h:Ring w r M f)(hr:r<B)(k:Am B w w'):Ring w' r M f:=by
 obtain⟨p,n,c,h1,h2,h3⟩:=h.at_.ex
 exact⟨⟨p,n,c,by rw[k.bel.block r hr];exact h1,k.nat _ _ _ _ h2,h3⟩,h.two,h.lim,h.few⟩
structure Au (w:World) (b P Q G H:Nat):Prop where
 ex:∃rp rq pg ng cg ph nh ch,w.heap[b]? = some (.cells #[.pointer (some ⟨rp,0,none⟩),.pointer (some ⟨rq,0,none⟩),.slice pg ng cg,.slice ph nh ch] 141 (0,0))/\Ring w rp P 33/\Ring w rq Q 33/\Ag w pg ng cg G/\G<An 33/\Ag w ph nh ch H/\H<An 33
theorem Au.lt {w:World}{b P Q G H:Nat}(h:Au w b P Q G H):b<w.heap.size:=by
 obtain⟨_,_,_,_,_,_,_,_,h1,_⟩:=h.ex;exact(Gg h1).1
theorem Au.below {w w':World}{b P Q G H:Nat}(h:Au w b P Q G H)(hb:Below w.heap.size w w'):Au w' b P Q G H:=by
 have hl:=h.lt;obtain⟨rp,rq,pg,ng,cg,ph,nh,ch,h1,h2,h3,h4,h5,h6,h7⟩:=h.ex;exact⟨rp,rq,pg,ng,cg,ph,nh,ch,by rw[hb.block b hl];exact h1,h2.below hb,h3.below hb,h4.below hb,h5,h6.below hb,h7⟩
theorem Au.keep {B:Nat}{w w':World}{b P Q G H:Nat}(h:Au w b P Q G H)(hB:w.heap.size<=B)(k:Am B w w'):Au w' b P Q G H:=by
 have hl:=h.lt;obtain⟨rp,rq,pg,ng,cg,ph,nh,ch,h1,h2,h3,h4,h5,h6,h7⟩:=h.ex;exact⟨rp,rq,pg,ng,cg,ph,nh,ch,by rw[k.bel.block b (by omega)];exact h1,h2.keep (by have:=h2.at_.lt;omega) k,h3.keep (by have:=h3.at_.lt;omega) k,k.nat _ _ _ _ h4,h5,k.nat _ _ _ _ h6,h7⟩
theorem Au.lims {w:World}{b P Q G H:Nat}(h:Au w b P Q G H):2<=P/\P<An 33/\2<=Q/\Q<An 33:=by
 obtain⟨_,_,_,_,_,_,_,_,_,h2,h3,_⟩:=h.ex;exact⟨h2.two,h2.lim,h3.two,h3.lim⟩
structure Nz (B:Nat) (w:World) (b P Q G H:Nat):Prop where
 ex:∃w0,Au w0 b P Q G H/\w0.heap.size<=B/\Am B w0 w
theorem Nz.of {B:Nat}{w w':World}{b P Q G H:Nat}(h:Au w b P Q G H)(hB:w.heap.size<=B)(k:Below w.heap.size w w')(hB2:B<=w.heap.size:=by exact Av _):Nz B w' b P Q G H:=⟨w,h,hB,Am.of k hB2⟩
theorem Nz.keep {B:Nat}{w w':World}{b P Q G H:Nat}(h:Nz B w b P Q G H)(k:Am B w w'):Au w' b P Q G H :=
 let ⟨_,h1,h2,h3⟩:=h.ex
 h1.keep h2 (h3.trans k)
theorem Cy {w:World}{b:Nat}{v0 v1 v2 v3:Value}(h:w.heap[b]? = some (.cells #[v0,v1,v2,v3] 141 (0,0))) :
  w.cell? ⟨b,0,none⟩=some v0/\w.cell? ⟨b,1,none⟩=some v1/\w.cell? ⟨b,2,none⟩=some v2/\w.cell? ⟨b,3,none⟩=some v3:=by
 simp[World.cell?,h]
theorem Ep (w:World)(b:Nat):Calls Tryz.prog 81 #[.pointer (some ⟨b,0,none⟩)] w fun e w'=>e=.returned (.pointer (some ⟨b,0,none⟩))/\w'=w:=by
 go_enter Tryz.func81,Tryz.ntmps81;go_wp2;go_ret;exact⟨rfl,rfl⟩
def Xr (w:World)(b:Nat):Prop:=w.heap[b]? = some (.cells #[.pointer none,.pointer none,.slice none 0 0,.slice none 0 0] 141 (0,0))
theorem Xr.cells {w:World}{b:Nat}(h:Xr w b):w.cell? ⟨b,0,none⟩=some (.pointer none)/\w.cell? ⟨b,1,none⟩=some (.pointer none):=by
 obtain⟨h0,h1,_⟩:=Cy h;exact⟨h0,h1⟩
theorem cI (w:World):Calls Tryz.prog 81 #[.pointer none] w fun e w'=>∃b,e=.returned (.pointer (some ⟨b,0,none⟩))/\Xr w' b/\Below w.heap.size w w':=by
 have hn:Xr (w.alloc (.cells #[.pointer none,.pointer none,.slice none 0 0,.slice none 0 0] 141)) w.heap.size:=heap_alloc_new w _;have hb:Below w.heap.size w (w.alloc (.cells #[.pointer none,.pointer none,.slice none 0 0,.slice none 0 0] 141)):=Bq;have HN:=Ab hn;have HB:=Ab hb;clear hn hb;go_enter Tryz.func81,Tryz.ntmps81;go_wp2;go_ret;exact⟨_,rfl,HN.out,HB.out⟩
theorem Qc {w:World}{e N:Nat}{v:Value}(h:Fit e N v w)(he:e<=300000) :
  Calls Tryz.prog 83 #[v] w fun en w'=>∃x,en=.returned x/\Fit e N x w'/\Below w.heap.size w w':=by
 obtain⟨pa,na,ca,rfl,h1,h2⟩:=Ao h;have hbx:=aZ.mk2 w (.slice pa na ca) (.slice none 0 0);have hz:∀w',Fit 0 0 (.agg #[.slice none 0 0]) w':=fun w'=>Fit.of (Ag.nil w') (by decide)
 have HZ:=Ah hz;clear hz;go_enter Tryz.func83,Tryz.ntmps83
 go_wp2_with fail
 refine(Ll (h.below hbx.bel) (HZ.out _) (by omega) (by omega)).mono ?_;rintro en w1 ⟨x,rfl,hx,hb⟩;replace hbx:=hbx.later hb;obtain⟨pc,nc,cc,rfl,y1,_⟩:=hx;have c1:=hbx.b1.cell;have f1:=hbx.b1.free;have z1:=hbx.b1.lt;go_wp2;exact bodyPost_ret (v:=.agg #[.slice pc nc cc]) (by simp[results,Tryz.results83,go_sem,c1]) rfl ⟨_,rfl,Fit.of (y1.store hbx.b1 _) h2,hbx.bel.setCell (by simp) _⟩
theorem Qf {w:World}{e N:Nat}{v:Value}(h:Fit e N v w)(he:e<=900000) :
  Calls Tryz.prog 176 #[v] w fun en w'=>en=.returned (.int .i64 (Dg N:Nat))/\Below w.heap.size w w':=by
 obtain⟨p,n,c,rfl,h1,h2⟩:=h;have hn:n<1000000:=by have:=h1.len_le h2;omega
 have hl:Bg N<=30000000:=by have:=If h2;omega
 have hbx:=Dp.mk1 w (.slice p n c) 37;have H1:=Ab (h1.below hbx.bel);have HBX:=Ab hbx.bel;have HS:Aa (Dg N=(Bg N+7)/8):=⟨rfl⟩
 clear h1 h2 hbx;go_enter Tryz.func176,Tryz.ntmps176
 go_wp2_with fail
 refine(Fr _ p n c N H1.out hn).mono ?_;rintro en w1 ⟨rfl,hb1⟩;have HB1:=Ab (Ae HBX.out hb1);clear hb1;obtain⟨L,hL⟩:∃L,Bg N=L:=⟨_,rfl⟩
 rw[hL]at hl HS
 simp only[hL];clear hL;go_wp2;go_ret;refine⟨?_,HB1.out⟩;rw[HS.out];exact congrArg (fun z=>Ending.returned (.int .i64 z)) (by omega)
theorem kX {w:World}{b P Q G H:Nat}(h:Au w b P Q G H) :
  Calls Tryz.prog 64 #[.pointer (some ⟨b,0,none⟩)] w fun e w'=>∃x,e=.returned x/\Fit 33 P x w'/\Below w.heap.size w w':=by
 have hb1:=Af.made w (.slice none 0 0);have hbel:Below w.heap.size w (w.alloc (.cells #[.slice none 0 0] 37)):=Bq;obtain⟨wa,hwa⟩:∃wa,w.alloc (.cells #[.slice none 0 0] 37)=wa:=⟨_,rfl⟩
 rw[hwa]at hb1 hbel
 obtain⟨rp,rq,pg,ng,cg,ph,nh,ch,h1,h2,h3,h4,h5,h6,h7⟩:=(h.below hbel).ex;obtain⟨c0,cq,c2,c3⟩:=Cy h1;have HR:=Ab h2;have HBX:=Ab hb1;have HB:=Ab hbel;clear h h1 h2 h3 h4 h5 h6 h7 hb1 hbel;go_enter Tryz.func64,Tryz.ntmps64
 go_wp2_with fail
 refine(Ep wa b).mono ?_;rintro en w1 ⟨rfl,rfl⟩
 go_wp2_with fail
 refine(Ew HR.out).mono ?_;rintro en w2 ⟨x,rfl,hx,hb2⟩;obtain⟨pc,nc,cc,rfl,y1,y2⟩:=hx;have hbn:=HBX.out.below hb2 HBX.out.lt;have k1:=hbn.cell;have f1:=hbn.free;have z1:=hbn.lt;clear c0 cq c2 c3;go_wp2;exact bodyPost_ret (v:=.agg #[.slice pc nc cc]) (by simp[results,Tryz.results64,go_sem,k1]) rfl ⟨_,rfl,Fit.of (y1.store hbn _) y2,(Ae HB.out hb2).setCell (by simp) _⟩
theorem pK {w:World}{b P Q G H:Nat}(h:Au w b P Q G H) :
  Calls Tryz.prog 26 #[.pointer (some ⟨b,0,none⟩)] w fun e w'=>∃x,e=.returned x/\Fit 33 G x w'/\Below w.heap.size w w':=by
 have hb1:=Af.made w (.slice none 0 0);have hbel:Below w.heap.size w (w.alloc (.cells #[.slice none 0 0] 37)):=Bq;obtain⟨wa,hwa⟩:∃wa,w.alloc (.cells #[.slice none 0 0] 37)=wa:=⟨_,rfl⟩
 rw[hwa]at hb1 hbel
 obtain⟨rp,rq,pg,ng,cg,ph,nh,ch,h1,h2,h3,h4,h5,h6,h7⟩:=(h.below hbel).ex;obtain⟨c0,cq,c2,c3⟩:=Cy h1;have HR:=Ab (Fit.of h4 h5);have HBX:=Ab hb1;have HB:=Ab hbel;clear h h1 h2 h3 h4 h5 h6 h7 hb1 hbel;go_enter Tryz.func26,Tryz.ntmps26
 go_wp2_with fail
 refine(Ep wa b).mono ?_;rintro en w1 ⟨rfl,rfl⟩
 go_wp2_with fail
 refine(Qc HR.out (by decide)).mono ?_;rintro en w2 ⟨x,rfl,hx,hb2⟩;obtain⟨pc,nc,cc,rfl,y1,y2⟩:=hx;have hbn:=HBX.out.below hb2 HBX.out.lt;have k1:=hbn.cell;have f1:=hbn.free;have z1:=hbn.lt;clear c0 cq c2 c3;go_wp2;exact bodyPost_ret (v:=.agg #[.slice pc nc cc]) (by simp[results,Tryz.results26,go_sem,k1]) rfl ⟨_,rfl,Fit.of (y1.store hbn _) y2,(Ae HB.out hb2).setCell (by simp) _⟩
theorem pJ {w:World}{b P Q G H:Nat}(h:Au w b P Q G H) :
  Calls Tryz.prog 53 #[.pointer (some ⟨b,0,none⟩)] w fun e w'=>∃x,e=.returned x/\Fit 33 H x w'/\Below w.heap.size w w':=by
 have hb1:=Af.made w (.slice none 0 0);have hbel:Below w.heap.size w (w.alloc (.cells #[.slice none 0 0] 37)):=Bq;obtain⟨wa,hwa⟩:∃wa,w.alloc (.cells #[.slice none 0 0] 37)=wa:=⟨_,rfl⟩
 rw[hwa]at hb1 hbel
 obtain⟨rp,rq,pg,ng,cg,ph,nh,ch,h1,h2,h3,h4,h5,h6,h7⟩:=(h.below hbel).ex;obtain⟨c0,cq,c2,c3⟩:=Cy h1;have HR:=Ab (Fit.of h6 h7);have HBX:=Ab hb1;have HB:=Ab hbel;clear h h1 h2 h3 h4 h5 h6 h7 hb1 hbel;go_enter Tryz.func53,Tryz.ntmps53
 go_wp2_with fail
 refine(Ep wa b).mono ?_;rintro en w1 ⟨rfl,rfl⟩
 go_wp2_with fail
 refine(Qc HR.out (by decide)).mono ?_;rintro en w2 ⟨x,rfl,hx,hb2⟩;obtain⟨pc,nc,cc,rfl,y1,y2⟩:=hx;have hbn:=HBX.out.below hb2 HBX.out.lt;have k1:=hbn.cell;have f1:=hbn.free;have z1:=hbn.lt;clear c0 cq c2 c3;go_wp2;exact bodyPost_ret (v:=.agg #[.slice pc nc cc]) (by simp[results,Tryz.results53,go_sem,k1]) rfl ⟨_,rfl,Fit.of (y1.store hbn _) y2,(Ae HB.out hb2).setCell (by simp) _⟩
theorem Dx {w:World}{b P Q G H:Nat}(h:Au w b P Q G H) :
  Calls Tryz.prog 30 #[.pointer (some ⟨b,0,none⟩)] w fun e w'=>∃r,e=.returned (.pointer (some ⟨r,0,none⟩))/\Ring w' r Q 33/\Below w.heap.size w w':=by
 have hq:=h.lims.2.2.1;obtain⟨rp,rq,pg,ng,cg,ph,nh,ch,h1,h2,h3,h4,h5,h6,h7⟩:=h.ex;obtain⟨c0,cq,c2,c3⟩:=Cy h1;have HR:=Ab h3;clear h h1 h2 h3 h4 h5 h6 h7;go_enter Tryz.func30,Tryz.ntmps30
 go_wp2_with fail
 refine(Ep w b).mono ?_;rintro en w1 ⟨rfl,rfl⟩
 go_wp2_with fail
 refine(Ew HR.out).mono ?_;rintro en w2 ⟨x,rfl,hx,hb2⟩;have HX:=Ab hx;have HB2:=Ab hb2;clear hx hb2 c0 cq c2 c3
 go_wp2_with fail
 refine(Gz HX.out (by decide)).mono ?_;rintro en w3 ⟨hb3,hh⟩;rcases hh with ⟨hl,_⟩|⟨_,r,rfl,hr,_⟩
 .omega
 have HR3:=Ab hr;have HB3:=Ab (Ae HB2.out hb3);clear hr hb3;go_wp2;go_ret;exact⟨r,rfl,HR3.out,HB3.out⟩
theorem dA (w:World):Calls Tryz.prog 30 #[.pointer none] w fun e w'=>e=.returned (.pointer none)/\Below w.heap.size w w':=by
 go_enter Tryz.func30,Tryz.ntmps30
 go_wp2_with fail
 refine(cI w).mono ?_;rintro en w1 ⟨b,rfl,hn,hb1⟩;obtain⟨c0,c1⟩:=hn.cells;have HB1:=Ab hb1;clear hn hb1
 go_wp2_with fail
 refine(Pu w1).mono ?_;rintro en w2 ⟨rfl,hb2⟩;have HB2:=Ab (Ae HB1.out hb2);have HF:=Ab (eM w2);clear hb2 c0 c1
 go_wp2_with fail
 refine(Gz HF.out (by decide)).mono ?_;rintro en w3 ⟨hb3,hh⟩;rcases hh with ⟨_,rfl⟩|⟨hl,_⟩
 .have HB3:Aa _:=⟨Ae HB2.out hb3⟩
  clear hb3;go_wp2;go_ret;exact⟨rfl,HB3.out⟩
 .omega
end Go.Proofs.YtokhckjemidbpaaGreatDoor
