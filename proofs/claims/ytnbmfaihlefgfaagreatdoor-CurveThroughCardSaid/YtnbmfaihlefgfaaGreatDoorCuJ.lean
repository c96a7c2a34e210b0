/- slices.Backward of numbers; a value, from the last coefficient down (curve.valueAt). -/
import Derived.Test.YtnbmfaihlefgfaaGreatDoorCuE
import Derived.Test.YtnbmfaihlefgfaaGreatDoorEuc
import Derived.Test.YtnbmfaihlefgfaaGreatDoorGqG
import Derived.Lib.SmallJoins
set_option maxRecDepth 1000000
set_option maxHeartbeats 16000000
set_option linter.all false
namespace Go.Proofs.YtnbmfaihlefgfaaGreatDoor
open Go Go.RowKit Go.Proofs.YtnbmfaihlefgfaaGreatDoor.Flow
theorem Jn {w:World}{e r q n c:Nat}{p:Option Addr}{Bs:List Nat}(hR:Ring w r q 33)(h:Au w e p n c Bs)(he:e<=200)(hn:n<=1000) :
  Calls Tryz.prog 91 #[.slice p n c,.func (.func 32) #[.pointer (some ⟨r,0,none⟩)] #[]] w fun en w'=>en=.returned (.slice (some ⟨w.heap.size,0,none⟩) n n)/\Au w' 33 (some ⟨w.heap.size,0,none⟩) n n (Bs.map fun x=>x%q)/\Below w.heap.size w w':=by
 have HLN:=Ab h.len;have HP:=Ab h;have HR:=Ab hR;have hmk:=fun w=>Pa n (by omega) w
 obtain⟨w0,hw0⟩:∃w0,w.alloc (.cells (madeCells #[.slice none 0 0] n) 36)=w0:=⟨_,rfl⟩
 have hb0:Below w.heap.size w w0:=by rw[<-hw0];exact(Aw _ _).alloc (Ar _) _
 have HS0:Aa (Ck w0 w.heap.size (List.replicate n (none,0,0))):=⟨by rw[<-hw0];exact Ck.made w n⟩
 have HB0:=Ab hb0;clear hR h hb0;go_enter Tryz.func91,Tryz.ntmps91;go_wp2
 go_loopw [6,7,13] (fun _ _ iv wr=>∃(k:Nat) (us:List (Option Addr×Nat×Nat)),k<=n/\iv=.int .i64 k/\us.length=n/\Aa (Ck wr w.heap.size us)/\Aa (Lm wr 33 us (Bs.map fun x=>x%q) k)/\Aa (Below w.heap.size w wr)) (fun _ _ iv _=>n-(intOf iv).toNat)
 case atStart=>exact⟨0,List.replicate n (none,0,0),by omega,rfl,by simp,HS0,⟨fun j N hj=>by omega⟩,HB0⟩
 case round=>
  obtain⟨k,us,hk,rfl,hus,HSr,HVr,HBr⟩:=hrel
  by_cases hkn:k<n
  .obtain⟨X,hXk⟩:∃X,Bs[k]? = some X:=⟨Bs[k]'(by rw[<-HLN.out];exact hkn),List.getElem?_eq_getElem _⟩
   obtain⟨b2,off,rfl,hb,hc⟩:=(HP.out.below HBr.out).at_ (by omega)
   obtain⟨q1,m,d,hx,hnx,hlim⟩:=hc k X hXk;have hUK:us[k]? = some (us[k]'(by omega)):=List.getElem?_eq_getElem _;have hbw:Below wr.heap.size wr (wr.alloc (.cells #[.slice q1 m d] 36)):=Cu;have hbx:=Ad.made wr (.slice q1 m d);obtain⟨wb,hwb⟩:∃wb,wr.alloc (.cells #[.slice q1 m d] 36)=wb:=⟨_,rfl⟩
   rw[hwb]at hbw hbx
   have cb:=hbx.cell;have HXb:=Ab ((Fit.of hnx hlim).below hbw);have HBb:=Ab (Ae HBr.out hbw);have HRb:=Ab (HR.out.below HBb.out);have HSb:=Ab (HSr.out.below hbw HSr.out.lt);have HVb:=Ab (HVr.out.keep (B:=w.heap.size) (Ao.of hbw HBr.out.size));have HNk:Aa ((Bs.map fun x=>x%q)[k]? = some (X%q)):=⟨by rw[List.getElem?_map,hXk];rfl⟩
   have HPl:Aa (X%q<Am 33):=⟨Nat.lt_trans (Nat.mod_lt _ (by have:=HR.out.two;omega)) HR.out.lim⟩
   have HUK:=Ab hUK;have hkn':(k:Int)<n:=by omega
   have hnk:¬n<=k:=by omega
   clear hc hnx hlim hXk hbw hbx hb hmk hUK
   go_wp2_with fail
   refine(Dt HRb.out HXb.out (by omega)).mono ?_;rintro en w1 ⟨_,rfl,⟨pz,nz,cz,rfl,hn1,_⟩,hb1⟩;have hs1:=HSb.out.below hb1 HSb.out.lt;have c1:=hs1.cell HUK.out;have f1:=hs1.free k;have HS8:=Ab (hs1.set k pz nz cz);have HV8:=Ab (((HVb.out.keep (Ao.of (B:=w.heap.size) hb1 HBb.out.size)).keep (Ao.store_row hs1 (Ar _) k (.slice pz nz cz))).step (by omega) HNk.out (hs1.nat hn1 k _) HPl.out);have HB8:Aa (Below w.heap.size w (w1.setCell ⟨w.heap.size,k,none⟩ (.slice pz nz cz))):=⟨(Ae HBb.out hb1).setCell (Ar _) _⟩
   have HLEN:Aa ((us.set k (pz,nz,cz)).length=n):=⟨by rw[List.length_set];exact hus⟩
   clear hn1 hb1 hs1 cb;go_wp2;go_roundw
   case rel=>exact⟨k+1,us.set k (pz,nz,cz),by omega,by go_num,HLEN.out,HS8,HV8,HB8⟩
   case measure=>simp[intOf];omega
  .obtain rfl:k=n:=by omega
   have hkn':¬(k:Int)<k:=by omega
   have HPL:=Ab (HVr.out.plist HSr.out (by rw[List.length_map];exact HLN.out.symm) (by omega));clear hmk;go_wp2;go_ret;exact⟨rfl,HPL.out,HBr.out⟩
def Ey (q n values:Nat)(Ns:List Nat):Nat:=if n=0 then 10 else if n≠values then 1 else if (Ns.map fun x=>x%q).Nodup then 0 else 11
theorem Rk {w:World}{e r q n c V:Nat}{p:Option Addr}{Ns:List Nat}(hR:Ring w r q 33)(h:Au w e p n c Ns)(he:e<=200)(hn:n<=12)(hV:V<=1000000) :
  Calls Tryz.prog 90 #[.pointer (some ⟨r,0,none⟩),.slice p n c,.int .i64 V] w fun en w'=>en=.returned (.int .i64 (Ey q n V Ns:Nat))/\Below w.heap.size w w':=by
 have HR:=Ab hR;have HP:=Ab h;clear hR h;unfold Ey
 by_cases h0:n=0
 .subst h0;rw[if_pos rfl];go_enter Tryz.func90,Tryz.ntmps90;go_wp2;go_ret;exact⟨rfl,Aw _ _⟩
 rw[if_neg h0];have h0':((n:Int)==0)=false:=by rw[beq_eq_false_iff_ne];omega
 by_cases h1:n=V
 .subst h1;have h1':((n:Int)!=n)=false:=by simp
  have h2:¬(n≠n):=fun h=>h rfl
  rw[if_neg h2];have HH:Aa (1<=n):=⟨by omega⟩
  clear h0 h2 hV;obtain⟨D,hD⟩:∃D,decide (Ns.map fun x=>x%q).Nodup=D:=⟨_,rfl⟩
  have HD:=Ab hD;have HE:Aa ((if (Ns.map fun x=>x%q).Nodup then 0 else 11)=if D then 0 else 11):=⟨by
   rw[<-hD]
   by_cases hd:(Ns.map fun x=>x%q).Nodup
   .rw[if_pos hd,decide_eq_true hd];rfl
   .rw[if_neg hd,decide_eq_false hd];rfl⟩
  rw[HE.out];clear hD HE;go_enter Tryz.func90,Tryz.ntmps90
  go_wp2_with fail
  refine(Jn HR.out HP.out he (by omega)).mono ?_;rintro en w1 ⟨rfl,hp1,hb1⟩;have HP1:=Ab hp1;have HB1:=Ab hb1;clear hp1 hb1
  go_wp2_with fail
  refine(Yj HP1.out HH.out hn (by omega)).mono ?_;rintro en w2 ⟨rfl,hb2⟩;have HB2:=Ab (Ae HB1.out hb2);rw[HD.out];clear hb2 HD
  cases D with
  | true=>
   go_wp2;go_ret;exact⟨rfl,HB2.out⟩
  | false=>
   go_wp2;go_ret;exact⟨rfl,HB2.out⟩
 .rw[if_pos h1];have h1':((n:Int)!=V)=true:=by rw[bne_iff_ne];omega
  clear h1;go_enter Tryz.func90,Tryz.ntmps90;go_wp2;go_ret;exact⟨rfl,Aw _ _⟩
def dH (q A B:Nat)(w:World)(en:Ending)(w':World):Prop :=
 ∃(x:Value) (I:Nat),en=.returned (.tuple #[x,.int .i64 (if Nat.gcd q B=1 then 0 else 6)])/\Gc q B I/\Fit 33 (A*I%q) x w'/\Below w.heap.size w w'
theorem eE {w:World}{r q e1 e2 A B:Nat}{u v:Value}(hR:Ring w r q 33)(hu:Fit e1 A u w)(hv:Fit e2 B v w)(h1:e1<=200)(h2:e2<=200) :
  Calls Tryz.prog 92 #[.pointer (some ⟨r,0,none⟩),u,v] w (dH q A B w):=by
 obtain⟨pa,na,ca,rfl,a1,a2⟩:=Av hu;obtain⟨pb,nb,cb,rfl,b1,b2⟩:=Av hv;have hbx:=Yd.mk3 w (.slice pa na ca) (.slice pb nb cb) (.slice none 0 0);have HR:=Ab (hR.below hbx.bel);have HA:=Ab ((Fit.of a1 a2).below hbx.bel);have HB:=Ab ((Fit.of b1 b2).below hbx.bel);have HX:=Ab hbx;have c1:=hbx.b1.cell;clear hR hu hv a1 b1 hbx;go_enter Tryz.func92,Tryz.ntmps92
 go_wp2_with fail
 refine(eP HR.out HB.out (by omega)).mono ?_;rintro en w1 ⟨x,I,rfl,⟨pi,ni,ci,rfl,i1,i2⟩,hI,hb1⟩;have hb2:Below w1.heap.size w1 (w1.alloc (.cells #[.slice pi ni ci] 36)):=Cu;have hbi:=Ad.made w1 (.slice pi ni ci);obtain⟨w2,hw2⟩:∃w2,w1.alloc (.cells #[.slice pi ni ci] 36)=w2:=⟨_,rfl⟩
 rw[hw2]at hb2 hbi
 have hb12:=Ae hb1 hb2;have HX2:=Ab (HX.out.later hb12);have HI2:=Ab (Fit.of (i1.below hb2) i2);have HA2:=Ab (HA.out.below hb12);have HR2:=Ab (HR.out.below hb12);have HIN:=Ab hI;have cc:=hbi.cell;have ca':=HX2.out.b0.cell;obtain⟨E,hE⟩:∃E:Int,(if Nat.gcd q B=1 then 0 else 6)=E:=⟨_,rfl⟩
 have HE:=Ab hE;simp only[hE];clear hb2 hbi hb12 i1 hI hb1 hE c1 HX HA HB HR
 go_wp2_with fail
 refine(Dv HR2.out HA2.out HI2.out (by omega) (by omega)).mono ?_;rintro en w3 ⟨_,rfl,⟨pm,nm,cm,rfl,m1,m2⟩,hb3⟩;have hx3:=HX2.out.later hb3;have k2:=hx3.b2.cell;have f2:=hx3.b2.free;have z2:=hx3.b2.lt;have HF:=Ab (Fit.of (m1.store hx3.b2 (.slice pm nm cm)) m2);have HBF:Aa (Below w.heap.size w (w3.setCell ⟨w.heap.size+1+1,0,none⟩ (.slice pm nm cm))):=⟨hx3.bel.setCell (by simp;omega) _⟩
 clear m1 hx3 hb3 cc ca';go_wp2;exact bodyPost_ret (v:=.tuple #[.agg #[.slice pm nm cm],.int .i64 E]) (by simp[results,Tryz.results92,go_sem,k2]) rfl ⟨_,I,by rw[HE.out],HIN.out,HF.out,HBF.out⟩
structure gF (d:Bool) (b:Nat) (p0:Option Addr) (n0 c0 N:Nat) (w:World):Prop where
 z:d=false->Ad w b (.slice p0 n0 c0)
 o:d=true->∃p n c,Ad w b (.slice p n c)/\Ag w p n c N
theorem gF.later {d:Bool}{b n0 c0 N:Nat}{p0:Option Addr}{w w':World}(h:gF d b p0 n0 c0 N w)(hb:Below w.heap.size w w'):gF d b p0 n0 c0 N w' :=
 ⟨fun e=>(h.z e).below hb (h.z e).lt,fun e=>let ⟨p,n,c,h1,h2⟩:=h.o e;⟨p,n,c,h1.below hb h1.lt,h2.below hb⟩⟩
theorem gF.put {b n0 c0 N:Nat}{p0:Option Addr}{w:World}(h:gF false b p0 n0 c0 N w){p:Option Addr}{n c:Nat}(hx:Ag w p n c N):∃q m k,Ad w b (.slice q m k)/\gF true b p0 n0 c0 N (w.setCell ⟨b,0,none⟩ (.slice p n c)) :=
 ⟨p0,n0,c0,h.z rfl,(fun e=>by cases e),fun _=>⟨p,n,c,(h.z rfl).set _,hx.store (h.z rfl) _⟩⟩
def Ny (w:World)(b N:Nat):Prop:=∃p n c,Ad w b (.slice p n c)/\Ag w p n c N
theorem fX (i:Nat)(hi:i<3):gP i<Am 3/\gQ i<Am 3/\gG i<Am 3:=by
 have h:=Pd i hi;have h1:gP i<Am 3:=Dh h.2.2.2.2.2 (by decide);have h2:=Rj i hi;refine⟨h1,?_,by omega⟩;rcases Nat.eq_zero_or_pos (Kf i) with h0|h0
 .rw[h0,Nat.mul_zero]at h2;omega
 .have:=Nat.le_mul_of_pos_right (gQ i) h0;omega
theorem Wy:∀i,i<3->(Dn i).length<=60
 | 0,_=>by decide
 | 1,_=>by decide
 | 2,_=>by decide
 | _+3,h=>by omega
def gZ (N M:Nat)(v:Value)(w:World):Prop:=∃(g:Nat) (x y:Option Addr×Nat×Nat),v=.slice (some ⟨g,0,none⟩) 2 2/\w.heap[g]? = some (.cells #[.slice x.1 x.2.1 x.2.2,.slice y.1 y.2.1 y.2.2] 36 (0,0))/\Gl w x N/\Gl w y M/\N<Am 33/\M<Am 33
theorem gZ.plist {N M g:Nat}{x y:Option Addr×Nat×Nat}{w:World}(h2:w.heap[g]? = some (.cells #[.slice x.1 x.2.1 x.2.2,.slice y.1 y.2.1 y.2.2] 36 (0,0)))(h3:Gl w x N)(h4:Gl w y M)(h5:N<Am 33)(h6:M<Am 33):Au w 33 (some ⟨g,0,none⟩) 2 2 [N,M]:=by
 refine⟨rfl,Ar _,by decide,(fun e=>by cases e),fun _=>⟨g,0,rfl,(Ga h2).1,fun i K hK=>?_⟩⟩
 match i,hK with
 | 0,hK=>cases hK;exact⟨x.1,x.2.1,x.2.2,by simp[World.cell?,h2],h3,h5⟩
 | 1,hK=>cases hK;exact⟨y.1,y.2.1,y.2.2,by simp[World.cell?,h2],h4,h6⟩
def Hx (hp ht:Nat->Nat->Nat)(x nothing:Nat):List Nat->Nat
 | []=>nothing
 | c::l=>hp (ht (Hx hp ht x nothing l) x) c
theorem Tk (q x:Nat):∀l,Hx (fun a b=>(a+b)%q) (fun a b=>a*b%q) x 0 l=Dq q x l
 | []=>rfl
 | c::l=>by
  show (Hx (fun a b=>(a+b)%q) (fun a b=>a*b%q) x 0 l*x%q+c)%q=(c+Dq q x l*x%q)%q;rw[Tk q x l,Nat.add_comm]
theorem Uh (q x:Nat):∀l,Dq q (x%q) l=Dq q x l
 | []=>rfl
 | c::l=>by
  show (c+Dq q (x%q) l*(x%q)%q)%q=(c+Dq q x l*x%q)%q;rw[Uh q x l,Nat.mul_mod_mod]
theorem Ny.below {w w':World}{b N:Nat}(h:Ny w b N)(hb:Below w.heap.size w w'):Ny w' b N :=
 let ⟨p,n,c,h1,h2⟩:=h
 ⟨p,n,c,h1.below hb h1.lt,h2.below hb⟩
structure iC (g:Nat) (pr:Value) (w:World) (h:Nat->Nat->Nat):Prop where
 out:∀(W:World) (e1 e2 A B:Nat) (u v:Value),Below w.heap.size w W->e1<=200->e2<=200->Fit e1 A u W->Fit e2 B v W->Calls Tryz.prog g #[pr,u,v] W fun en w'=>∃x,en=.returned x/\Fit 33 (h A B) x w'/\Below W.heap.size W w'
theorem fU {w:World}{r q:Nat}(hR:Ring w r q 33):iC 47 (.pointer (some ⟨r,0,none⟩)) w (fun a b=>(a+b)%q) :=
 ⟨fun W e1 e2 A B u v hW h1 h2 hu hv=>He (hR.below hW) hu hv (by omega) (by omega)⟩
theorem fT {w:World}{r q:Nat}(hR:Ring w r q 33):iC 48 (.pointer (some ⟨r,0,none⟩)) w (fun a b=>a*b%q) :=
 ⟨fun W e1 e2 A B u v hW h1 h2 hu hv=>Dv (hR.below hW) hu hv (by omega) (by omega)⟩
attribute [local go_sem] Oper.semAt_some
theorem Pr (w:World)(p:Option Addr)(n c:Nat) :
  Calls Tryz.prog 158 #[.slice p n c] w fun e w'=>e=.returned (.func (.func 208) #[] #[.pointer (some ⟨w.heap.size,0,none⟩)]) /\
   w'=w.alloc (.cells #[.slice p n c] 32):=by
 go_enter Tryz.func158,Tryz.ntmps158;go_wp2;go_ret;exact⟨rfl,rfl⟩
theorem Nn (n B l b1 b off len cap:Nat)(p:Option Addr)(us:List (Option Addr×Nat×Nat))(w0 W:World)(hr:Ln w0 p len cap b off us)(hlen:len<=1000000)(Kp:World->World->Prop)(hW:Below w0.heap.size w0 W)(hc1:W.cell? ⟨b1,0,none⟩=some (.slice p len cap))(hkp:∀A C,Kp A C->w0.heap.size<=A.heap.size->Below w0.heap.size A C/\∀u,A.cell? ⟨b1,0,none⟩=some u->C.cell? ⟨b1,0,none⟩=some u) :
  Xk Fence.wide n Tryz.prog 208 #[.pointer (some ⟨b1,0,none⟩)] B l len Kp (fun k vs _=>∃x,us[len-1-k]? = some x/\vs=#[.int .i64 ((len-1-k:Nat):Int),.agg #[sv x]]) W:=by
 intro J hJ hY h0;have HJ:Aa (OwnFrom B J):=⟨hJ⟩
 have HY:=Ab hY;have HK:=Ab hkp;have HR:=Ab hr;have HJ0:=Ab h0;have HW:=Ab hW;have HC1:=Ab hc1;clear hJ hY hkp hr h0 hW;refine callsIn_of_wp Tryz.func208 rfl trivial ?_ rfl;simp only[Tryz.ntmps208,List.size_toArray,List.length_cons,List.length_nil,Nat.reduceAdd,Nat.reduceSub,Array.replicate_succ,Array.replicate_zero,List.push_toArray,List.append_toArray,List.nil_append,List.cons_append]
 gi_wp2
 clear hc1
 gi_loopw [3] (fun i wr=>∃(k:Nat) (z:Int),k<=len/\i=.int .i64 z/\z=(len:Int)-1-k/\Aa (J k wr)/\Aa (Below w0.heap.size w0 wr)/\Aa (wr.cell? ⟨b1,0,none⟩=some (.slice p len cap))) (fun i _=>(intOf i+1).toNat)
 case atStart=>exact⟨0,(len:Int)-1,by omega,by go_num,by omega,HJ0,HW,HC1⟩
 case round=>
  obtain⟨k,z,hk,rfl,hz,HJk,HB,HC⟩:=hrel
  by_cases hkn:k<len
  .obtain⟨m,hm⟩:∃m,len-1-k=m:=⟨_,rfl⟩
   obtain rfl:z=(m:Nat):=by omega
   obtain⟨x,hx⟩:∃x,us[m]? = some x:=⟨us[m]'(by rw[HR.out.len];omega),List.getElem?_eq_getElem _⟩
   obtain⟨rfl,hblt⟩:=HR.out.ptr (by omega);obtain⟨q,mm,d⟩:=x;have hc:wr.cell? ⟨b,off+m,none⟩=some (.slice q mm d):=(HB.out.cell (p:=⟨b,off+m,none⟩) hblt).trans (HR.out.cell m _ hx);have hge:(0:Int)<=(m:Nat):=by omega
   have hml:(m:Int)<len:=by omega
   have c1:=HC.out;have HM:=Ab hm;obtain⟨fn,tmps,assign,body,hy,hR⟩:=HY.out k #[.int .i64 (m:Nat),.agg #[.slice q mm d]] wr hkn HJk.out ⟨_,by rw[hm];exact hx,by rw[hm];rfl⟩;have HRn:=Ab hR;clear hx hblt hR hz hm
   gi_wp2_with fail
   refine⟨fun h=>by simp[Fence.wide]at h,HRn.out.mono ?_⟩;rintro e W3 ⟨rfl,hJ3,hk3⟩;have HJ3:=Ab hJ3;have h3:=HK.out _ _ hk3 HB.out.size;have HB3:=Ab (HB.out.trans h3.1);have HC3:=Ab (h3.2 _ HC.out);clear hJ3 hk3 hy hc h3 c1
   gi_wp2
   go_roundw
   case rel=>exact⟨k+1,(m:Int)-1,by omega,by go_num,by have:=HM.out;omega,HJ3,HB3,HC3⟩
   case measure=>simp[intOf]
  .have hkN:k=len:=by omega
   subst hkN;obtain rfl:z = -1:=by omega
   gi_wp2
   go_end0
   exact⟨⟨_,rfl⟩,HJk.out⟩
structure RB (b B:Nat) (wx:World) (l:List (Nat×Obj)) (w:World):Prop where
 keep:Ao B wx w
 base:B<=w.heap.size
 blk:∀x∈l,w.heap[x.1]? = some x.2
 but:Dz b wx w
theorem RB.start {b B:Nat}{wx:World}{l:List (Nat×Obj)}(hB:B<=wx.heap.size)(hl:∀x∈l,wx.heap[x.1]? = some x.2):RB b B wx l wx.drew:=⟨Ao.drew _ _,hB,hl,(Dz.refl _ _).drew⟩
theorem RB.later {b B:Nat}{wx:World}{l:List (Nat×Obj)}{w w':World}(h:RB b B wx l w)(hb:Below w.heap.size w w'):RB b B wx l w' :=
 ⟨h.keep.trans (Ao.of hb h.base),Eu h.base hb.size,fun x hx=>by rw[hb.block x.1 (Ga (h.blk x hx)).1];exact h.blk x hx,h.but.trans (Dz.of hb)⟩
theorem RB.store {B:Nat}{wx:World}{l:List (Nat×Obj)}{w:World}{b m d:Nat}{q:Option Addr}(h:RB b B wx l w)(hb:Ad w b (.slice q m d))(hB:B<=b)(hn:∀x∈l,x.1≠b)(v:Value):RB b B wx l (w.setCell ⟨b,0,none⟩ v) :=
 ⟨h.keep.trans (Ao.store hb hB v),by simpa using h.base,fun x hx=>by
  have:=hn x hx;simp[World.setCell,Array.getElem?_modify,this.symm];exact h.blk x hx,h.but.trans (Dz.setCell _ _ _)⟩
theorem RB.of {b B:Nat}{wx:World}{l:List (Nat×Obj)}{w:World}(h:RB b B wx l w){c:Nat}{o:Obj}(hm:(c,o)∈l):w.heap[c]? = some o:=h.blk _ hm
theorem Dz.mid {b:Nat}{w w':World}(h:Dz b w w'){p:Nat->Prop}(hp:¬p b):Mid p w w':=⟨h.os,h.tape,h.output,h.size,fun k hk hpk=>h.block k hk (fun e=>hp (e ▸ hpk))⟩
theorem Dz.keepsFrom {b D:Nat}{w w':World}(h:Dz b w w'){cs:Array Value}{t:TypeId}{m:Nat×Nat}(hb:w.heap[b]? = some (.cells cs t m)):KeepsFrom D w w' :=
 ⟨h.size,fun k o _ hk ho=>by rw[h.block k (Ga hk).1 (fun e=>by subst e;rw[hb]at hk;cases hk;cases ho)];exact hk⟩
structure Pt (w:World) (b2 b3 b4 b5 b6 gp gt:Nat) (pp pt ux sl:Value) (N:Nat) (W:World):Prop where
 c0:Ad W w.heap.size ux
 c2:W.heap[b2]? = some (.cells #[.func (.func gp) #[pp] #[]] 185 (0,0))
 c3:W.heap[b3]? = some (.cells #[.func (.func gt) #[pt] #[]] 185 (0,0))
 c4:Ad W b4 (.slice none 0 0)
 c5:Ny W b5 N
 c6:W.heap[b6]? = some (.cells #[sl] 32 (0,0))
 bel:Below w.heap.size w W
theorem Pt.stable {w:World}{b2 b3 b4 b5 b6 gp gt N:Nat}{pp pt ux sl:Value}{W W':World}(h:Pt w b2 b3 b4 b5 b6 gp gt pp pt ux sl N W)(hb:Below W.heap.size W W'):Pt w b2 b3 b4 b5 b6 gp gt pp pt ux sl N W' :=
 ⟨h.c0.below hb h.c0.lt,by rw[hb.block b2 (Ga h.c2).1];exact h.c2,by rw[hb.block b3 (Ga h.c3).1];exact h.c3,h.c4.below hb h.c4.lt,h.c5.below hb,by rw[hb.block b6 (Ga h.c6).1];exact h.c6,Ae h.bel hb⟩
theorem Pt.own {w:World}{b2 b3 b4 b5 b6 gp gt:Nat}{N:Nat->Nat}{pp pt ux sl:Value}{D:Nat}(hD:w.heap.size<=D):OwnFrom D (fun k=>Pt w b2 b3 b4 b5 b6 gp gt pp pt ux sl (N k)):=fun k W W' row h hg hr=>by
 have hc:Calm W row:=fun j e=>(hr j e).2
 obtain⟨p,n,c,h1,h2⟩:=h.c5;exact⟨Cj hg hc h.c0,Cj hg hc h.c2,Cj hg hc h.c3,Cj hg hc h.c4,⟨p,n,c,Cj hg hc h1,h2.kept hg hc⟩,Cj hg hc h.c6,h.bel.grown hg h.bel.size (fun j e=>Eu hD (hr j e).1)⟩
end Go.Proofs.YtnbmfaihlefgfaaGreatDoor
