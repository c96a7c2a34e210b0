/- Powers in a ring. -/
import Derived.Test.YtokhckjemidbpaaGreatDoorRing
import Derived.Laws.Tables
import Derived.Laws.CopyOwn
set_option maxRecDepth 1000000
set_option maxHeartbeats 16000000
set_option linter.all false
namespace Go.Proofs.YtokhckjemidbpaaGreatDoor
open Go Go.RowKit Go.Proofs.YtokhckjemidbpaaGreatDoor.Flow
def Hh (E i:Nat):Nat:=E/16^i%16
def Gx (E:Nat):Nat:=(Ay E+3)/4
theorem aF (E:Nat):E<16^Gx E:=by
 have h1:=Og E;refine Dk h1 ?_;unfold Gx;rw[show (16:Nat)=2^4 from rfl,<-Nat.pow_mul];exact Nat.pow_le_pow_right (by omega) (by omega)
theorem Jj {w:World}{e N:Nat}{v:Value}(h:Fit e N v w)(he:e<=30000) :
  Calls Tryz.prog 146 #[v] w fun en w'=>en=.returned (.int .i64 (Gx N:Nat))/\Below w.heap.size w w':=by
 obtain⟨pa,na,ca,rfl,h1,h2⟩:=Aw h;have hbx:=Cw.mk1 w (.slice pa na ca) 37;have hl:=h1.len_le h2;have hb:=Hf h2;have hd:Hid (((Ay N:Nat):Int)+3=((Ay N+3:Nat):Int)):=Af (by omega);go_enter Tryz.func146,Tryz.ntmps146
 go_wp2_with fail
 refine(Dy _ pa na ca N (h1.below hbx.bel) (by omega)).mono ?_;rintro en w1 ⟨rfl,hb1⟩;obtain⟨z,hz⟩:∃z,Ay N=z:=⟨_,rfl⟩
 have HZ:Hid (Gx N=(z+3)/4):=Af (by unfold Gx;rw[hz]);rw[hz];rw[hz]at hb
 clear hz hd;go_wp2;go_ret;refine⟨congrArg (fun y:Int=>Ending.returned (.int .i64 y)) ?_,(hbx.later hb1).bel⟩;rw[HZ.out];omega
theorem fK (E a k:Nat):bit (E/2^a) k=bit E (a+k):=by
 unfold bit;rw[Nat.div_div_eq_div_mul,<-Nat.pow_add]
theorem cA:∀k:Fin 4,∀d:Fin 16,∀b:Fin 2,d.1<2^k.1->bits BinOp.or .i64 (d.1:Int) (wrap64 ((b.1:Int)*2^k.1))=((d.1+2^k.1*b.1:Nat):Int):=by decide +kernel
theorem Zf {k d b:Nat}(hk:k<4)(hd:d<2^k)(hb:b<=1):bits BinOp.or .i64 (d:Int) (wrap64 ((b:Int)*2^k))=((d+2^k*b:Nat):Int)/\d+2^k*b<16:=by
 have h1:2^k<=2^3:=Nat.pow_le_pow_right (by omega) (by omega);have h2:2^k*b<=2^k:=by
  rcases Nat.lt_or_ge b 1 with h|h
  .rw[show b=0 by omega];omega
  .rw[show b=1 by omega];omega
 exact⟨cA ⟨k,hk⟩ ⟨d,by omega⟩ ⟨b,by omega⟩ hd,by omega⟩
theorem Nn {w:World}{e N:Nat}{v:Value}(i:Nat)(h:Fit e N v w)(he:e<=30000)(hi:i<=1000000) :
  Calls Tryz.prog 147 #[v,.int .i64 i] w fun en w'=>en=.returned (.int .i64 (Hh N i:Nat))/\Below w.heap.size w w':=by
 obtain⟨pa,na,ca,rfl,h1,h2⟩:=Aw h;have hbx:=Cw.mk1 w (.slice pa na ca) 37;have hl:=h1.len_le h2;obtain⟨E,hE⟩:∃E,N/2^(4*i)=E:=⟨_,rfl⟩
 have HE:=Af hE;have HD:Hid (Hh N i=E%2^4):=Af (by
  rw[<-hE];unfold Hh;rw[show (16:Nat)^i=2^(4*i) by rw[show (16:Nat)=2^4 from rfl,<-Nat.pow_mul]])
 clear hE;go_enter Tryz.func147,Tryz.ntmps147;go_wp2
 go_loopw [5,7] (fun dv kv wr=>∃k d:Nat,k<=4/\kv=.int .i64 k/\dv=.int .i64 d/\Hid (E%2^k=d)/\d<16/\Cw w wr (.slice pa na ca)) (fun _ kv _=>4-(intOf kv).toNat)
 case atStart=>exact⟨0,0,by omega,rfl,rfl,Af (by rw[Nat.pow_zero,Nat.mod_one]),by omega,hbx⟩
 case round=>
  obtain⟨k,d,hk,rfl,rfl,hd,hd16,hbx'⟩:=hrel
  by_cases hk4:k<4
  .have c0:=hbx'.c0;have hb:Hid (Pq N (((i:Int)*4)+k)=(bit E k).toNat):=Af (by
    rw[<-HE.out,fK];unfold Pq;rw[if_pos (by omega)]
    congr 2
    omega)
   have hdk:d<2^k:=by rw[<-hd.out];exact Nat.mod_lt _ (Nat.pow_pos (by omega))
   have HDK:=Af hdk;obtain⟨b,hbv⟩:∃b,(bit E k).toNat=b:=⟨_,rfl⟩
   have hb1:b<=1:=by rw[<-hbv];exact Bool.toNat_le _
   have hn:Hid (E%2^(k+1)=d+2^k*b):=Af (by rw[cG,hd.out,hbv]);have HBV:=Af hbv;clear hdk hbv
   go_wp2_with fail
   refine(aN _ pa na ca N _ (h1.below hbx'.bel) (by omega) (by omega) (by omega)).mono ?_;rintro en w1 ⟨rfl,hbl⟩;rw[hb.out,HBV.out];replace hbx':=hbx'.later hbl;go_wp2;obtain⟨o1,o2⟩:=Zf hk4 HDK.out hb1;have O1:=Af o1;clear o1;go_roundw
   case rel=>exact⟨k+1,d+2^k*b,by omega,by go_num,by rw[O1.out],hn,o2,hbx'⟩
   case measure=>simp[intOf];omega
  .have hk':k=4:=by omega
   have HF:Hid (Hh N i=d):=Af (by rw[HD.out,<-hd.out,hk']);clear hk';go_wp2;go_ret;exact⟨by rw[HF.out];rfl,hbx'.bel⟩
def Ef (E:Nat):Nat->Nat
 | 0=>0
 | k+1=>max (Ef E k) (Hh E k)
theorem Vd (E i:Nat):Hh E i<16:=Nat.mod_lt _ (by omega)
theorem Qu (E:Nat):∀k,Ef E k<16
 | 0=>by simp[Ef]
 | k+1=>by have:=Qu E k;have:=Vd E k;simp only[Ef];omega
theorem Ve (E:Nat):∀k i,i<k->Hh E i<=Ef E k
 | k+1,i,h=>by
  simp only[Ef];rcases Nat.lt_or_ge i k with h1|h1
  .have:=Ve E k i h1;omega
  .rw[show i=k by omega];omega
theorem Pe {w:World}{e N:Nat}{v:Value}(h:Fit e N v w)(he:e<=30000) :
  Calls Tryz.prog 145 #[v] w fun en w'=>en=.returned (.int .i64 (Ef N (Gx N):Nat))/\Below w.heap.size w w':=by
 obtain⟨pa,na,ca,rfl,h1,h2⟩:=Aw h;have hbx:=Cw.mk1 w (.slice pa na ca) 37;have hbl:=Hf h2;obtain⟨L,hL⟩:∃L,Gx N=L:=⟨_,rfl⟩
 have hL9:L<=250000:=by rw[<-hL];unfold Gx;omega
 rw[hL];have HL:=Af hL;have hv:Fit e N (.agg #[.slice pa na ca]) (w.alloc (.cells #[.slice pa na ca] 37)):=h.below hbx.bel;clear hL;go_enter Tryz.func145,Tryz.ntmps145
 go_wp2_with fail
 refine(Jj hv he).mono ?_;rintro en w1 ⟨rfl,hb1⟩;rw[HL.out];have hbx1:=hbx.later hb1;go_wp2
 go_loopw [3,4,7] (fun dv _ kv wr=>∃k d:Nat,k<=L/\kv=.int .i64 k/\dv=.int .i64 d/\Hid (Ef N k=d)/\d<16/\Cw w wr (.slice pa na ca)) (fun _ _ kv _=>L-(intOf kv).toNat)
 case atStart=>exact⟨0,0,by omega,rfl,rfl,Af rfl,by omega,hbx1⟩
 case round=>
  obtain⟨k,d,hk,rfl,rfl,hd,hd16,hbx'⟩:=hrel
  by_cases hkL:k<L
  .have c0:=hbx'.c0
   go_wp2_with fail
   refine(Nn k (h.below hbx'.bel) he (by omega)).mono ?_;rintro en w2 ⟨rfl,hb2⟩;replace hbx':=hbx'.later hb2;obtain⟨x,hx⟩:∃x,Hh N k=x:=⟨_,rfl⟩
   have hx16:x<16:=by rw[<-hx];exact Vd N k
   have hn:Hid (Ef N (k+1)=max d x):=Af (by rw[Ef,hd.out,hx]);rw[hx];clear hx
   by_cases hdx:d<x
   .have hm:Hid (Ef N (k+1)=x):=Af (by rw[hn.out];omega);go_wp2;go_roundw
    case rel=>exact⟨k+1,x,by omega,by go_num,rfl,hm,hx16,hbx'⟩
    case measure=>simp[intOf];omega
   .have hm:Hid (Ef N (k+1)=d):=Af (by rw[hn.out];omega);go_wp2;go_roundw
    case rel=>exact⟨k+1,d,by omega,by go_num,rfl,hm,hd16,hbx'⟩
    case measure=>simp[intOf];omega
  .have hk':k=L:=by omega
   have HF:Hid (Ef N L=d):=Af (by rw[<-hk',hd.out]);clear hk';go_wp2;go_ret;exact⟨by rw[HF.out];rfl,hbx'.bel⟩
def Dm (w:World)(b:Nat)(us:List Value):Prop:=w.heap[b]? = some (.cells us.toArray 200 (0,0))
def Vs (us:List Value):Prop:=us.length=16/\∀j,j<16->∃p n c,us[j]? = some (.slice p n c)
theorem Dm.lt {w:World}{b:Nat}{us:List Value}(h:Dm w b us):b<w.heap.size:=(Ik h).1
theorem Dm.below {w w':World}{b B:Nat}{us:List Value}(h:Dm w b us)(hb:Below B w w')(hB:b<B):Dm w' b us:=by
 unfold Dm at *;rw[hb.block b hB];exact h
theorem Dm.cell {w:World}{b j:Nat}{us:List Value}{u:Value}(h:Dm w b us)(hj:us[j]? = some u):w.cell? ⟨b,j,none⟩=some u:=by
 unfold Dm at h;simp[World.cell?,h,hj]
theorem Dm.free {w:World}{b:Nat}{us:List Value}(h:Dm w b us)(j:Nat):w.frozen? ⟨b,j,none⟩=false:=by
 unfold Dm at h;simp[World.frozen?,h]
theorem Dm.set {w:World}{b:Nat}{us:List Value}(h:Dm w b us)(j:Nat)(u:Value):Dm (w.setCell ⟨b,j,none⟩ u) b (us.set j u):=by
 unfold Dm at *;simp[World.setCell,Array.getElem?_modify,h]
theorem Dm.other {w:World}{b b' j:Nat}{us:List Value}(h:Dm w b us)(hne:b≠b')(u:Value):Dm (w.setCell ⟨b',j,none⟩ u) b us:=by
 unfold Dm at *;rw[heap_setCell_other w ⟨b',j,none⟩ b u (fun e=>hne e)];exact h
theorem Ae.other_at {w:World}{b b' j:Nat}{u:Value}(h:Ae w b u)(hne:b≠b')(v:Value):Ae (w.setCell ⟨b',j,none⟩ v) b u:=by
 unfold Ae at *;rw[heap_setCell_other w ⟨b',j,none⟩ b v (fun e=>hne e)];exact h
theorem Vs.set {us:List Value}(h:Vs us)(i:Nat)(p:Option Addr)(n c:Nat):Vs (us.set i (.slice p n c)):=by
 refine⟨by simp[h.1],fun j hj=>?_⟩
 by_cases e:i=j
 .subst e;exact⟨p,n,c,by rw[List.getElem?_set_self (by rw[h.1];exact hj)]⟩
 .rw[List.getElem?_set_ne e];exact h.2 j hj
theorem Ah.apart {w:World}{p:Option Addr}{n c N b:Nat}{us:List Value}(h:Ah w p n c N)(hb:Dm w b us)(hs:Vs us)(h0:0<n):∀q,p=some q->q.block≠b:=by
 obtain⟨ws,r1,r2,r3,r4⟩:=h.ex;intro a ha hab;obtain⟨b',off,k1,k2,k3⟩:=r1.pos h0;rw[k1]at ha;cases ha
 have hbb:b'=b:=hab;subst hbb;have h1:=k3 0 (ws.getD 0 0) (by rw[Dv];simp[show 0<ws.length by rw[<-r1.len];exact h0]);rw[Nat.add_zero]at h1
 rcases Nat.lt_or_ge off 16 with h2|h2
 .obtain⟨q,m,d,hq⟩:=hs.2 off h2;rw[hb.cell hq]at h1
  cases h1
 .unfold Dm at hb;simp[World.cell?,hb,List.getElem?_eq_none (show us.length<=off by rw[hs.1];exact h2)]at h1
theorem Ah.empty {w w':World}{p:Option Addr}{c N:Nat}(h:Ah w p 0 c N)(hz:w'.heap.size=w.heap.size):Ah w' p 0 c N:=by
 obtain⟨ws,r1,r2,r3,r4⟩:=h.ex;refine⟨ws,⟨r1.len,r1.cap,r1.max,?_⟩,r2,r3,r4⟩;rcases r1.at_ with k|⟨b',off,k1,k2,_⟩
 .exact .inl k
 .refine .inr ⟨b',off,k1,by rw[hz];exact k2,fun i x hx=>?_⟩;have:ws=[]:=List.eq_nil_of_length_eq_zero r1.len.symm;rw[this]at hx;cases hx
theorem Ah.store_s {w:World}{p:Option Addr}{n c N b i:Nat}{us:List Value}(h:Ah w p n c N)(hb:Dm w b us)(hs:Vs us)(v:Value):Ah (w.setCell ⟨b,i,none⟩ v) p n c N:=by
 rcases Nat.eq_zero_or_pos n with rfl|h0
 .exact h.empty (by simp)
 .exact h.setCell (a:=⟨b,i,none⟩) (h.apart hb hs h0) v
theorem Ah.setRow_s {w:World}{p:Option Addr}{n c N b:Nat}{us:List Value}(h:Ah w p n c N)(hb:Dm w b us)(hs:Vs us)(cs:Array Value):Ah (w.setRow b cs) p n c N:=by
 rcases Nat.eq_zero_or_pos n with rfl|h0
 .exact h.empty (by simp)
 .have ha:=h.apart hb hs h0;obtain⟨ws,r1,r2,r3,r4⟩:=h.ex;refine⟨ws,⟨r1.len,r1.cap,r1.max,?_⟩,r2,r3,r4⟩;rcases r1.at_ with k|⟨b',off,k1,k2,k3⟩
  .exact .inl k
  .refine .inr ⟨b',off,k1,by simpa using k2,fun i x hx=>?_⟩;rw[cell_setRow_other w b cs ⟨b',off+i,none⟩ (show b'≠b from ha _ k1)];exact k3 i x hx
def Nx (us:List Value)(w:World)(M A k:Nat):Prop:=∀j,j<=k->∃p n c,us[j]? = some (.slice p n c)/\Ah w p n c (A^j%M)
theorem Nx.below {us:List Value}{w w':World}{M A k:Nat}(h:Nx us w M A k)(hb:Below w.heap.size w w'):Nx us w' M A k:=fun j hj=>
 let ⟨p,n,c,h1,h2⟩:=h j hj
 ⟨p,n,c,h1,h2.below hb⟩
structure eH (w wr:World) (u:Value) (M A k:Nat) (us nl:List Value):Prop where
 b0:Ae wr w.heap.size u
 b1:Dm wr (w.heap.size+1) nl
 b2:Dm wr (w.heap.size+1+1) us
 sls:Vs us
 pows:Nx us wr M A k
 bel:Below w.heap.size w wr
theorem eH.later {w wr w1:World}{u:Value}{M A k:Nat}{us nl:List Value}(h:eH w wr u M A k us nl)(hb:Below wr.heap.size wr w1):eH w w1 u M A k us nl :=
 ⟨h.b0.below hb h.b0.lt,h.b1.below hb h.b1.lt,h.b2.below hb h.b2.lt,h.sls,h.pows.below hb,Ab h.bel hb⟩
theorem eH.store {w wr:World}{u:Value}{M A k:Nat}{us nl:List Value}{p:Option Addr}{n c:Nat}(h:eH w wr u M A k us nl)(hk:k+1<16)(hx:Ah wr p n c (A^(k+1)%M)) :
  eH w (wr.setCell ⟨w.heap.size+1+1,k+1,none⟩ (.slice p n c)) u M A (k+1) (us.set (k+1) (.slice p n c)) nl :=
 ⟨h.b0.other_at (by omega) _,h.b1.other (by omega) _,h.b2.set _ _,h.sls.set _ _ _ _,fun j hj=>by
  by_cases e:j=k+1
  .subst e;exact⟨p,n,c,by rw[List.getElem?_set_self (by rw[h.sls.1];omega)],hx.store_s h.b2 h.sls _⟩
  .obtain⟨q,m,d,h1,h2⟩:=h.pows j (by omega);exact⟨q,m,d,by rw[List.getElem?_set_ne (fun e'=>e e'.symm)];exact h1,h2.store_s h.b2 h.sls _⟩,h.bel.setCell (by simp;omega) _⟩
theorem Tryz.info_arr:(Tryz.prog.info? 200).map (fun i=>i.size)=some 16:=by kernel_rfl
def Mu (M A k:Nat)(v:Value)(w:World):Prop:=∃us:List Value,v=.agg us.toArray/\Vs us/\Nx us w M A k
theorem bV {A k M:Nat}:A^k%M*A%M=A^(k+1)%M:=by
 rw[Nat.pow_succ,Nat.mod_mul_mod]
theorem Rz {w:World}{r M f A L:Nat}{v:Value}(hR:Ring w r M f)(h:Fit f A v w)(hL:L<=15) :
  Calls Tryz.prog 144 #[.pointer (some ⟨r,0,none⟩),v,.int .i64 L] w fun en w'=>∃x,en=.returned x/\Mu M A L x w'/\Below w.heap.size w w':=by
 obtain⟨pa,na,ca,rfl,h1,h2⟩:=Aw h;have hfew:=hR.few;obtain⟨nl,hnl⟩:∃nl:List Value,[.slice none 0 0,.slice none 0 0,.slice none 0 0,.slice none 0 0,.slice none 0 0,.slice none 0 0,.slice none 0 0,.slice none 0 0,.slice none 0 0,.slice none 0 0,.slice none 0 0,.slice none 0 0,.slice none 0 0,.slice none 0 0,.slice none 0 0,.slice none 0 0]=nl:=⟨_,rfl⟩
 have hnls:Vs nl:=by
  rw[<-hnl];refine⟨rfl,fun j hj=>⟨none,0,0,?_⟩⟩
  match j,hj with
  | 0,_=>exact rfl
  | 1,_=>exact rfl
  | 2,_=>exact rfl
  | 3,_=>exact rfl
  | 4,_=>exact rfl
  | 5,_=>exact rfl
  | 6,_=>exact rfl
  | 7,_=>exact rfl
  | 8,_=>exact rfl
  | 9,_=>exact rfl
  | 10,_=>exact rfl
  | 11,_=>exact rfl
  | 12,_=>exact rfl
  | 13,_=>exact rfl
  | 14,_=>exact rfl
  | 15,_=>exact rfl
  | k+16,hk=>exact absurd hk (by omega)
 have hw0:∃w0,((w.alloc (.cells #[.slice pa na ca] 37)).alloc (.cells #[.slice none 0 0,.slice none 0 0,.slice none 0 0,.slice none 0 0,.slice none 0 0,.slice none 0 0,.slice none 0 0,.slice none 0 0,.slice none 0 0,.slice none 0 0,.slice none 0 0,.slice none 0 0,.slice none 0 0,.slice none 0 0,.slice none 0 0,.slice none 0 0] 200)).alloc (.cells #[.slice none 0 0,.slice none 0 0,.slice none 0 0,.slice none 0 0,.slice none 0 0,.slice none 0 0,.slice none 0 0,.slice none 0 0,.slice none 0 0,.slice none 0 0,.slice none 0 0,.slice none 0 0,.slice none 0 0,.slice none 0 0,.slice none 0 0,.slice none 0 0] 200)=w0/\Ae w0 w.heap.size (.slice pa na ca)/\Dm w0 (w.heap.size+1) nl/\Dm w0 (w.heap.size+1+1) nl/\Below w.heap.size w w0:=by
  refine⟨_,rfl,?_,?_,?_,?_⟩
  .exact((Ae.made w _).below ((Bd _ _).alloc (Av _) _) (by simp)).below ((Bd _ _).alloc (Av _) _) (by simp;omega)
  .rw[<-hnl];have h9:Dm ((w.alloc (.cells #[.slice pa na ca] 37)).alloc (.cells #[.slice none 0 0,.slice none 0 0,.slice none 0 0,.slice none 0 0,.slice none 0 0,.slice none 0 0,.slice none 0 0,.slice none 0 0,.slice none 0 0,.slice none 0 0,.slice none 0 0,.slice none 0 0,.slice none 0 0,.slice none 0 0,.slice none 0 0,.slice none 0 0] 200)) (w.heap.size+1) [.slice none 0 0,.slice none 0 0,.slice none 0 0,.slice none 0 0,.slice none 0 0,.slice none 0 0,.slice none 0 0,.slice none 0 0,.slice none 0 0,.slice none 0 0,.slice none 0 0,.slice none 0 0,.slice none 0 0,.slice none 0 0,.slice none 0 0,.slice none 0 0]:=heap_alloc2_new w _ _;exact h9.below ((Bd _ _).alloc (Av _) _) h9.lt
  .rw[<-hnl];have h9:=heap_alloc_new ((w.alloc (.cells #[.slice pa na ca] 37)).alloc (.cells #[.slice none 0 0,.slice none 0 0,.slice none 0 0,.slice none 0 0,.slice none 0 0,.slice none 0 0,.slice none 0 0,.slice none 0 0,.slice none 0 0,.slice none 0 0,.slice none 0 0,.slice none 0 0,.slice none 0 0,.slice none 0 0,.slice none 0 0,.slice none 0 0] 200)) (.cells #[.slice none 0 0,.slice none 0 0,.slice none 0 0,.slice none 0 0,.slice none 0 0,.slice none 0 0,.slice none 0 0,.slice none 0 0,.slice none 0 0,.slice none 0 0,.slice none 0 0,.slice none 0 0,.slice none 0 0,.slice none 0 0,.slice none 0 0,.slice none 0 0] 200);have e9:((w.alloc (.cells #[.slice pa na ca] 37)).alloc (.cells #[.slice none 0 0,.slice none 0 0,.slice none 0 0,.slice none 0 0,.slice none 0 0,.slice none 0 0,.slice none 0 0,.slice none 0 0,.slice none 0 0,.slice none 0 0,.slice none 0 0,.slice none 0 0,.slice none 0 0,.slice none 0 0,.slice none 0 0,.slice none 0 0] 200)).heap.size=w.heap.size+1+1:=by simp
   rw[e9]at h9
   exact h9
  .exact(((Bd _ _).alloc (Av _) _).alloc (by simp) _).alloc (by simp;omega) _
 obtain⟨w0,hw0,k0,k1,k2,hbel0⟩:=hw0;have HW0:=Af hw0;have HNL:=Af hnl;have c20:nl[0]? = some (.slice none 0 0):=by rw[<-hnl];rfl
 have C20:=Af c20;clear hw0 hnl c20;go_enter Tryz.func144,Tryz.ntmps144
 go_wp2_with fail
 rw[HW0.out];refine(Ex w0).mono ?_;rintro en w1 ⟨x,rfl,hx,hb1⟩
 go_wp2_with fail
 refine(Eh (hR.below (Ab hbel0 hb1)) hx (by omega)).mono ?_;rintro en w2 ⟨y,rfl,hy,hb2⟩;obtain⟨p1,n1,c1,rfl,y1,y2⟩:=hy;have hb12:=Ab hb1 hb2;replace k0:=k0.below hb12 k0.lt;replace k1:=k1.below hb12 k1.lt;replace k2:=k2.below hb12 k2.lt;have hbel2:=Ab hbel0 hb12;have q1:=k2.cell C20.out;have q2:=k2.free 0;have hst0:eH w (w2.setCell ⟨w.heap.size+1+1,0,none⟩ (.slice p1 n1 c1)) (.slice pa na ca) M A 0 (nl.set 0 (.slice p1 n1 c1)) nl :=
  ⟨k0.other_at (by omega) _,k1.other (by omega) _,k2.set _ _,hnls.set _ _ _ _,fun j hj=>by
   obtain rfl:j=0:=by omega
   exact⟨p1,n1,c1,by rw[List.getElem?_set_self (by rw[hnls.1];omega)],by rw[Nat.pow_zero];exact y1.store_s k2 hnls _⟩,hbel2.setCell (by simp;omega) _⟩
 have HST0:=Af hst0;clear hx hb1 hb2 hb12 y1 y2 k0 k1 k2 hst0 hbel2 hbel0;go_wp2
 go_loopw [8,14] (fun _ kv wr=>∃(k:Nat) (us:List Value),k<=L/\kv=.int .i64 k/\eH w wr (.slice pa na ca) M A k us nl) (fun _ kv _=>L-(intOf kv).toNat)
 case atStart=>exact⟨0,_,by omega,rfl,HST0.out⟩
 case round=>
  obtain⟨k,us,hk,rfl,hst⟩:=hrel
  by_cases hkL:k<L
  .obtain⟨p,n,c,hu,hpn⟩:=hst.pows k (Av _);have HU:=Af hu;have HPN:=Af hpn;have HST:=Af hst;have hMf:=Af hR.lim;have hpl:Hid (A^k%M<Al f):=Af (Nat.lt_trans (Nat.mod_lt _ (by have:=hR.two;omega)) hMf.out);have j1:(k:Int)+1<16:=by omega
   have j2:(k:Int)<16:=by omega
   have j3:((k:Int)+1).toNat=k+1:=by omega
   have j4:0<=(k:Int)+1:=by omega
   have j5:IntKind.i64.wrap ((k:Int)+1)=(k:Int)+1:=IntWalk.i64_in _ (by omega);clear hu hpn hst;go_wp2;refine Aj (by kernel_rfl) (by kernel_rfl)
    [some (.int .i64 k),some (.int .i64 ((k:Int)+1)),some (.pointer (some ⟨r,0,none⟩)),some (.int .i64 k),some (.pointer (some ⟨w.heap.size+1+1,k,none⟩)),some (.agg #[.slice p n c]),some (.agg #[.slice pa na ca]),none,some (.pointer (some ⟨w.heap.size+1+1,k+1,none⟩)),none]
    [false,false,false,false,false,false,false,true,false,true] rfl
    (fun w1 w2=>Ap w.heap.size w1 w2)
    (fun D w'=>(D 9=false->eH w w' (.slice pa na ca) M A k us nl/\Ah w' p n c (A^k%M))/\(D 9=true->∃us',eH w w' (.slice pa na ca) M A (k+1) us' nl))
    (fun i v w'=>match i with
     | 7=>Cn (A^(k+1)%M) v w'
     | _=>True)
    ?_ ⟨fun _=>⟨HST.out.later ((Bd _ _).drew),HPN.out.below ((Bd _ _).drew)⟩,(fun a=>by cases a)⟩ ?_ ?_
   .intro i v w1 w2 hf hb;split at hf
    .exact Cn.keep hf hb
    .trivial
   .simp only[Bh,Nat.reduceAdd];refine⟨?_,?_,?_,?_,?_,?_,?_,?_,?_,?_,trivial⟩
    case refine_6=>
     intro D sp w' hD hW hdp hg;have h9:D 9=false:=hW 9 (mq (by kernel_rfl));have g1:=(hg.1 h9).1.b2.cell HU.out;simp[asked,Region.wanted,Oper.gives,execOp,Act.eval,Act.put,go_sem,g1]
    case refine_7=>
     intro D sp w' hD hW hdp hg;have h9:D 9=false:=hW 9 (mq (by kernel_rfl));have g1:=(hg.1 h9).1.b0.cell;simp[asked,Region.wanted,Oper.gives,execOp,Act.eval,Act.put,go_sem,g1]
    case refine_8=>
     intro D sp w' hD hW hdp hg;have h9:D 9=false:=hW 9 (mq (by kernel_rfl));have g1:=(hg.1 h9).1;have g2:=(hg.1 h9).2
     (with_reducible refine Ad (w1:=w') (f := 33) (args:=#[.pointer (some ⟨r,0,none⟩),.agg #[.slice p n c],.agg #[.slice pa na ca]]) ?_ ?_ ?_)
     .simp only[Region.wanted]
     .simp[Act.eval,Act.put,go_sem]
     .refine(Fy (hR.below g1.bel) (Fit.of g2 hpl.out) (h.below g1.bel) (by omega) (by omega)).mono ?_;rintro e w5 ⟨u,rfl,⟨p5,n5,c5,hu,hu1,_⟩,hb⟩;rw[bV]at hu1
      exact⟨u,rfl,Ap.of hb g1.bel.size,⟨p5,n5,c5,hu,hu1⟩,fun _=>⟨g1.later hb,g2.below hb⟩,(fun a=>by simp[h9]at a)⟩
    case refine_10=>
     intro D sp w' hD hW hdp hg;have hx:∃p n c,sp 7=.agg #[.slice p n c]/\Ah w' p n c (A^(k+1)%M):=(hdp 7 (mq (by kernel_rfl))).2
     (with_reducible refine Bc hx fun p hx1=>Bc hx1 fun n hx2=>Bc hx2 fun c hx3=>?_)
     have g0:=hx3.1;have g1:=(hg.1 hD).1;have g4:=g1.sls.2 (k+1) (by omega)
     (with_reducible refine Bc g4 fun p6 g5=>Bc g5 fun n6 g6=>Bc g6 fun c6 g7=>?_)
     have g2:=g1.b2.cell g7;have g3:=g1.b2.free (k+1)
     (with_reducible refine Aq (w1:=w'.setCell ⟨w.heap.size+1+1,k+1,none⟩ (.slice p n c)) ?_ ?_ ?_)
     .simp only[Region.wanted]
     .simp[execOp,Act.eval,Act.put,go_sem,g0,g2,g3]
     .exact⟨⟨(Bd _ _).setCell (by simp;omega) _,fun _ _ _ _ q=>q.store_s g1.b2 g1.sls _⟩,trivial,(fun a=>by simp at a),fun _=>⟨_,g1.store (by omega) hx3.2⟩⟩
    all_goals
     intro D sp w' hD hW hdp hg;simp[asked,Region.wanted,Oper.gives,execOp,Act.eval,Act.put,go_sem,j1,j2,j3,j4,j5]
   .intro sp w7 hsp hg;obtain⟨us',hst'⟩:=hg.2 rfl;have HST':=Af hst';clear hsp hg hst';simp only[Ak,Nat.reduceAdd];generalize sp 7=u7,sp 9=u9 at *
    go_simp
    go_wp2;go_roundw
    case rel=>exact⟨k+1,us',by omega,by go_num,HST'.out⟩
    case measure=>simp[intOf];omega
  .have hkl:Hid (k=L):=Af (by omega);have HST:=Af hst;have hi9:Hid ((Tryz.prog.info? 200).map (fun i=>i.size)=some us.toArray.size):=Af (by rw[Tryz.info_arr];simp[hst.sls.1]);have h16:Hid (nl.toArray.size=us.toArray.size):=Af (by simp[hst.sls.1,hnls.1]);have hone:Hid (us.toArray.all (·.oneCell')=true):=Af (by
    rw[Array.all_eq_true_iff_forall_mem];intro u hu;obtain⟨j,hj⟩:=List.getElem?_of_mem (by simpa using hu:u∈us);obtain⟨q,m,d,hq⟩:=hst.sls.2 j (by have:=(List.getElem?_eq_some_iff.1 hj).1;have:=hst.sls.1;omega);rw[hq]at hj;cases hj;rfl)
   clear hst
   go_wp2_with (first|(refine wpList_load_row rfl 200 _ rfl (w.heap.size+1+1) rfl 200 us.toArray (0,0) _ HST.out.b2 Tryz.underlying200 rfl hi9.out ?_)|(refine wpList_store_row rfl 200 _ _ rfl (w.heap.size+1) us.toArray rfl rfl 200 nl.toArray HST.out.b1 hi9.out h16.out hone.out ?_))
   have hend:Dm (wr.setRow (w.heap.size+1) us.toArray) (w.heap.size+1) us:=setRow_heap wr (w.heap.size+1) nl.toArray us.toArray 200 (0,0) HST.out.b1;refine bodyPost_ret (v:=.agg us.toArray) (results_cell_row Tryz.results144 _ _ (w.heap.size+1) 200 us.toArray (0,0) _ rfl hend Tryz.underlying200 rfl hi9.out) rfl ⟨_,rfl,⟨us,rfl,HST.out.sls,?_⟩,below_setRow HST.out.bel (by omega) _⟩;rw[<-hkl.out];intro j hj;obtain⟨q,m,d,g1,g2⟩:=HST.out.pows j hj;exact⟨q,m,d,g1,g2.setRow_s HST.out.b1 hnls _⟩
theorem Nx.keep {us:List Value}{w w':World}{M A k B:Nat}(h:Nx us w M A k)(q:Ap B w w'):Nx us w' M A k:=fun j hj=>
 let ⟨p,n,c,h1,h2⟩:=h j hj
 ⟨p,n,c,h1,q.nat _ _ _ _ h2⟩
theorem Mu.keep {M A k B:Nat}{v:Value}{w w':World}(h:Mu M A k v w)(q:Ap B w w'):Mu M A k v w' :=
 let ⟨us,h1,h2,h3⟩:=h
 ⟨us,h1,h2,h3.keep q⟩
theorem Ae.row_other {w:World}{b b':Nat}{u:Value}(h:Ae w b u)(hne:b≠b')(cs:Array Value):Ae (w.setRow b' cs) b u:=by
 unfold Ae at *;rw[setRow_other w b' b cs hne];exact h
def iD:List Value:=[.slice none 0 0,.slice none 0 0,.slice none 0 0,.slice none 0 0,.slice none 0 0,.slice none 0 0,.slice none 0 0,.slice none 0 0,.slice none 0 0,.slice none 0 0,.slice none 0 0,.slice none 0 0,.slice none 0 0,.slice none 0 0,.slice none 0 0,.slice none 0 0]
theorem cF:Vs iD:=by
 refine⟨rfl,fun j hj=>⟨none,0,0,?_⟩⟩
 match j,hj with
 | 0,_=>exact rfl
 | 1,_=>exact rfl
 | 2,_=>exact rfl
 | 3,_=>exact rfl
 | 4,_=>exact rfl
 | 5,_=>exact rfl
 | 6,_=>exact rfl
 | 7,_=>exact rfl
 | 8,_=>exact rfl
 | 9,_=>exact rfl
 | 10,_=>exact rfl
 | 11,_=>exact rfl
 | 12,_=>exact rfl
 | 13,_=>exact rfl
 | 14,_=>exact rfl
 | 15,_=>exact rfl
 | k+16,hk=>exact absurd hk (by omega)
def Yq (v:Value)(B M A L:Nat)(full:Bool)(w:World):Prop:=∃b us,v=.pointer (some ⟨b,0,none⟩)/\B<=b/\Dm w b us/\Vs us/\(full=true->Nx us w M A L)
theorem Yq.later {v:Value}{B M A L:Nat}{full:Bool}{w w':World}(h:Yq v B M A L full w)(hb:Below w.heap.size w w'):Yq v B M A L full w' :=
 let ⟨b,us,h1,h2,h3,h4,h5⟩:=h
 ⟨b,us,h1,h2,h3.below hb h3.lt,h4,fun hf=>(h5 hf).below hb⟩
theorem eP {us:List Value}(h:Vs us):us.toArray.all (·.oneCell')=true:=by
 rw[Array.all_eq_true_iff_forall_mem];intro u hu;obtain⟨j,hj⟩:=List.getElem?_of_mem (by simpa using hu:u∈us);obtain⟨q,m,d,hq⟩:=h.2 j (by have:=(List.getElem?_eq_some_iff.1 hj).1;have:=h.1;omega);rw[hq]at hj;cases hj;rfl
theorem Yw {w:World}{b:Nat}{us vs:List Value}(h:Dm w b us)(hu:Vs us)(hv:Vs vs) :
  (storeVar 200 ⟨b,0,none⟩ (.agg vs.toArray)).run Tryz.prog w=.ok () (w.setRow b vs.toArray) :=
 run_storeVar_row w b 200 200 us.toArray vs.toArray h (by rw[Tryz.info_arr];simp[hv.1]) (by simp[hu.1,hv.1]) (eP hv)
structure eC (w wr:World) (ua ue:Value) (b7 b8 M A L X:Nat) (us:List Value):Prop where
 nb:bF w wr ua ue (.slice none 0 0)
 arr:Dm wr b7 us
 sls:Vs us
 pows:Nx us wr M A L
 box:Gh wr b8 X
 lo7:w.heap.size+3<=b7
 lo8:w.heap.size+3<=b8
 ne:b7≠b8
theorem eC.later {w wr w1:World}{ua ue:Value}{b7 b8 M A L X:Nat}{us:List Value}(h:eC w wr ua ue b7 b8 M A L X us)(hb:Below wr.heap.size wr w1):eC w w1 ua ue b7 b8 M A L X us :=
 ⟨h.nb.later hb,h.arr.below hb h.arr.lt,h.sls,h.pows.below hb,h.box.below hb,h.lo7,h.lo8,h.ne⟩
theorem eC.store {w wr:World}{ua ue:Value}{b7 b8 M A L X Y:Nat}{us:List Value}{p:Option Addr}{n c:Nat}{q:Option Addr}{m d:Nat}(h:eC w wr ua ue b7 b8 M A L X us)(hb:Ae wr b8 (.slice q m d))(hy:Ah wr p n c Y) :
  eC w (wr.setCell ⟨b8,0,none⟩ (.slice p n c)) ua ue b7 b8 M A L Y us :=
 have l8:=h.lo8
 ⟨⟨h.nb.b0.other (by omega) _,h.nb.b1.other (by omega) _,h.nb.b2.other (by omega) _,h.nb.bel.setCell (by simp;omega) _⟩,h.arr.other h.ne _,h.sls,
  fun j hj=>let ⟨p',n',c',g1,g2⟩:=h.pows j hj;⟨p',n',c',g1,g2.store hb _⟩,⟨p,n,c,hb.set _,hy.store hb _⟩,h.lo7,h.lo8,h.ne⟩
theorem eO {X M q:Nat}:(X^2^q%M)*(X^2^q%M)%M=X^2^(q+1)%M:=by
 rw[<-Nat.mul_mod,<-Nat.pow_add,Nat.pow_succ]
 congr 2;omega
theorem dA {A E i M:Nat}:((A^(E/16^(i+1))%M)^2^4%M)*(A^Hh E i%M)%M=A^(E/16^i)%M:=by
 rw[<-Nat.mul_mod,Nat.mul_mod,<-Nat.pow_mod,<-Nat.mul_mod,<-Nat.pow_mul,<-Nat.pow_add]
 congr 2
 unfold Hh;rw[Nat.pow_succ 16 i,<-Nat.div_div_eq_div_mul];omega
theorem dB {A E i M:Nat}(h:Hh E i=0):(A^(E/16^(i+1))%M)^2^4%M=A^(E/16^i)%M:=by
 rw[<-Nat.pow_mod,<-Nat.pow_mul]
 congr 2
 unfold Hh at h;rw[Nat.pow_succ 16 i,<-Nat.div_div_eq_div_mul];omega
theorem Iw {w:World}{r M f e1 e2 A E:Nat}{v u:Value}(hR:Ring w r M f)(h:Fit e1 A v w)(k:Fit e2 E u w)(he1:e1<=300000)(he2:e2<=30000) :
  Calls Tryz.prog 82 #[.pointer (some ⟨r,0,none⟩),v,u] w fun en w'=>∃x,en=.returned x/\Fit f (A^E%M) x w'/\Below w.heap.size w w':=by
 obtain⟨pa,na,ca,rfl,h1,h2⟩:=Aw h;obtain⟨pb,nb,cb,rfl,k1,k2⟩:=Aw k;have hfew:=hR.few;have hbx:=bF.mk3 w (.slice pa na ca) (.slice pb nb cb) (.slice none 0 0);obtain⟨n,hn⟩:∃n,Gx E=n:=⟨_,rfl⟩
 obtain⟨L,hL⟩:∃L,Ef E n=L:=⟨_,rfl⟩
 have hL16:L<16:=by rw[<-hL];exact Qu E n
 have hn9:n<=250000:=by have:=Hf k2;rw[<-hn];unfold Gx;omega
 obtain⟨A',hA'⟩:∃A',A%M=A':=⟨_,rfl⟩
 have HN:=Af hn;have HL:=Af hL;have HA:=Af hA';have hlim:Hid (∀X,X%M<Al f):=Af (fun X=>Nat.lt_trans (Nat.mod_lt _ (by have:=hR.two;omega)) hR.lim);obtain⟨B0,hB0⟩:∃B0,w.heap.size+3=B0:=⟨_,rfl⟩
 have HB0:=Af hB0;have hB0':w.heap.size+3<=B0:=Nat.le_of_eq hB0;clear hn hL hA' hB0;go_enter Tryz.func82,Tryz.ntmps82;go_wp2;refine Am (by kernel_rfl) (by kernel_rfl)
  [some (.pointer (some ⟨r,0,none⟩)),some (.pointer (some ⟨r,0,none⟩)),some (.agg #[.slice pa na ca]),none,some (.agg #[.slice pb nb cb]),none,none,none,none]
  [false,false,false,true,false,true,true,true,true] rfl
  (fun w1 w2=>Ap B0 w1 w2)
  (fun D sp w'=>(bF w w' (.slice pa na ca) (.slice pb nb cb) (.slice none 0 0)/\B0<=w'.heap.size)/\(D 7=true->Yq (sp 7) B0 M A' L (D 8) w'))
  (fun i v w'=>match i with
   | 3=>Fit f A' v w'
   | 5=>v=.int .i64 L
   | 6=>Mu M A' L v w'
   | _=>True)
  ?_ ⟨⟨hbx.later ((Bd _ _).drew),by simpa using Nat.le_of_eq HB0.out.symm⟩,(fun a=>by cases a)⟩ ?_ ?_
 .intro i v w1 w2 hf hb;split at hf
  .exact Fit.keep hf hb
  .exact hf
  .exact Mu.keep hf hb
  .trivial
 .simp only[Bg,Nat.reduceAdd];refine⟨?_,?_,?_,?_,?_,?_,?_,?_,?_,trivial⟩
  case refine_4=>
   intro D sp w' hD hW hdp hg
   (with_reducible refine Ad (w1:=w') (f := 31) (args:=#[.pointer (some ⟨r,0,none⟩),.agg #[.slice pa na ca]]) ?_ ?_ ?_)
   .simp only[Region.wanted]
   .simp[Act.eval,Act.put,go_sem]
   .refine(Eh (hR.below hg.1.1.bel) (h.below hg.1.1.bel) (by omega)).mono ?_;rintro e w5 ⟨u,rfl,hu,hb⟩;rw[HA.out]at hu
    exact⟨u,rfl,Ap.of hb hg.1.2,hu,⟨hg.1.1.later hb,Eo hg.1.2 hb.size⟩,by simpa [upd]using fun a=>(hg.2 a).later hb⟩
  case refine_6=>
   intro D sp w' hD hW hdp hg
   (with_reducible refine Ad (w1:=w') (f := 145) (args:=#[.agg #[.slice pb nb cb]]) ?_ ?_ ?_)
   .simp only[Region.wanted]
   .simp[Act.eval,Act.put,go_sem]
   .refine(Pe (k.below hg.1.1.bel) (by omega)).mono ?_;rintro e w5 ⟨rfl,hb⟩;rw[HN.out,HL.out];exact⟨_,rfl,Ap.of hb hg.1.2,rfl,⟨hg.1.1.later hb,Eo hg.1.2 hb.size⟩,by simpa [upd]using fun a=>(hg.2 a).later hb⟩
  case refine_7=>
   intro D sp w' hD hW hdp hg;have g3:Fit f A' (sp 3) w':=(hdp 3 (mq (by kernel_rfl))).2;have g5:sp 5=.int .i64 L:=(hdp 5 (mq (by kernel_rfl))).2
   (with_reducible refine Ad (w1:=w') (f := 144) (args:=#[.pointer (some ⟨r,0,none⟩),sp 3,.int .i64 L]) ?_ ?_ ?_)
   .simp only[Region.wanted]
   .simp[Act.eval,Act.put,go_sem,g5]
   .refine(Rz (hR.below hg.1.1.bel) g3 (by omega)).mono ?_;rintro e w5 ⟨u,rfl,hu,hb⟩;exact⟨u,rfl,Ap.of hb hg.1.2,hu,⟨hg.1.1.later hb,Eo hg.1.2 hb.size⟩,by simpa [upd]using fun a=>(hg.2 a).later hb⟩
  case refine_8=>
   intro D sp w' hD hW hdp hg;have h9:D 8=false:=hW 8 (mq (by kernel_rfl))
   (with_reducible refine Ai (w1:=w'.alloc (.cells #[.slice none 0 0,.slice none 0 0,.slice none 0 0,.slice none 0 0,.slice none 0 0,.slice none 0 0,.slice none 0 0,.slice none 0 0,.slice none 0 0,.slice none 0 0,.slice none 0 0,.slice none 0 0,.slice none 0 0,.slice none 0 0,.slice none 0 0,.slice none 0 0] 200)) (v:=.pointer (some ⟨w'.heap.size,0,none⟩)) ?_ ?_ ?_)
   .simp only[Region.wanted]
   .simp[execOp,go_sem]
   .have hb:Below w'.heap.size w' (w'.alloc (.cells #[.slice none 0 0,.slice none 0 0,.slice none 0 0,.slice none 0 0,.slice none 0 0,.slice none 0 0,.slice none 0 0,.slice none 0 0,.slice none 0 0,.slice none 0 0,.slice none 0 0,.slice none 0 0,.slice none 0 0,.slice none 0 0,.slice none 0 0,.slice none 0 0] 200)):=By;refine⟨Ap.of hb hg.1.2,trivial,⟨hg.1.1.later hb,Eo hg.1.2 hb.size⟩,fun _=>⟨w'.heap.size,iD,by simp[upd],hg.1.2,heap_alloc_new w' _,cF,fun a=>by simp[h9]at a⟩⟩
  case refine_9=>
   intro D sp w' hD hW hdp hg;have hx:∃us:List Value,sp 6=.agg us.toArray/\Vs us/\Nx us w' M A' L:=(hdp 6 (mq (by kernel_rfl))).2;have hy:∃b us,sp 7=.pointer (some ⟨b,0,none⟩)/\B0<=b/\Dm w' b us/\Vs us/\(D 8=true->Nx us w' M A' L):=hg.2 (hdp 7 (mq (by kernel_rfl))).1
   (with_reducible refine Bc hx fun us hx1=>Bc hy fun b hy1=>Bc hy1 fun vs hy2=>?_)
   have g1:=hx1.1;have g2:=hy2.1;have g3:=hy2.2.1;have g4:=hy2.2.2.1;have g5:=hy2.2.2.2.1;have g6:=Yw g4 g5 hx1.2.1
   (with_reducible refine Aq (w1:=w'.setRow b us.toArray) ?_ ?_ ?_)
   .simp only[Region.wanted]
   .simp[execOp,Act.eval,Act.put,g1,g2,Instr.storeAt,Instr.sureAddr,Result.andThen_ok,g6]
   .have hq:Dm (w'.setRow b us.toArray) b us:=setRow_heap w' b vs.toArray us.toArray 200 (0,0) g4;have hkp:Ap B0 w' (w'.setRow b us.toArray):=⟨below_setRow (Bd _ _) g3 _,fun _ _ _ _ q=>q.setRow_s g4 g5 _⟩
    refine⟨hkp,trivial,⟨⟨(hg.1.1.b0).row_other (by omega) _,(hg.1.1.b1).row_other (by omega) _,(hg.1.1.b2).row_other (by omega) _,below_setRow hg.1.1.bel (by omega) _⟩,by simpa using hg.1.2⟩,fun _=>⟨b,us,by simpa [upd]using g2,g3,hq,hx1.2.1,fun _=>hx1.2.2.keep hkp⟩⟩
  all_goals
   intro D sp w' hD hW hdp hg;have c0:=hg.1.1.b0.cell;have c1:=hg.1.1.b1.cell;simp[asked,Region.wanted,Oper.gives,execOp,Act.eval,Act.put,go_sem,c0,c1]
 .intro sp w3 hsp hg;obtain⟨b7,us,e7,lo7,harr,hsls,hpw⟩:=hg.2 rfl;replace hpw:=hpw rfl;have hnb:=hg.1.1;clear hsp hg;simp only[Ak,Nat.reduceAdd];rw[e7];clear e7;generalize sp 3=u3,sp 5=u5,sp 6=u6,sp 8=u8 at *
  go_simp
  go_wp2_with fail
  refine(Ex w3).mono ?_;rintro en w4 ⟨x,rfl,hx,hb4⟩
  go_wp2_with fail
  refine(Eh (hR.below (Ab hnb.bel hb4)) hx (by omega)).mono ?_;rintro en w5 ⟨y,rfl,hy,hb5⟩;obtain⟨p1,n1,c1,rfl,y1,y2⟩:=hy;have hb45:=Ab hb4 hb5;have hbA:Below w5.heap.size w5 (w5.alloc (.cells #[.slice p1 n1 c1] 37)):=By;have hb3A:=Ab hb45 hbA;have l5:b7<w5.heap.size:=Dk harr.lt hb45.size;have hst:eC w (w5.alloc (.cells #[.slice p1 n1 c1] 37)) (.slice pa na ca) (.slice pb nb cb) b7 w5.heap.size M A' L (1%M) us :=
   ⟨hnb.later hb3A,harr.below hb3A harr.lt,hsls,hpw.below hb3A,⟨p1,n1,c1,Ae.made w5 _,y1.below hbA⟩,by omega,by omega,by omega⟩
  have HST:=Af hst;have c1':=hst.nb.b1.cell;clear hx hb4 hb5 y1 y2 hb45 hbA hb3A hnb harr hpw hst
  go_wp2_with fail
  refine(Jj (k.below HST.out.nb.bel) (by omega)).mono ?_;rintro en w6 ⟨rfl,hb6⟩;rw[HN.out];have HST6:=Af (HST.out.later hb6);clear c1' HST hb6;obtain⟨b8,hb8⟩:∃b8,w5.heap.size=b8:=⟨_,rfl⟩
  rw[hb8]at HST6
  go_wp2;clear hb8
  go_loopw [9,10,31] (fun iv _ _ wr=>∃m:Nat,m<=n/\iv=.int .i64 ((m:Int)-1)/\eC w wr (.slice pa na ca) (.slice pb nb cb) b7 b8 M A' L (A'^(E/16^m)%M) us) (fun iv _ _ _=>(intOf iv+1).toNat)
  case atStart=>
   refine⟨n,Av _,rfl,?_⟩;have e0:A'^(E/16^n)%M=1%M:=by
    rw[Nat.div_eq_of_lt (by rw[<-HN.out];exact aF E),Nat.pow_zero]
   rw[e0];exact HST6.out
  case round=>
   obtain⟨m,hm,rfl,hst⟩:=hrel
   cases m with
   | zero=>
    have hres:Hid (A'^(E/16^0)%M=A^E%M):=Af (by
     rw[Nat.pow_zero,Nat.div_one,<-HA.out,<-Nat.pow_mod])
    obtain⟨p8,n8,c8,x8,y8⟩:=hst.box;have cc:=x8.cell;have d2:=hst.nb.b2.cell;have f2:=hst.nb.b2.free;have HST:=Af hst;have HY8:=Af y8;have z2:=hst.nb.b2.lt;clear hst y8;go_wp2;refine bodyPost_ret (v:=.agg #[.slice p8 n8 c8]) (by simp[results,Tryz.results82,go_sem,d2]) rfl ⟨_,rfl,Fit.of ?_ (hlim.out _),HST.out.nb.bel.setCell (by simp;omega) _⟩;rw[<-hres.out];exact HY8.out.store HST.out.nb.b2 _
   | succ i=>
    have hi1:(((i+1:Nat):Int)-1)=(i:Int):=by omega
    simp only[hi1];obtain⟨X,hX⟩:∃X,A'^(E/16^(i+1))%M=X:=⟨_,rfl⟩
    have hXX:X^2^0%M=X:=by rw[Nat.pow_zero,Nat.pow_one,<-hX,Nat.mod_mod]
    rw[hX]at hst
    have HX:=Af hX;have HXX:=Af hXX;have HSTo:=Af hst;obtain⟨wo,hwo⟩:∃wo:World,wo=wr:=⟨_,rfl⟩
    subst hwo;clear hX hXX hst hi1;go_wp2
    go_loopw [31] (fun qv wr=>∃q:Nat,q<=4/\qv=.int .i64 q/\eC w wr (.slice pa na ca) (.slice pb nb cb) b7 b8 M A' L (X^2^q%M) us) (fun qv _=>4-(intOf qv).toNat)
    case atStart=>exact⟨0,by omega,rfl,by rw[HXX.out];exact HSTo.out⟩
    case round=>
     obtain⟨q,hq,rfl,hst⟩:=hrel
     by_cases hq4:q<4
     .obtain⟨p8,n8,c8,x8,y8⟩:=hst.box;have cc:=x8.cell;have HST:=Af hst;have HX8:=Af x8;have HY8:=Af y8;clear hst x8 y8
      go_wp2_with fail
      refine(Fy (hR.below HST.out.nb.bel) (Fit.of HY8.out (hlim.out _)) (Fit.of HY8.out (hlim.out _)) (by omega) (by omega)).mono ?_;rintro en w1 ⟨u,rfl,⟨p9,n9,c9,rfl,hu,_⟩,hb⟩;rw[eO]at hu
      have x9:=HX8.out.below hb HX8.out.lt;have e1:=x9.cell;have e2:=x9.free;have HNX:=Af ((HST.out.later hb).store x9 hu);clear hu hb cc;go_wp2;go_roundw
      case rel=>exact⟨q+1,by omega,by go_num,HNX.out⟩
      case measure=>simp[intOf];omega
     .have hq5:Hid (q=4):=Af (by omega);have HST:=Af hst;have c1:=hst.nb.b1.cell;clear hst
      go_wp2_with fail
      refine(Nn i (k.below HST.out.nb.bel) (by omega) (by omega)).mono ?_;rintro en w1 ⟨rfl,hb⟩;have hst:=HST.out.later hb;rw[hq5.out]at hst
      obtain⟨d,hd⟩:∃d,Hh E i=d:=⟨_,rfl⟩
      have hdL:d<=L:=by
       rw[<-hd,<-HL.out];exact Ve E n i (by omega)
      rw[hd];have HD:=Af hd;clear hd hb c1
      by_cases hd0:d=0
      .have hnx:Hid (X^2^4%M=A'^(E/16^i)%M):=Af (by
        rw[<-HX.out];exact dB (by rw[HD.out];exact hd0))
       have HS:=Af hst;clear hst;subst hd0;go_wp2;go_roundw
       case rel=>exact⟨i,by omega,rfl,by rw[<-hnx.out];exact HS.out⟩
       case measure=>simp[intOf]
      .have hnx:Hid ((X^2^4%M)*(A'^d%M)%M=A'^(E/16^i)%M):=Af (by
        rw[<-HX.out,<-HD.out];exact dA)
       obtain⟨p8,n8,c8,x8,y8⟩:=hst.box;obtain⟨p7,n7,c7,x7,y7⟩:=hst.pows d hdL;have HS:=Af hst;have HX7:=Af x7;have HX8:=Af x8;have HY7:=Af y7;have HY8:=Af y8;have g1:(d:Int)<16:=by omega
       have g2:0<(d:Int):=by omega
       clear hst x7 x8 y7 y8;go_wp2;refine Aj (by kernel_rfl) (by kernel_rfl)
        [some (.pointer (some ⟨r,0,none⟩)),some (.agg #[.slice p8 n8 c8]),some (.int .i64 d),some (.pointer (some ⟨b7,d,none⟩)),some (.agg #[.slice p7 n7 c7]),none,none]
        [false,false,false,false,false,true,true] rfl
        (fun w1 w2=>Ap w.heap.size w1 w2)
        (fun D w'=>(D 6=false->eC w w' (.slice pa na ca) (.slice pb nb cb) b7 b8 M A' L (X^2^4%M) us/\Ae w' b8 (.slice p8 n8 c8)/\Ah w' p8 n8 c8 (X^2^4%M)/\Ah w' p7 n7 c7 (A'^d%M))/\(D 6=true->eC w w' (.slice pa na ca) (.slice pb nb cb) b7 b8 M A' L (A'^(E/16^i)%M) us))
        (fun i' v w'=>match i' with
         | 5=>Cn (A'^(E/16^i)%M) v w'
         | _=>True)
        ?_ ⟨fun _=>⟨HS.out.later ((Bd _ _).drew),HX8.out.below ((Bd _ _).drew) HX8.out.lt,HY8.out.below ((Bd _ _).drew),HY7.out.below ((Bd _ _).drew)⟩,(fun a=>by cases a)⟩ ?_ ?_
       .intro i' v w1 w2 hf hb;split at hf
        .exact Cn.keep hf hb
        .trivial
       .simp only[Bh,Nat.reduceAdd];refine⟨?_,?_,?_,?_,?_,?_,?_,trivial⟩
        case refine_2=>
         intro D sp w' hD hW hdp hg;have h9:D 6=false:=hW 6 (mq (by kernel_rfl));have j1:=(hg.1 h9).2.1.cell;simp[asked,Region.wanted,Oper.gives,execOp,Act.eval,Act.put,go_sem,j1]
        case refine_5=>
         intro D sp w' hD hW hdp hg;have h9:D 6=false:=hW 6 (mq (by kernel_rfl));have j1:=(hg.1 h9).1.arr.cell HX7.out;simp[asked,Region.wanted,Oper.gives,execOp,Act.eval,Act.put,go_sem,j1]
        case refine_6=>
         intro D sp w' hD hW hdp hg;have h9:D 6=false:=hW 6 (mq (by kernel_rfl));have j1:=hg.1 h9
         (with_reducible refine Ad (w1:=w') (f := 33) (args:=#[.pointer (some ⟨r,0,none⟩),.agg #[.slice p8 n8 c8],.agg #[.slice p7 n7 c7]]) ?_ ?_ ?_)
         .simp only[Region.wanted]
         .simp[Act.eval,Act.put,go_sem]
         .refine(Fy (hR.below j1.1.nb.bel) (Fit.of j1.2.2.1 (hlim.out _)) (Fit.of j1.2.2.2 (hlim.out _)) (by omega) (by omega)).mono ?_;rintro e w5 ⟨u,rfl,⟨p5,n5,c5,hu,hu1,_⟩,hb⟩;rw[hnx.out]at hu1
          exact⟨u,rfl,Ap.of hb j1.1.nb.bel.size,⟨p5,n5,c5,hu,hu1⟩,fun _=>⟨j1.1.later hb,j1.2.1.below hb j1.2.1.lt,j1.2.2.1.below hb,j1.2.2.2.below hb⟩,(fun a=>by simp[h9]at a)⟩
        case refine_7=>
         intro D sp w' hD hW hdp hg;have hx:∃p n c,sp 5=.agg #[.slice p n c]/\Ah w' p n c (A'^(E/16^i)%M):=(hdp 5 (mq (by kernel_rfl))).2
         (with_reducible refine Bc hx fun p hx1=>Bc hx1 fun n hx2=>Bc hx2 fun c hx3=>?_)
         have j0:=hx3.1;have j1:=hg.1 hD;have j2:=j1.2.1.cell;have j3:=j1.2.1.free
         (with_reducible refine Aq (w1:=w'.setCell ⟨b8,0,none⟩ (.slice p n c)) ?_ ?_ ?_)
         .simp only[Region.wanted]
         .simp[execOp,Act.eval,Act.put,go_sem,j0,j2,j3]
         .have l8:=j1.1.lo8;exact⟨Ap.store j1.2.1 (by omega) _,trivial,(fun a=>by simp at a),fun _=>j1.1.store j1.2.1 hx3.2⟩
        all_goals
         intro D sp w' hD hW hdp hg;simp[asked,Region.wanted,Oper.gives,execOp,Act.eval,Act.put,go_sem,g1]
       .intro sp w7 hsp hg;have HE:=Af (hg.2 rfl);clear hsp hg;simp only[Ak,Nat.reduceAdd];generalize sp 5=u5' at *;generalize sp 6=u6' at *
        go_simp
        go_wp2;go_roundw
        case rel=>exact⟨i,by omega,rfl,HE.out⟩
        case measure=>simp[intOf]
end Go.Proofs.YtokhckjemidbpaaGreatDoor
