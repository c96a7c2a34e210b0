/- The product of powers of a group, bit by bit of all exponents at once. -/
import Derived.Test.YtnbmfaihlefgfaaGreatDoorGqH
set_option maxRecDepth 1000000
set_option maxHeartbeats 16000000
set_option linter.all false
namespace Go.Proofs.YtnbmfaihlefgfaaGreatDoor
open Go Go.RowKit Go.Proofs.YtnbmfaihlefgfaaGreatDoor.Flow
theorem Bd.lim {w:World}{e:Nat}{p:Option Addr}{n c:Nat}{Ns:List Nat}(h:Bd w e p n c Ns):∀N∈Ns,N<Am e:=fun N hN=>by
 obtain⟨i,hi⟩:=List.getElem?_of_mem hN;obtain⟨b,off,_,_,h3⟩:=h.at_ (by rw[h.len];have:=(List.getElem?_eq_some_iff.1 hi).1;omega)
 obtain⟨_,_,_,_,_,h4⟩:=h3 i N hi;exact h4
theorem Dx.lim {w:World}{e:Nat}{p:Option Addr}{n c:Nat}{l:List Bk}(h:Dx w e p n c l):∀s∈l,s.n<Am e/\s.base<Am e/\∀q∈s.ps,q<Am e:=fun s hs=>by
 obtain⟨i,hi⟩:=List.getElem?_of_mem hs;obtain⟨b,off,_,_,h3⟩:=h.at_ (by rw[h.len];have:=(List.getElem?_eq_some_iff.1 hi).1;omega)
 obtain⟨_,_,_,_,_,_,_,_,_,_,_,_,_,k4,_,k6,k7⟩:=h3 i s hi;exact⟨k4,k6,k7.lim⟩
theorem Vb {e N:Nat}(he:e<=32)(h:N<Am e):¬1024<Aj N:=by
 have:Aj N<=32*e:=(Ba N _).2 (by
  have:Am e=2^(32*e):=by unfold Am;rw[Nat.pow_mul]
  rw[<-this];exact h)
 omega
theorem fB (w:World)(e f:Nat)(l:List Bk)(b:Nat)(v:Value)(N:Nat)(hb:b<w.heap.size)(hc:w.cell? ⟨b,0,none⟩=some v)(hv:Fit f N (.agg #[v]) w)(he:e<=900000)(hf:f<=900000) :
  aY 191 #[.pointer (some ⟨b,0,none⟩)] w e l (fun s=>decide (s.n=N)):=by
 refine⟨fun W s u hbw _ hu=>?_⟩;have hc':W.cell? ⟨b,0,none⟩=some v:=(hbw.cell (p:=⟨b,0,none⟩) hb).trans hc;have hv':=hv.below hbw;obtain⟨q0,m0,d0,q1,m1,d1,q2,m2,d2,rfl,h0,l0,h1,l1,h2⟩:=hu.ex;have hbW:b<W.heap.size:=Dj hb hbw.size;have hbx:Below W.heap.size W (W.alloc (.cells #[.slice q0 m0 d0,.slice q1 m1 d1,.slice q2 m2 d2] 182)):=Co;have HBX3:=Ac (Oa.made 182 W (.slice q0 m0 d0) (.slice q1 m1 d1) (.slice q2 m2 d2));obtain⟨wa,hwa⟩:∃wa,W.alloc (.cells #[.slice q0 m0 d0,.slice q1 m1 d1,.slice q2 m2 d2] 182)=wa:=⟨_,rfl⟩
 rw[hwa]at hbx HBX3
 have hc2:wa.cell? ⟨b,0,none⟩=some v:=(hbx.cell (p:=⟨b,0,none⟩) hbW).trans hc';have HA:=Ac ((Fit.of h0 l0).below hbx);have HV:=Ac (hv'.below hbx);have HX:=Ac hbx;have hca:=HBX3.out.cells.1;obtain⟨pv,nv,cv,hev,_,_⟩:=hv;cases hev;obtain⟨SN,hSN⟩:∃x,s.n=x:=⟨_,rfl⟩
 rw[hSN]at HA
 have HSN:=Ac hSN;clear hSN hu h0 l0 h1 l1 h2 hbx hv' hc' hc;go_enter Tryz.func191,Tryz.ntmps191
 go_wp2_with fail
 refine(Uv HA.out HV.out he hf).mono ?_;rintro en w1 ⟨_,rfl,rfl,hb1⟩;have HB1:=Ac (Ae HX.out hb1);have e0:((Bn SN N:Int)==0)=decide (SN=N):=by
  by_cases hnm:SN=N
  .simp[hnm,Cr.2]
  .have:Bn SN N≠0:=fun h0=>hnm (Cr.1 h0)
   simp[hnm,this]
 have HE:=Ac e0;clear e0 hb1 hc2 hca;generalize Bn SN N=K at *;go_wp2;go_ret;exact⟨by rw[HSN.out,<-HE.out];rfl,HB1.out⟩
open Classical in
theorem aN (e:Nat)(he:e<=32):∀(w:World) (N:Nat) (v:Value) (p:Option Addr) (n c:Nat) (l:List Bk),Fit e N v w->Dx w e p n c l->n<=60->(∀s∈l,s.ps.length<=1000) ->
  Calls Tryz.prog 141 #[v,.slice p n c] w fun en w'=>en=.returned (.bool (decide (Cd N ∨ (Bw [] l/\∃s∈l,s.n=N))))/\Below w.heap.size w w':=by
 intro w N v p n c l hv h hn hps;obtain⟨pu,nu,cu,rfl,hu1,hu2⟩:=hv;have hbx:=Cu.mk1 w (.slice pu nu cu) 36;obtain⟨wa,hwa⟩:∃wa,w.alloc (.cells #[.slice pu nu cu] 36)=wa:=⟨_,rfl⟩
 have hbox:=Af.made w (.slice pu nu cu);rw[hwa]at hbx hbox
 have HBOX:=Ac hbox;have HX:=Ac hbx.bel;have HF:=Ac ((Fit.of hu1 hu2).below hbx.bel);have HP:=Ac (h.below hbx.bel);have HPS:=Ac hps;have HLIM:=Ac h.lim;obtain⟨ANS,hANS⟩:∃X,decide (Cd N ∨ (Bw [] l/\∃s∈l,s.n=N))=X:=⟨_,rfl⟩
 have HANS:=Ac hANS;rw[hANS];have hca:=hbox.cell;clear hANS hps h hu1 hu2 hbx hbox;obtain⟨S,hS⟩:∃X,decide (Cd N)=X:=⟨_,rfl⟩
 have HS:=Ac hS;clear hS;go_enter Tryz.func141,Tryz.ntmps141
 go_wp2_with fail
 refine(If wa N e _ HF.out (by omega)).mono ?_;rintro en w1 ⟨rfl,hb1⟩;rw[HS.out];have HB1:=Ac hb1;have HBOX1:=Ac (HBOX.out.below hb1 HBOX.out.lt);clear hb1 hca
 cases S with
 | true=>
  have HA:Ab (ANS=true):=⟨by rw[<-HANS.out];exact decide_eq_true (.inl (of_decide_eq_true HS.out))⟩
  have HE:=Ac (Ae HX.out HB1.out);go_wp2;go_ret;exact⟨by rw[HA.out];rfl,HE.out⟩
 | false=>
  obtain⟨C,hC⟩:∃X,l.any (fun s=>decide (s.n=N))=X:=⟨_,rfl⟩
  have HC:=Ac hC;clear hC;have HAS:=Ac (fB w1 e e l w.heap.size (.slice pu nu cu) N HBOX1.out.lt HBOX1.out.cell (HF.out.below HB1.out) (by omega) (by omega))
  go_wp2_with fail
  refine(Pz w1 e p n c l _ _ (enters_of Tryz.func191 (by kernel_rfl) rfl) _ (HP.out.below HB1.out) HAS.out).mono ?_;rintro en w2 ⟨rfl,hb2⟩;rw[HC.out];have HB2:=Ac (Ae HB1.out hb2);clear hb2
  cases C with
  | false=>
   have HA:Ab (ANS=false):=⟨by
    rw[<-HANS.out];refine decide_eq_false fun hh=>?_
    rcases hh with hh|⟨_,s,hs,hsn⟩
    .exact of_decide_eq_false HS.out hh
    .exact List.any_eq_false.1 HC.out s hs (decide_eq_true hsn)⟩
   have HE:=Ac (Ae HX.out HB2.out);go_wp2;go_ret;exact⟨by rw[HA.out];rfl,HE.out⟩
  | true=>
   have hnl:∀s∈l,¬Dt s:=fun s hs ht=>by
    have:=HLIM.out s hs;rcases ht with ht|ht|⟨q,hq,ht⟩
    .exact Vb he this.1 ht
    .exact Vb he this.2.1 ht
    .exact Vb he (this.2.2 q hq) ht
   have hne:¬ ∃s∈l,Dt s:=fun hh=>by obtain⟨s,hs,ht⟩:=hh;exact hnl s hs ht
   have hex:∃s∈l,s.n=N:=by
    obtain⟨s,hs,ht⟩:=List.any_eq_true.1 HC.out;exact⟨s,hs,of_decide_eq_true ht⟩
   have HNE:=Ac hne;have HEX:=Ac hex;clear hnl hne hex
   go_wp2_with fail
   refine(jI e (by omega) w2 p n c l ((HP.out.below HB2.out).wide (by omega)) hn HPS.out (fun s hs _=>HLIM.out s hs)).mono ?_;rintro en w3 ⟨rfl,hb3⟩;rw[if_neg HNE.out];have HE:=Ac (Ae HX.out (Ae HB2.out hb3));clear hb3
   by_cases hch:Bw [] l
   .rw[if_pos hch];have HA:Ab (ANS=true):=⟨by rw[<-HANS.out];exact decide_eq_true (.inr ⟨hch,HEX.out⟩)⟩
    clear hch;go_wp2;go_ret;exact⟨by rw[HA.out];rfl,HE.out⟩
   .rw[if_neg hch];have HA:Ab (ANS=false):=⟨by
     rw[<-HANS.out];refine decide_eq_false fun hh=>?_
     rcases hh with hh|hh
     .exact of_decide_eq_false HS.out hh
     .exact hch hh.1⟩
    clear hch;go_wp2;go_ret;exact⟨by rw[HA.out];rfl,HE.out⟩
structure Vf (B:Nat) (w:World) (e:Nat) (p:Option Addr) (n c:Nat) (Ns:List Nat):Prop where
 pl:Bd w e p n c Ns
 lo:0<n->∀q,p=some q->q.block<B
theorem Vf.keep {B:Nat}{w w':World}{e:Nat}{p:Option Addr}{n c:Nat}{Ns:List Nat}(h:Vf B w e p n c Ns)(k:Ao B w w'):Vf B w' e p n c Ns:=by
 refine⟨⟨h.pl.len,h.pl.cap,h.pl.max,h.pl.nil,fun h0=>?_⟩,h.lo⟩;obtain⟨b,off,h1,h2,h3⟩:=h.pl.at_ h0
 have hb:b<B:=h.lo h0 _ h1;exact⟨b,off,h1,Dj h2 k.bel.size,fun i N hN=>
  let ⟨q,m,d,k1,k2,k3⟩:=h3 i N hN
  ⟨q,m,d,(k.bel.cell (p:=⟨b,off+i,none⟩) hb).trans k1,k.nat _ _ _ _ k2,k3⟩⟩
theorem Vf.of {B:Nat}{w w':World}{e:Nat}{p:Option Addr}{n c:Nat}{Ns:List Nat}(h:Bd w e p n c Ns)(hb:Below w.heap.size w w')(hB:w.heap.size<=B):Vf B w' e p n c Ns :=
 ⟨h.below hb,fun h0 q hq=>by
  obtain⟨b,off,h1,h2,_⟩:=h.at_ h0
  rw[h1]at hq;cases hq
  exact Dj h2 hB⟩
structure Nz (B:Nat) (w:World) (b P Q G H:Nat):Prop where
 ex:∃rp rq pg ng cg ph nh ch,w.heap[b]? = some (.cells #[.pointer (some ⟨rp,0,none⟩),.pointer (some ⟨rq,0,none⟩),.slice pg ng cg,.slice ph nh ch] 127 (0,0))/\(Ring w rp P 33/\Ring w rq Q 33/\Ah w pg ng cg G/\G<Am 33/\Ah w ph nh ch H/\H<Am 33)/\b<B/\rp<B/\rq<B
theorem Nz.at_ {B:Nat}{w:World}{b P Q G H:Nat}(h:Nz B w b P Q G H):Bo w b P Q G H :=
 let ⟨rp,rq,pg,ng,cg,ph,nh,ch,h1,h2,_⟩:=h.ex
 ⟨rp,rq,pg,ng,cg,ph,nh,ch,h1,h2⟩
theorem Nz.keep {B:Nat}{w w':World}{b P Q G H:Nat}(h:Nz B w b P Q G H)(k:Ao B w w'):Nz B w' b P Q G H :=
 let ⟨rp,rq,pg,ng,cg,ph,nh,ch,h1,h2,h3,h4,h5⟩:=h.ex
 ⟨rp,rq,pg,ng,cg,ph,nh,ch,(k.bel.block b h3).trans h1,⟨h2.1.keep h4 k,h2.2.1.keep h5 k,k.nat _ _ _ _ h2.2.2.1,h2.2.2.2.1,k.nat _ _ _ _ h2.2.2.2.2.1,h2.2.2.2.2.2⟩,h3,h4,h5⟩
theorem Nz.of {B:Nat}{w w':World}{b P Q G H:Nat}(h:Bo w b P Q G H)(hb:Below w.heap.size w w')(hB:w.heap.size<=B):Nz B w' b P Q G H:=by
 have hl:=h.lt;obtain⟨rp,rq,pg,ng,cg,ph,nh,ch,h1,h2⟩:=h.ex;have l1:=h2.1.at_.lt
 have l2:=h2.2.1.at_.lt
 obtain⟨rp',rq',pg',ng',cg',ph',nh',ch',k1,k2⟩:=(h.below hb).ex;rw[hb.block b hl,h1]at k1
 simp only[Option.some.injEq,Obj.cells.injEq,Array.mk.injEq,List.cons.injEq,Value.pointer.injEq,Addr.mk.injEq,and_true]at k1;obtain⟨rfl,rfl,e3,e4⟩:=k1;cases e3;cases e4;exact⟨rp,rq,pg,ng,cg,ph,nh,ch,(hb.block b hl).trans h1,k2,by omega,by omega,by omega⟩
structure kS (d:Bool) (b:Nat) (p0:Option Addr) (n0 c0 N:Nat) (w:World):Prop where
 z:d=false->Af w b (.slice p0 n0 c0)
 o:d=true->∃p n c,Af w b (.slice p n c)/\Ah w p n c N
theorem kS.later {d:Bool}{b n0 c0 N:Nat}{p0:Option Addr}{w w':World}(h:kS d b p0 n0 c0 N w)(hb:Below w.heap.size w w'):kS d b p0 n0 c0 N w' :=
 ⟨fun e=>(h.z e).below hb (h.z e).lt,fun e=>let ⟨p,n,c,h1,h2⟩:=h.o e;⟨p,n,c,h1.below hb h1.lt,h2.below hb⟩⟩
theorem kS.put {b n0 c0 N:Nat}{p0:Option Addr}{w:World}(h:kS false b p0 n0 c0 N w){p:Option Addr}{n c:Nat}(hx:Ah w p n c N):∃q m k,Af w b (.slice q m k)/\kS true b p0 n0 c0 N (w.setCell ⟨b,0,none⟩ (.slice p n c)) :=
 ⟨p0,n0,c0,h.z rfl,(fun e=>by cases e),fun _=>⟨p,n,c,(h.z rfl).set _,hx.store (h.z rfl) _⟩⟩
theorem dO (X I:Nat):Mu X (I:Int)=X/2^I%2:=by
 unfold Mu bit;rw[if_pos (by omega),Int.toNat_natCast];have:X/2^I%2=0 ∨ X/2^I%2=1:=by omega
 rcases this with h|h<;>simp[h]
theorem iH {Bs Es:List Nat}{k b e:Nat}(h1:Bs[k]? = some b)(h2:Es[k]? = some e):(Bs.zip Es)[k]? = some (b,e):=by
 rw[List.getElem?_zip_eq_some];exact⟨h1,h2⟩
theorem Sk (P:Nat):∀(Bs Es:List Nat),Bu ((Bs.map fun x=>x%P).zip Es)%P=Bu (Bs.zip Es)%P
 | [],_=>rfl
 | _::_,[]=>rfl
 | b::Bs,e::Es=>by
  show (b%P)^e*Bu ((Bs.map fun x=>x%P).zip Es)%P=b^e*Bu (Bs.zip Es)%P;rw[Nat.mul_mod,Sk P Bs Es,<-Nat.pow_mod,<-Nat.mul_mod]
def Ir (w:World)(b N:Nat):Prop:=∃p n c,Af w b (.slice p n c)/\Ah w p n c N
theorem bY {w:World}{b P Q G H e1 e2 n c m d:Nat}{p q:Option Addr}{Bs Es:List Nat}(hg:Bo w b P Q G H)(hB:Bd w e1 p n c Bs)(hE:Bd w e2 q m d Es)(he1:e1<=200)(he2:e2<=200)(hn:n<=1000)(hm:m<=1000) :
  Calls Tryz.prog 139 #[.pointer (some ⟨b,0,none⟩),.slice p n c,.slice q m d] w fun e w'=>∃x,e=.returned (.tuple #[x,.int .i64 (if n=m then 0 else 1)])/\Fit 33 (if n=m then Jg P 1 (Bs.zip Es) else 0) x w'/\Below w.heap.size w w':=by
 have hb6:=Af.made w (.slice none 0 0);have hbel:Below w.heap.size w (w.alloc (.cells #[.slice none 0 0] 36)):=Co;obtain⟨wa,hwa⟩:∃wa,w.alloc (.cells #[.slice none 0 0] 36)=wa:=⟨_,rfl⟩
 rw[hwa]at hb6 hbel
 have HBX:=Ac hb6;have HB:=Ac hbel;have HG:=Ac hg;have HBS:=Ac hB;have HES:=Ac hE;have HP2:=Ac hg.lims.1;have HPl:=Ac hg.lims.2.1;clear hb6 hbel hg hB hE
 by_cases hnm:n=m
 .subst hnm;rw[if_pos rfl,if_pos rfl];go_enter Tryz.func139,Tryz.ntmps139
  go_wp2_with fail
  refine(fX (HG.out.below HB.out) (HBS.out.below HB.out) he1 hn).mono ?_;rintro en w1 ⟨g,rfl,hpl,hb1⟩;have HW:=Ac hpl;have HB1:=Ac (Ae HB.out hb1);have HBX1:=Ac (HBX.out.below hb1 HBX.out.lt);clear hpl hb1 HBX
  go_wp2_with fail
  refine(Di w1).mono ?_;rintro en w2 ⟨_,rfl,⟨p1,n1,c1,rfl,hn1,_⟩,hb2⟩;have hb3:Below w2.heap.size w2 (w2.alloc (.cells #[.slice p1 n1 c1] 36)):=Co;have hX3:=Af.made w2 (.slice p1 n1 c1);obtain⟨w3,hw3⟩:∃w3,w2.alloc (.cells #[.slice p1 n1 c1] 36)=w3:=⟨_,rfl⟩
  rw[hw3]at hb3 hX3
  have HN3:=Ac (hn1.below hb3);have HX3:=Ac hX3;have hb13:=Ae hb2 hb3;have HB13:=Ac hb13;have HB3:=Ac (Ae HB1.out hb13);have HS12:Ab (w1.heap.size<=w2.heap.size):=⟨hb2.size⟩
  have HBX3:Ab (Af w3 w.heap.size (.slice none 0 0)/\w.heap.size<w2.heap.size):=⟨HBX1.out.below hb13 HBX1.out.lt,Dj HBX1.out.lt hb2.size⟩
  clear hn1 hb2 hb3 hX3 hb13 HBX1
  go_wp2_with fail
  refine(fF (HES.out.below HB3.out) he2 (by omega)).mono ?_;rintro en w4 ⟨rfl,hb4⟩;obtain⟨M,hM⟩:∃M,Fy Es=M:=⟨_,rfl⟩
  rw[hM];have hM1:M<=10000:=by
   rw[<-hM];refine Wh Es fun x hx=>?_
   have:=Gq (HES.out.lim x hx);omega
  obtain⟨L,hL⟩:∃L,(Bs.map fun x=>x%P).zip Es=L:=⟨_,rfl⟩
  have HTop:Ab (Bu (Kt M L)%P=1):=⟨by
   rw[Vy M L fun x hx=>by
    rw[<-hL]at hx
    have:=(List.of_mem_zip hx).2;rw[<-hM];exact Wg Es _ this]
   exact Nat.mod_eq_of_lt (by have:=HP2.out;omega)⟩
  have HBot:Ab (Bu (Kt 0 L)%P=Jg P 1 (Bs.zip Es)):=⟨by rw[dC,<-hL,Sk,cA HP2.out]⟩
  have HLl:Ab (L.length=n):=⟨by rw[<-hL,List.length_zip,List.length_map,<-HBS.out.len,<-HES.out.len,Nat.min_self]⟩
  have HLL:=Ac hL;have HG4:Ab (Nz w2.heap.size w4 b P Q G H):=⟨Nz.of HG.out (Ae HB3.out hb4) (by have:=HBX3.out.2;omega)⟩
  have HW4:Ab (Vf w2.heap.size w4 33 (some ⟨g,0,none⟩) n n (Bs.map fun x=>x%P)):=⟨Vf.of HW.out (Ae HB13.out hb4) HS12.out⟩
  have HE4:Ab (Vf w2.heap.size w4 e2 q n d Es):=⟨Vf.of HES.out (Ae HB3.out hb4) (by have:=HBX3.out.2;omega)⟩
  have HX4:Ab (Ir w4 w2.heap.size (Bu (Kt M L)%P)):=⟨_,_,_,HX3.out.below hb4 HX3.out.lt,by rw[HTop.out];exact HN3.out.below hb4⟩
  have HB4:=Ac (Ae HB3.out hb4);have HBX4:Ab (Af w4 w.heap.size (.slice none 0 0)):=⟨HBX3.out.1.below hb4 HBX3.out.1.lt⟩
  have HL4:Ab (w2.heap.size<=w4.heap.size):=⟨Nat.le_of_lt (Dj HX3.out.lt hb4.size)⟩
  have HWS:Ab (w.heap.size<w2.heap.size):=⟨HBX3.out.2⟩
  clear hb4 hM hL HX3 HN3 HBX3 HTop HB13 HS12 HW HB3 HB1 HB;go_wp2
  go_loopw [10,11,12] (fun iv _ _ wr=>∃(k:Nat) (z:Int),k<=M/\iv=.int .i64 z/\z=(k:Int)-1/\Ab (Ao w2.heap.size w4 wr)/\Ab (Ir wr w2.heap.size (Bu (Kt k L)%P))) (fun iv _ _ _=>(intOf iv+1).toNat)
  case atStart=>exact⟨M,(M:Int)-1,by omega,by go_num,rfl,⟨Ao.same _ _⟩,HX4⟩
  case round=>
   obtain⟨k,z,hk,rfl,hz,HKr,HXr⟩:=hrel;obtain⟨pz,nz,cz,hzb,hzn⟩:=HXr.out;have HZB:=Ac hzb;have c9:=hzb.cell
   by_cases hk0:0<k
   .obtain⟨I,rfl⟩:∃I,k=I+1:=⟨k-1,by omega⟩
    obtain rfl:z=(I:Nat):=by omega
    clear hz;obtain⟨A,hA⟩:∃A,Bu (Kt (I+1) L)=A:=⟨_,rfl⟩
    rw[hA]at hzn
    have HA:=Ac hA;have HF:Ab (Fit 33 (A%P) (.agg #[.slice pz nz cz]) wr):=⟨Fit.of hzn (Nat.lt_trans (Nat.mod_lt _ (by have:=HP2.out;omega)) HPl.out)⟩
    have HGr:=Ac (HG4.out.keep HKr.out);clear hzn hzb hA hk0
    go_wp2_with fail
    refine(Mn HGr.out.at_ HF.out HF.out (by decide) (by decide)).mono ?_;rintro en w5 ⟨_,rfl,⟨p5,n5,c5,rfl,hn5,_⟩,hb5⟩;have hX5:=HZB.out.below hb5 HZB.out.lt;have k9:=hX5.cell;have f9:=hX5.free;have HK6:Ab (Ao w2.heap.size w4 (w5.setCell ⟨w2.heap.size,0,none⟩ (.slice p5 n5 c5))):=⟨HKr.out.trans ((Ao.of hb5 (Nat.le_of_lt HZB.out.lt)).trans (Ao.store hX5 (Av _) _))⟩
    have HX6:Ab (Ir (w5.setCell ⟨w2.heap.size,0,none⟩ (.slice p5 n5 c5)) w2.heap.size (A*A*Bu (Lt I (L.take 0))%P)):=⟨p5,n5,c5,hX5.set _,by
     have:A*A*Bu (Lt I (L.take 0))%P=(A%P)*(A%P)%P:=by
      rw[show Bu (Lt I (L.take 0))=1 from rfl,Nat.mul_one,Nat.mul_mod]
     rw[this];exact hn5.store hX5 _⟩
    obtain⟨w6,hw6⟩:∃w6,w5.setCell ⟨w2.heap.size,0,none⟩ (.slice p5 n5 c5)=w6:=⟨_,rfl⟩
    rw[hw6]at HK6 HX6
    clear hb5 hn5 hX5 c9;obtain⟨wo,hwo⟩:∃x,x=wr:=⟨_,rfl⟩
    subst hwo;go_wp2
    go_loopw [40,11,12] (fun jv _ _ wr=>∃j:Nat,j<=n/\jv=.int .i64 j/\Ab (Ao w2.heap.size w4 wr)/\Ab (Ir wr w2.heap.size (A*A*Bu (Lt I (L.take j))%P))) (fun jv _ _ _=>n-(intOf jv).toNat)
    case atStart=>exact⟨0,by omega,rfl,HK6,HX6⟩
    case round=>
     obtain⟨j,hj,rfl,HKi,HXi⟩:=hrel;obtain⟨px,nx,cx,hxb,hxn⟩:=HXi.out;have HXB:=Ac hxb;have HXN:=Ac hxn
     by_cases hjn:j<n
     .obtain⟨X,hXj⟩:∃X,Es[j]? = some X:=⟨Es[j]'(by rw[<-HES.out.len];exact hjn),List.getElem?_eq_getElem _⟩
      obtain⟨Y,hYj⟩:∃Y,(Bs.map fun x=>x%P)[j]? = some Y:=⟨(Bs.map fun x=>x%P)[j]'(by rw[List.length_map,<-HBS.out.len];exact hjn),List.getElem?_eq_getElem _⟩
      obtain⟨b2,off,rfl,hb2,hc2⟩:=(HE4.out.keep HKi.out).pl.at_ (by omega)
      obtain⟨q2,m2,d2,hx2,hn2,hl2⟩:=hc2 j X hXj;have hbw:Below wr.heap.size wr (wr.alloc (.cells #[.slice q2 m2 d2] 36)):=Co;have hbx:=Af.made wr (.slice q2 m2 d2);obtain⟨wb,hwb⟩:∃wb,wr.alloc (.cells #[.slice q2 m2 d2] 36)=wb:=⟨_,rfl⟩
      rw[hwb]at hbw hbx
      have cb:=hbx.cell;have HNX:=Ac (hn2.below hbw);have hm9:m2<1000000:=by have:=hn2.len_le hl2;omega
      have HT:Ab (Lt I (L.take (j+1))=Lt I (L.take j)++[(Y,X/2^I%2)]):=⟨dN (by rw[<-HLL.out];exact iH hYj hXj)⟩
      have HKw:Ab (Ao w2.heap.size wr wb):=⟨Ao.of hbw (Nat.le_of_lt HXB.out.lt)⟩
      have HXBw:=Ac (HXB.out.below hbw HXB.out.lt);have HYj:=Ac hYj;have hjn':(j:Int)<n:=by omega
      clear hc2 hn2 hl2 hXj hYj hbw hbx hxb hxn hb2
      go_wp2_with fail
      refine(Tj wb q2 m2 d2 X (I:Nat) HNX.out hm9 (by omega) (by omega)).mono ?_;rintro en w8 ⟨rfl,hb8⟩;rw[dO];have HK8:Ab (Ao w2.heap.size wr w8):=⟨HKw.out.trans (Ao.of hb8 (Nat.le_of_lt HXBw.out.lt))⟩
      have HX8:=Ac (HXBw.out.below hb8 HXBw.out.lt);obtain⟨bt,hbt⟩:∃t,X/2^I%2=t:=⟨_,rfl⟩
      have hb01:bt=0 ∨ bt=1:=by omega
      rw[hbt]at HT ⊢
      clear hb8 hbt cb;rcases hb01 with rfl|rfl
      .have HXE:Ab (Ir w8 w2.heap.size (A*A*Bu (Lt I (L.take (j+1)))%P)):=⟨px,nx,cx,HX8.out,by rw[HT.out,Ld,Nat.pow_zero,Nat.mul_one];exact HK8.out.nat _ _ _ _ HXN.out⟩
       have HKE:Ab (Ao w2.heap.size w4 w8):=⟨HKi.out.trans HK8.out⟩
       go_wp2;go_roundw
       case rel=>exact⟨j+1,by omega,by go_num,HKE,HXE⟩
       case measure=>simp[intOf];omega
      .obtain⟨b3,off3,he3,_,hc3⟩:=(HW4.out.keep (HKi.out.trans HK8.out)).pl.at_ (by omega)
       obtain⟨pw,nw,cw,hw1,hw2,hw4⟩:=hc3 j Y HYj.out;cases he3;rw[Nat.zero_add]at hw1
       have HCW:=Ac hw1;have HFW:Ab (Fit 33 Y (.agg #[.slice pw nw cw]) w8):=⟨Fit.of hw2 hw4⟩
       have HGL:Ab (g<w2.heap.size):=⟨HW4.out.lo (by omega) _ rfl⟩
       obtain⟨V0,hV0⟩:∃V,A*A*Bu (Lt I (L.take j))=V:=⟨_,rfl⟩
       rw[hV0]at HXN
       have HFX:Ab (Fit 33 (V0%P) (.agg #[.slice px nx cx]) w8):=⟨Fit.of (HK8.out.nat _ _ _ _ HXN.out) (Nat.lt_trans (Nat.mod_lt _ (by have:=HP2.out;omega)) HPl.out)⟩
       obtain⟨Z,hZ⟩:∃Z,V0%P*Y%P=Z:=⟨_,rfl⟩
       have HZ:=Ac hZ;have HZE:Ab (A*A*Bu (Lt I (L.take (j+1)))%P=Z):=⟨by rw[HT.out,Ld,Nat.pow_one,<-Nat.mul_assoc,hV0,<-hZ,Nat.mod_mul_mod]⟩
       have HG1:=Ac (HG4.out.keep (HKi.out.trans HK8.out));have HLE:Ab (w2.heap.size<=w8.heap.size):=⟨Nat.le_of_lt HX8.out.lt⟩
       have HKE:Ab (Ao w2.heap.size w4 w8):=⟨HKi.out.trans HK8.out⟩
       clear hc3 hw1 hw2 hw4 hV0 hZ HK8 HKi;go_wp2;refine Al (by kernel_rfl) (by kernel_rfl)
        [some (.pointer (some ⟨b,0,none⟩)),some (.agg #[.slice px nx cx]),some (.slice (some ⟨g,0,none⟩) n n),some (.int .i64 (j:Nat)),some (.pointer (some ⟨g,j,none⟩)),some (.agg #[.slice pw nw cw]),none,none]
        [false,false,false,false,false,false,true,true] rfl
        (fun wA wB=>Ao (w2.heap.size) wA wB)
        (fun D sp w'=>RG (w2.heap.size) w8 [] w'/\kS (D 7) (w2.heap.size) px nx cx (Z) w')
        (fun i v w'=>match i with
         | 6=>Fit 33 Z v w'
         | _=>True)
        ?_ ⟨RG.start HLE.out (fun x hx=>by cases hx),⟨fun _=>HX8.out,fun e=>by cases e⟩⟩ ?_ ?_
       .intro i v wA wB hf hb;split at hf
        .exact hf.keep hb
        .trivial
       .simp only[Bf,Nat.reduceAdd];refine⟨?_,?_,?_,?_,?_,?_,?_,?_,trivial⟩
        all_goals intro D sp w' hD hW hdp hg
        case refine_2=>
         have c0:=(hg.2.z (hW 7 (mq (by kernel_rfl)))).cell
         with_reducible refine Ag ?_ ?_
         all_goals simp[Region.wanted,yielded,execOp,Act.eval,Act.put,go_sem,c0]
        case refine_5=>
         have hnj:¬n<=j:=Nat.not_le.2 hjn
         with_reducible refine Ag ?_ ?_
         all_goals simp[Region.wanted,yielded,execOp,Act.eval,Act.put,go_sem,hnj]
        case refine_6=>
         have c0:w'.cell? ⟨g,j,none⟩=some (.slice pw nw cw):=(hg.1.keep.bel.cell (p:=⟨g,j,none⟩) HGL.out).trans HCW.out
         with_reducible refine Ag ?_ ?_
         all_goals simp[Region.wanted,yielded,execOp,Act.eval,Act.put,go_sem,c0]
        case refine_7=>
         (with_reducible refine Aa (w1:=w') (f := 89) (args:=#[.pointer (some ⟨b,0,none⟩),.agg #[.slice px nx cx],.agg #[.slice pw nw cw]]) ?_ ?_ ?_)
         .simp[Region.wanted,yielded,Act.put,go_sem]
         .simp[Act.eval,Act.put,go_sem]
         .refine(Mn (HG1.out.keep hg.1.keep).at_ (HFX.out.keep hg.1.keep) (HFW.out.keep hg.1.keep) (by decide) (by decide)).mono ?_;rintro en w9 ⟨u,rfl,hu,hb⟩;rw[HZ.out]at hu
          exact⟨u,rfl,Ao.of hb hg.1.base,hu,hg.1.later hb,by simpa [upd]using hg.2.later hb⟩
        case refine_8=>
         have hx:∃p n c,sp 6=.agg #[.slice p n c]/\Ah w' p n c (Z)/\Z<Am (33):=(hdp 6 (mq (by kernel_rfl))).2
         (with_reducible refine Az hx fun p hx1=>Az hx1 fun n hx2=>Az hx2 fun c hx3=>?_)
         have h1:=hx3.1;rw[hD]at hg
         have hp:=hg.2.put (hx3.2.1)
         (with_reducible refine Az hp fun q hy1=>Az hy1 fun m hy2=>Az hy2 fun k hy3=>?_)
         have h6:=hy3.1.cell;have h7:=hy3.1.free
         (with_reducible refine Ar (w1:=w'.setCell ⟨w2.heap.size,0,none⟩ (.slice p n c)) ?_ ?_ ?_)
         .simp[Region.wanted,yielded,Act.put,go_sem]
         .simp[execOp,Act.eval,Act.put,go_sem,h1,h6,h7]
         .refine⟨Ao.store hy3.1 (Av _) _,trivial,hg.1.store hy3.1 (Av _) (fun x hx=>by cases hx) _,?_⟩;have h8:=hy3.2;simpa [upd]using h8
        all_goals ((with_reducible refine Ag ?_ ?_);all_goals first|(simp only[Region.wanted];done)|simp[Region.wanted,yielded,execOp,Act.eval,Act.put,go_sem])
       .intro sp w9 hsp hg;obtain⟨hg1,hg2⟩:=hg;obtain⟨pf,nf,cf,hf1,hf2⟩:=hg2.o rfl;have HXE:Ab (Ir w9 w2.heap.size (A*A*Bu (Lt I (L.take (j+1)))%P)):=⟨pf,nf,cf,hf1,by rw[HZE.out];exact hf2⟩
        have HK9:Ab (Ao w2.heap.size w4 w9):=⟨HKE.out.trans hg1.keep⟩
        clear hsp hg1 hg2 hf1 hf2;simp only[An,Nat.reduceAdd];generalize sp 6=y6,sp 7=y7 at *
        go_simp
        go_wp2;go_roundw
        case rel=>exact⟨j+1,by omega,by go_num,HK9,HXE⟩
        case measure=>simp[intOf];omega
     .obtain rfl:j=n:=by omega
      have hjn':¬(j:Int)<j:=by omega
      have HXE:Ab (Ir wr w2.heap.size (Bu (Kt I L)%P)):=⟨px,nx,cx,HXB.out,by
       rw[Vz I L,HA.out];have:=HXN.out;rw[List.take_of_length_le (by rw[HLl.out];exact Av _)]at this
       exact this⟩
      clear hxb hxn;go_wp2;go_roundw
      case rel=>exact⟨I,(I:Int)-1,by omega,by go_num,by omega,HKi,HXE⟩
      case measure=>simp[intOf]
   .obtain rfl:k=0:=by omega
    obtain rfl:z = -1:=by omega
    clear hz;have hrb:Af wr w.heap.size (.slice none 0 0):=HBX4.out.below (B:=w2.heap.size) HKr.out.bel HWS.out;have k6:=hrb.cell;have f6:=hrb.free;rw[HBot.out]at hzn
    have HNF:=Ac (hzn.store hrb (.slice pz nz cz));have HLM:Ab (Jg P 1 (Bs.zip Es)<Am 33):=⟨Nat.lt_trans (Ql HP2.out _ _ (by have:=HP2.out;omega)) HPl.out⟩
    have hbf:Below w.heap.size w (wr.setCell ⟨w.heap.size,0,none⟩ (.slice pz nz cz)):=(HB4.out.trans (HKr.out.bel.mono (Nat.le_of_lt HWS.out))).setCell (Av _) _;have HBF:=Ac hbf;clear hzn hzb hrb hbf hk0;go_wp2;exact bodyPost_ret (v:=.tuple #[.agg #[.slice pz nz cz],.int .i64 0]) (by simp[results,Tryz.results139,go_sem,k6]) rfl ⟨_,rfl,Fit.of HNF.out HLM.out,HBF.out⟩
 .rw[if_neg hnm,if_neg hnm];have hne:((n:Int)==(m:Nat))=false:=by rw[beq_eq_false_iff_ne];omega
  have hne2:¬(n:Int)=(m:Nat):=by omega
  have k6:=HBX.out.cell;have f6:=HBX.out.free;have hbf:Below w.heap.size w (wa.setCell ⟨w.heap.size,0,none⟩ (.slice none 0 0)):=HB.out.setCell (Av _) _;have HBF:=Ac hbf;clear hnm hbf;go_enter Tryz.func139,Tryz.ntmps139;go_wp2;exact bodyPost_ret (v:=.tuple #[.agg #[.slice none 0 0],.int .i64 1]) (by simp[results,Tryz.results139,go_sem,k6]) rfl ⟨_,rfl,Fit.of (Ah.nil _) (by decide),HBF.out⟩
end Go.Proofs.YtnbmfaihlefgfaaGreatDoor
