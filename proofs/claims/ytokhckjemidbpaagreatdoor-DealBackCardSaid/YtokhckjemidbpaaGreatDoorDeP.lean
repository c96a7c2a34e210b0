/- What is told of a dealing: pieces, each by that much another one (law14's pieces). -/
import Derived.Test.YtokhckjemidbpaaGreatDoorDeG
set_option maxRecDepth 1000000
set_option maxHeartbeats 16000000
set_option linter.all false
namespace Go.Proofs.YtokhckjemidbpaaGreatDoor
open Go Go.RowKit Go.Proofs.YtokhckjemidbpaaGreatDoor.Flow
theorem cP (w:World)(hr:Tabs w)(A t:Int)(S R:Nat)(hS:Su S)(hR:Su R)(p:Option Addr)(n c:Nat)(xs:List Nat)(h:Br w .u64 p n c xs)(h64:∀x∈xs,Su x) :
  Calls Tryz.prog 47 #[.int .i64 A,.int .i64 t,.int .u64 (S:Nat),.int .u64 (R:Nat),.slice p n c] w (iS ((IntKind.u64.wrap A)%3).toNat (Uv t) S R w):=by
 have hx:=Bx.made 64 w (.slice none 0 0) (.slice none 0 0);have hb0:Below w.heap.size w (w.alloc (.cells #[.slice none 0 0,.slice none 0 0] 64)):=Bq;obtain⟨wa,hwa⟩:∃z,w.alloc (.cells #[.slice none 0 0,.slice none 0 0] 64)=z:=⟨_,rfl⟩
 rw[hwa]at hx hb0
 have HX:=Ab hx;have HB0:=Ab hb0;have HGR:=Ab (Lu wa A (hr.below hb0 hr.size));have HRW:=Ab h;have H64:=Ab h64;have hcap:=h.cap;have hmax:=h.max;have HS64:Aa (S<18446744073709551616):=⟨hS⟩
 have HR64:Aa (R<18446744073709551616):=⟨hR⟩
 obtain⟨i,hi⟩:∃i,((IntKind.u64.wrap A)%3).toNat=i:=⟨_,rfl⟩
 obtain⟨hm,hm5⟩:=Zl t;obtain⟨M,hM⟩:∃k,Uv t=k:=⟨_,rfl⟩
 rw[hM]at hm hm5 ⊢
 rw[hi]at HGR ⊢
 obtain⟨T,hT⟩:∃k,M+1=k:=⟨_,rfl⟩
 obtain⟨M2,hM2⟩:∃k,2*M=k:=⟨_,rfl⟩
 obtain⟨T2,hT2⟩:∃k,2*T=k:=⟨_,rfl⟩
 have HTM:Aa (T=M+1):=⟨hT.symm⟩
 have HT64:Aa (T<=64):=⟨by omega⟩
 have HMM:Aa (M2=2*M):=⟨hM2.symm⟩
 have r1:(1:Int)+M=T:=by omega
 have r2:2*(T:Int)=T2:=by omega
 have r3:(T2:Int)-2=M2:=by omega
 have hT6:T<=6:=by omega
 have hT26:T2<=12:=by omega
 have hM26:M2<=10:=by omega
 have hU:0<=IntKind.u64.wrap t:=by rw[IntKind.wrap_u64];omega
 clear hx hb0 hr h h64 hi hM hT hM2 hT2 hS hR;go_enter Tryz.func47,Tryz.ntmps47
 go_wp2_with fail
 refine HGR.out.mono ?_;rintro en w1 ⟨b,rfl,hg,b1⟩;have HG:=Ab hg;have HB1a:=Ab (Ae HB0.out b1);have HB1:=Ab (Ae HB0.out b1);have HX1:=Ab (HX.out.later b1);clear hg b1 HX HB0 HGR hwa;obtain⟨N1,hN1⟩:∃k,min n 12=k:=⟨_,rfl⟩
 have hmin:min (n:Int) 12=(N1:Int):=by omega
 have hN1c:N1<=n:=by omega
 have hN12':N1<=12:=by omega
 clear hN1
 go_wp2_with fail
 refine(Zf w1 p N1 c (xs.take N1) ((HRW.out.below HB1a.out).take N1 hN1c) (fun x hx=>H64.out x (List.mem_of_mem_take hx)) (by omega)).mono ?_;rintro en w2 ⟨vl,us,rfl,hrs,htr,b2⟩;have HRS:=Ab hrs;have HTR:=Ab htr;have HB2:=Ab b2;clear hrs htr b2 hmin;go_wp2
 go_loopw [15] (fun vl wr=>∃(us:List P3) (Ns:List Nat),Ns.length<=12/\Aa (Below w1.heap.size w1 wr)/\Aa (En wr w1.heap.size vl us)/\Aa (Ea wr 2 us Ns)) (fun vl _=>12-lenV vl)
 case atStart=>exact⟨us,_,by rw[List.length_take];omega,HB2,HRS,HTR⟩
 case round=>
  clear HB2 HRS HTR us;obtain⟨us,Ns,hN12,HBr,HR,HT⟩:=hrel;obtain⟨pv,cv,hv⟩:=HR.out.slice;obtain⟨n1,hn1⟩:∃l,us.length=l:=⟨_,rfl⟩
  rw[hn1]at hv
  subst hv;have hNn:Ns.length=n1:=by rw[<-HT.out.len,hn1]
  have HNn:=Ab hNn;have hn12:n1<=12:=by omega
  by_cases hlt:n1<M2
  .have hlt':(n1:Int)<M2:=by omega
   have hw64:IntKind.u64.wrap (n1:Int)=n1:=IntWalk.u64_in _ (by omega);have HUS:Aa (us.length<=100000):=⟨by rw[hn1];omega⟩
   have hN64:n1<18446744073709551616:=by omega
   have HN10:Aa (n1<12):=⟨by omega⟩
   clear hn1 hNn hN12 hlt
   go_wp2_with fail
   refine(Bi _ hN64).mono ?_;rintro en w4 ⟨_,rfl,⟨po,no,co,rfl,o1,o2⟩,b4⟩;have hb5:Below w4.heap.size w4 (w4.alloc (.cells #[.slice po no co] 37)):=Bq;have hx5:(w4.alloc (.cells #[.slice po no co] 37)).cell? ⟨w4.heap.size,0,none⟩=some (.slice po no co):=(Af.made w4 (.slice po no co)).cell;obtain⟨w5,hw5⟩:∃z,w4.alloc (.cells #[.slice po no co] 37)=z:=⟨_,rfl⟩
   rw[hw5]at hb5 hx5
   have hb45:=Ae b4 hb5;have hs5:=HR.out.below hb45;have hB5:=Ae HBr.out hb45;obtain⟨v9,w6,happ,hr6,hg6,hmv⟩:=hs5.app (x:=(po,no,co)) hx5 hB5.size HUS.out 62 (c:=1);have HT6:Aa (Ea w6 2 (us++[(po,no,co)]) (Ns++[n1])):=⟨((HT.out.below hb45).grown hs5 hg6).snoc (x:=(po,no,co)) (Fp hs5 hg6 (o1.below hb5)) o2⟩
   have HB6:Aa (Below w1.heap.size w1 w6):=⟨hB5.grown hg6 hB5.size fun g hg=>(hs5.own hg).1⟩
   have HS6:=Ab hr6;have HL6:Aa (lenV v9=n1+1):=⟨by
    obtain⟨p9,c9,e9⟩:=hr6.slice;rw[e9,List.length_append,HT.out.len,HNn.out];rfl⟩
   clear hb5 hx5 hb45 hs5 hB5 hr6 hg6 hmv b4 o1 o2 HR HT HBr hw64
   go_wp2_with (at_builtin;refine Lib.wpList_append_run _ rfl _ _ _ _ rfl _ _ rfl rfl _ _ happ ?_;refine Fd.out ?_)
   refine⟨?_⟩;clear happ hw5;go_wp2;go_roundw
   case rel=>exact⟨_,_,by rw[List.length_append,HNn.out];exact HN10.out,HB6,HS6,HT6⟩
   case measure=>
    rw[HL6.out];show 12-(n1+1)<12-n1;have:=HN10.out;omega
  .have hlt':¬(n1:Int)<M2:=by omega
   obtain⟨q,d,hqd,hp⟩:=HR.out.plist HT.out;rw[hNn]at hqd hp
   cases hqd;have HP:=Ab hp;have HM2:Aa (2*M<=n1):=⟨by have:=HMM.out;omega⟩
   have HTK:Aa ((Ns.take M).length=M/\((Ns.drop M).take M).length=M):=⟨by rw[List.length_take,List.length_take,List.length_drop];have:=HMM.out;omega⟩
   have HG3:=Ab (HG.out.below HBr.out);have HB3:=Ab (Ae HB1.out HBr.out);have HX3:=Ab (HX1.out.below HBr.out HX1.out.lt);have hn1k:n1<=1000:=by omega
   clear hn1 hNn hp HR HT HBr hlt hN12 hn12 HG HX1
   go_wp2_with fail
   refine(Bi _ HS64.out).mono ?_;rintro en w4 ⟨_,rfl,⟨ps,ns,cs,rfl,s1,s2⟩,b4⟩;have HFS:=Ab (Fit.of s1 s2);have HG4:=Ab (HG3.out.below b4);have HP4:=Ab (HP.out.below b4);have HX4:=Ab (HX3.out.later b4);have HB4:=Ab (Ae HB3.out b4);clear s1 s2 b4 HG3 HP HX3 HB3
   go_wp2_with fail
   refine(Bi _ HR64.out).mono ?_;rintro en w5 ⟨_,rfl,⟨pr,nr,cr,rfl,r1,r2⟩,b5⟩;have HFR:=Ab (Fit.of r1 r2);have HFS5:=Ab (HFS.out.below b5);have HG5:=Ab (HG4.out.below b5);have HP5:=Ab (HP4.out.below b5);have HX5:=Ab (HX4.out.later b5);have HB5:=Ab (Ae HB4.out b5);clear r1 r2 b5 HFS HG4 HP4 HX4 HB4
   go_wp2_with fail
   refine(nQ (T:=T) (M:=M) HG5.out HFS5.out HFR.out HP5.out (by decide) (by decide) (by decide) hn1k HTM.out HT64.out HM2.out).mono ?_;rintro en w6 ⟨p1,c1,p2,c2,rfl,h1,h2,⟨h3,h4⟩,b6⟩;have HF1:Aa (∀a,p1=some a->w.heap.size+1<=a.block):=⟨fun a ha=>Ee HX5.out.lt (h3 a ha)⟩
   have HF2:Aa (∀a,p2=some a->w.heap.size+1<=a.block):=⟨fun a ha=>Ee HX5.out.lt (h4 a ha)⟩
   have hb7:Below w6.heap.size w6 (w6.alloc (.cells #[.slice p1 T c1,.slice p2 T c2] 64)):=Bq;have hx7:=Bx.made 64 w6 (.slice p1 T c1) (.slice p2 T c2);obtain⟨bd,hbd⟩:∃z,w6.heap.size=z:=⟨_,rfl⟩
   obtain⟨w7,hw7⟩:∃z,w6.alloc (.cells #[.slice p1 T c1,.slice p2 T c2] 64)=z:=⟨_,rfl⟩
   rw[hw7]at hb7 hx7
   rw[hbd]at hx7
   have hb67:=Ae b6 hb7;have HX7:=Ab (HX5.out.later hb67);have HXD7:=Ab hx7;have HG7:=Ab (HG5.out.below hb67);have HL17:=Ab (h1.below hb7);have HL27:=Ab (h2.below hb7);have HB7:=Ab (Ae HB5.out hb67);have HBD:Aa (w.heap.size<bd):=⟨by rw[<-hbd];exact Da HX5.out.lt b6.size⟩
   clear h1 h2 h3 h4 b6 hb7 hx7 hb67 HX5 HFS5 HFR HG5 HP5 HB5;obtain⟨dd0,dd1⟩:=HXD7.out.cells;obtain⟨dx0,dx1⟩:=HX7.out.cells;have fx0:=HX7.out.free 0;have fx1:=HX7.out.free 1;have hz2:=HX7.out.set (.slice p1 T c1) (.slice p2 T c2);obtain⟨z0,z1⟩:=hz2.cells;have hne:w.heap.size≠bd:=by have:=HBD.out;omega
   obtain⟨wz,hwz⟩:∃z,((w7.setCell ⟨w.heap.size,0,none⟩ (.slice p1 T c1)).setCell ⟨w.heap.size,1,none⟩ (.slice p2 T c2)).drew=z:=⟨_,rfl⟩
   have z2:wz.cell? ⟨w.heap.size,0,none⟩=some (.slice p1 T c1):=by rw[<-hwz];exact z0
   have z3:wz.cell? ⟨w.heap.size,1,none⟩=some (.slice p2 T c2):=by rw[<-hwz];exact z1
   have hk:=put2 (u0:=.slice p1 T c1) (u1:=.slice p2 T c2) HX7.out.at_
   have hbz0:Below w.heap.size w7 wz:=by rw[<-hwz];exact(hk.bel _ (Av _)).drew
   have HBz:=Ab (HB7.out.trans hbz0);have HNz:Aa (Aq wz 33 p1 T c1 (Gf (gQ i) S (Ns.take M))/\Aq wz 33 p2 T c2 (Gf (gQ i) R ((Ns.drop M).take M))):=⟨by
    rw[<-hwz];exact⟨(Iz (x:=(none,0,0)) (y:=(none,0,0)) HL17.out HX7.out.at_ (Nat.lt_succ_self _) HF1.out).below ((Ba _ _).drew),(Iz (x:=(none,0,0)) (y:=(none,0,0)) HL27.out HX7.out.at_ (Nat.lt_succ_self _) HF2.out).below ((Ba _ _).drew)⟩⟩
   have HGz:Aa (Au wz b (gP i) (gQ i) (gG i) (gH i)):=⟨by
    rw[<-hwz];exact(cZ (x:=(none,0,0)) (y:=(none,0,0)) HG7.out HX7.out.at_ (by decide) (by decide)).below ((Ba _ _).drew)⟩
   clear hz2 hk hbz0;go_wp2
   go_region
   clear z0 z1 dd0 dd1 dx0 dx1 fx0 fx1 hwz;go_wp2;exact bodyPost_ret (v:=.tuple #[.pointer (some ⟨b,0,none⟩),.int .i64 (T:Int),.agg #[.slice p1 T c1,.slice p2 T c2],.bool true]) (by simp[results,Tryz.results47,go_sem,z2,z3]) rfl ⟨b,p1,c1,p2,c2,Ns.take M,(Ns.drop M).take M,by rw[HTM.out],HTK.out.1,HTK.out.2,HGz.out,by rw[<-HTM.out];exact HNz.out.1,by rw[<-HTM.out];exact HNz.out.2,HBz.out⟩
structure Nx (w:World) (p:Option Addr) (n c:Nat) (l:List (Int×Nat)):Prop where
 len:n=l.length
 cap:n<=c
 max:c<=9223372036854775807
 at_:0<n->∃b off,p=some ⟨b,off,none⟩/\b<w.heap.size/\∀(i:Nat) (s:Int×Nat),l[i]? = some s->w.cell? ⟨b,off+i*2,none⟩=some (.int .i64 s.1)/\w.cell? ⟨b,off+i*2+1,none⟩=some (.int .u64 (s.2:Nat))/\Su s.2
theorem Nx.below {w w':World}{p:Option Addr}{n c:Nat}{l:List (Int×Nat)}(h:Nx w p n c l)(hb:Below w.heap.size w w'):Nx w' p n c l:=by
 refine⟨h.len,h.cap,h.max,fun h0=>?_⟩;obtain⟨b,off,h1,h2,h3⟩:=h.at_ h0
 refine⟨b,off,h1,Da h2 hb.size,fun i s hs=>?_⟩;obtain⟨k0,k1,k2⟩:=h3 i s hs;have hc:∀o,w'.cell? ⟨b,o,none⟩=w.cell? ⟨b,o,none⟩:=fun o=>hb.cell (p:=⟨b,o,none⟩) h2
 exact⟨by rw[hc];exact k0,by rw[hc];exact k1,k2⟩
def Ui (Q:Nat)(As:List Nat)(j:Int):Nat:=if 1<=j/\j<=64 then Bp Q j.toNat As else 0
theorem fM (Q:Nat)(vs ms:List Nat)(j:Int)(x:Nat):Cg Q vs ms j x=(j,(Ui Q vs j+x)%Q,Ui Q ms j):=by
 unfold Cg Ui;split<;>rfl
theorem jG {Q:Nat}(hQ:2<=Q)(As:List Nat)(j:Int):Ui Q As j<Q:=by
 unfold Ui;split
 .exact Fa hQ _
 .omega
def mI (A B:Nat)(w:World)(en:Ending)(w':World):Prop:=∃(x y:P3) (e:Int),en=.returned (.tuple #[.agg #[.slice x.1 x.2.1 x.2.2,.slice y.1 y.2.1 y.2.2],.int .i64 e])/\Cr w' x A/\Cr w' y B/\Below w.heap.size w w'
theorem fF {w:World}{b P Q GG HH e1 e2 n c m d:Nat}{p p2:Option Addr}{As Bs:List Nat}{j:Int}(hG:Au w b P Q GG HH)(hA:Aq w e1 p n c As)(hB:Aq w e2 p2 m d Bs)(h1:e1<=200)(h2:e2<=200)(hn:n<=1000)(hm:m<=1000) :
  Calls Tryz.prog 42 #[.agg #[.slice p n c,.slice p2 m d],.pointer (some ⟨b,0,none⟩),.int .i64 j] w (mI (Ui Q As j) (Ui Q Bs j) w):=by
 by_cases hj:1<=j/\j<=64
 .obtain⟨k,rfl⟩:=Int.eq_ofNat_of_zero_le (show 0<=j by omega);have e1:Ui Q As (k:Int)=Bp Q k As:=by unfold Ui;rw[if_pos hj];rfl
  have e2:Ui Q Bs (k:Int)=Bp Q k Bs:=by unfold Ui;rw[if_pos hj];rfl
  rw[e1,e2];refine(My hG hA hB h1 h2 hn hm (by omega) rfl rfl).mono ?_;rintro en w' ⟨x,y,rfl,k1,k2,hb⟩;exact⟨x,y,0,rfl,k1,k2,hb⟩
 .have e1:Ui Q As j=0:=by unfold Ui;rw[if_neg hj]
  have e2:Ui Q Bs j=0:=by unfold Ui;rw[if_neg hj]
  rw[e1,e2];refine(fE hj).mono ?_;rintro en w' ⟨rfl,hb⟩;exact⟨(none,0,0),(none,0,0),1,rfl,Ag.nil _,Ag.nil _,hb⟩
structure C3 (W:World) (Q Y N:Nat) (b:Nat) (d1 d2 d3 d4:Bool) (v1 v2 v3:Value) (w:World):Prop where
 pre:d4=false->Below W.heap.size W w
 p1:d4=false->d1=true->iU Q v1 w
 p2:d4=false->d2=true->Fit 2 Y v2 w
 p3:d4=false->d3=true->Fit 33 N v3 w
 fin:d4=true->∃(w1:World) (x:P3),Below W.heap.size W w1/\Cr w1 x N/\w=w1.setCell ⟨b,0,none⟩ (.slice x.1 x.2.1 x.2.2)
 o3:d3=true->d1=true/\d2=true
 o4:d4=true->d3=true
section
variable {W:World} {Q Y N b:Nat} {d1 d2 d3 d4:Bool} {v1 v2 v3:Value} {w:World}
theorem C3.start:C3 W Q Y N b false false false false v1 v2 v3 W.drew :=
 ⟨fun _=>(Ba _ _).drew,(fun _ e=>by cases e),(fun _ e=>by cases e),(fun _ e=>by cases e),(fun e=>by cases e),(fun e=>by cases e),fun e=>by cases e⟩
theorem C3.later {w':World}(h:C3 W Q Y N b d1 d2 d3 false v1 v2 v3 w)(hb:Below w.heap.size w w'):C3 W Q Y N b d1 d2 d3 false v1 v2 v3 w' :=
 ⟨fun e=>Ae (h.pre e) hb,fun e k=>(h.p1 e k).below hb,fun e k=>(h.p2 e k).below hb,fun e k=>(h.p3 e k).below hb,(fun e=>by cases e),h.o3,fun e=>by cases e⟩
theorem C3.n3 (h:C3 W Q Y N b d1 d2 false d4 v1 v2 v3 w):d4=false:=by
 cases d4 with
 | false=>rfl
 | true=>have:=h.o4 rfl;cases this
theorem C3.n1 (h:C3 W Q Y N b false d2 d3 d4 v1 v2 v3 w):d4=false:=by
 cases d3 with
 | false=>exact h.n3
 | true=>have:=(h.o3 rfl).1;cases this
theorem C3.n2 (h:C3 W Q Y N b d1 false d3 d4 v1 v2 v3 w):d4=false:=by
 cases d3 with
 | false=>exact h.n3
 | true=>have:=(h.o3 rfl).2;cases this
theorem C3.put1 (h:C3 W Q Y N b false d2 d3 false v1 v2 v3 w){u:Value}(hu:iU Q u w):C3 W Q Y N b true d2 d3 false u v2 v3 w :=
 ⟨h.pre,fun _ _=>hu,h.p2,h.p3,h.fin,(fun k=>by have:=(h.o3 k).1;cases this),h.o4⟩
theorem C3.put2 (h:C3 W Q Y N b d1 false d3 false v1 v2 v3 w){u:Value}(hu:Fit 2 Y u w):C3 W Q Y N b d1 true d3 false v1 u v3 w :=
 ⟨h.pre,h.p1,fun _ _=>hu,h.p3,h.fin,(fun k=>by have:=(h.o3 k).2;cases this),h.o4⟩
theorem C3.put3 (h:C3 W Q Y N b true true false false v1 v2 v3 w){u:Value}(hu:Fit 33 N u w):C3 W Q Y N b true true true false v1 v2 u w :=
 ⟨h.pre,h.p1,h.p2,fun _ _=>hu,h.fin,fun _=>⟨rfl,rfl⟩,fun e=>by cases e⟩
theorem C3.put4 (h:C3 W Q Y N b d1 d2 true false v1 v2 v3 w){x:P3}(hx:Cr w x N):C3 W Q Y N b d1 d2 true true v1 v2 v3 (w.setCell ⟨b,0,none⟩ (.slice x.1 x.2.1 x.2.2)) :=
 ⟨(fun e=>by cases e),(fun e=>by cases e),(fun e=>by cases e),(fun e=>by cases e),fun _=>⟨w,x,h.pre rfl,hx,rfl⟩,h.o3,fun _=>rfl⟩
end
theorem Bx.set0 {t:TypeId}{w:World}{b:Nat}{v0 v1:Value}(h:Bx t w b v0 v1)(u0:Value):Bx t (w.setCell ⟨b,0,none⟩ u0) b u0 v1:=⟨by
 have:=h.at_
 simp[World.setCell,Array.getElem?_modify,this]⟩
theorem Nv {w:World}{b N:Nat}{q x y:P3}{T:TypeId}{u:Value}(h:Cr w q N)(hb:w.heap[b]? = some (.cells #[.slice x.1 x.2.1 x.2.2,.slice y.1 y.2.1 y.2.2] T (0,0))):Cr (w.setCell ⟨b,0,none⟩ u) q N :=
 h.off hb (Qv x y) (by simp) fun g hg=>Below.heap_setCell _ _ _ _ hg
theorem fP {t T:TypeId}{B b:Nat}{w:World}{v u:Value}{l:List Fj}{x y:P3}(h:Ip (Vt 33) t B w v l)(hb:w.heap[b]? = some (.cells #[.slice x.1 x.2.1 x.2.2,.slice y.1 y.2.1 y.2.2] T (0,0)))(hT:t≠T):Ip (Vt 33) t B (w.setCell ⟨b,0,none⟩ u) v l:=by
 obtain⟨vs,h6,h7⟩:=h.ex;refine⟨vs,h6.keep fun g hg=>Below.heap_setCell _ _ _ _ fun e=>?_,fun i s hs=>?_⟩
 .rcases h6.own.2 with ⟨e0,_⟩|⟨g0,cap,cur,e0,_,hg0,_⟩
  .rw[e0]at hg;cases hg
  .rw[e0]at hg
   obtain rfl:g0=g:=by simpa [Value.ownBlock]using hg
   rw[show g0=b from e]at hg0
   rw[hg0]at hb
   injection hb with h3
   injection h3 with _ h4
   exact hT h4
 .obtain⟨x',y',g1,g2,g3,g4⟩:=h7 i s hs;exact⟨x',y',g1,g2,g3,⟨Nv g4.n hb,Nv g4.r hb,g4.ln,g4.lr⟩⟩
theorem Qn:∀u∈(Value.agg #[.int .i64 0,.slice none 0 0,.slice none 0 0]).cells.toList,Fc u:=fun u hu=>by
 simp[Value.cells]at hu
 rcases hu with rfl|rfl|rfl<;>first|exact Fc.int _|exact Fc.slice _ _ _
theorem Wj {w:World}{b P Q GG HH n c m d pn pc:Nat}{p p2 pl:Option Addr}{As Bs:List Nat}{l:List (Int×Nat)}(hg:Au w b P Q GG HH)(hA:Aq w 33 p n c As)(hB:Aq w 33 p2 m d Bs)(hl:Nx w pl pn pc l)(hn:n<=1000)(hm:m<=1000)(hpn:pn<=1000) :
  Calls Tryz.prog 48 #[.pointer (some ⟨b,0,none⟩),.agg #[.slice p n c,.slice p2 m d],.slice pl pn pc] w (bE (l.map fun x=>Cg Q As Bs x.1 x.2) w):=by
 have hx:=Bx.made 64 w (.slice p n c) (.slice p2 m d);have hb0:Below w.heap.size w (w.alloc (.cells #[.slice p n c,.slice p2 m d] 64)):=Bq;obtain⟨wa,hwa⟩:∃z,w.alloc (.cells #[.slice p n c,.slice p2 m d] 64)=z:=⟨_,rfl⟩
 rw[hwa]at hx hb0
 have HX:=Ab hx;have HB:=Ab hb0;have HG:=Ab (hg.below hb0);have HA:=Ab (hA.below hb0);have HBB:=Ab (hB.below hb0);have HL:=Ab (hl.below hb0);have HLn:=Ab hl.len;have HQl:=Ab hg.lims;have hcap:=hl.cap;have hmax:=hl.max;have HPN:=Ab hpn;clear hg hA hB hl hx hb0 hpn;go_enter Tryz.func48,Tryz.ntmps48;go_wp2
 go_loopw [7,9,10,11,14] (fun vo _ _ _ iv wr=>∃(k:Nat),k<=pn/\iv=.int .i64 k/\Aa (Below wa.heap.size wa wr)/\Aa (Ip (Vt 33) 92 wa.heap.size wr vo ((l.take k).map fun x=>Cg Q As Bs x.1 x.2))) (fun _ _ _ _ iv _=>pn-(intOf iv).toNat)
 case atStart=>exact⟨0,by omega,rfl,⟨Ba _ _⟩,⟨Ip.nil⟩⟩
 case round=>
  clear hwa;obtain⟨k,hk,rfl,HBr,HO⟩:=hrel
  by_cases hkn:k<pn
  .obtain⟨S,hSk⟩:∃s,l[k]? = some s:=⟨l[k]'(by rw[<-HLn.out];exact hkn),List.getElem?_eq_getElem _⟩
   obtain⟨bb,off,rfl,hbl,Bb⟩:=HL.out.at_ (by omega)
   obtain⟨x0,x1,x2⟩:=Bb k S hSk;have HTK:Aa (l.take (k+1)=l.take k++[S]):=⟨Cx hSk⟩
   obtain⟨J,Y⟩:=S
   dsimp only at x0 x1 x2
   have c0:wr.cell? ⟨bb,off+k*2,none⟩=some (.int .i64 J):=(HBr.out.cell (p:=⟨bb,off+k*2,none⟩) hbl).trans x0;have c1:wr.cell? ⟨bb,off+k*2+1,none⟩=some (.int .u64 (Y:Nat)):=(HBr.out.cell (p:=⟨bb,off+k*2+1,none⟩) hbl).trans x1;have hb1:Below wr.heap.size wr (wr.alloc (.cells #[.int .i64 J,.int .u64 (Y:Nat)] 102)):=Bq;have hx1:=Bx.made 102 wr (.int .i64 J) (.int .u64 (Y:Nat));obtain⟨bt,hbt⟩:∃z,wr.heap.size=z:=⟨_,rfl⟩
   obtain⟨w1,hw1⟩:∃z,wr.alloc (.cells #[.int .i64 J,.int .u64 (Y:Nat)] 102)=z:=⟨_,rfl⟩
   rw[hw1]at hb1 hx1
   rw[hbt]at hx1
   have HBT:=Ab hx1;have HB1:=Ab (Ae HBr.out hb1);have HO1:=Ab (HO.out.below hb1 fun s x y h=>h.below hb1);have HD1:=Ab (HX.out.below HB1.out HX.out.lt);have HY64:Aa (Y<18446744073709551616):=⟨x2⟩
   have HOL:Aa (((l.take k).map fun x=>Cg Q As Bs x.1 x.2).length<=1000000):=⟨by rw[List.length_map,List.length_take];have:=HPN.out;omega⟩
   have hkn':(k:Int)<pn:=by omega
   have d0:=HBT.out.cells.1;obtain⟨d2,d3⟩:=HD1.out.cells;clear hSk hbl Bb x0 x1 x2 hb1 hx1 HBr HO
   go_wp2_with fail
   refine(fF (HG.out.below HB1.out) (HA.out.below HB1.out) (HBB.out.below HB1.out) (by decide) (by decide) hn hm).mono ?_;rintro en w2 ⟨x,y,er,rfl,s1,s2,b2⟩;have hb3:Below w2.heap.size w2 (w2.alloc (.cells #[.slice x.1 x.2.1 x.2.2,.slice y.1 y.2.1 y.2.2] 75)):=Bq;have hx3:=Bx.made 75 w2 (.slice x.1 x.2.1 x.2.2) (.slice y.1 y.2.1 y.2.2);obtain⟨bs,hbs⟩:∃z,w2.heap.size=z:=⟨_,rfl⟩
   obtain⟨w3,hw3⟩:∃z,w2.alloc (.cells #[.slice x.1 x.2.1 x.2.2,.slice y.1 y.2.1 y.2.2] 75)=z:=⟨_,rfl⟩
   rw[hw3]at hb3 hx3
   rw[hbs]at hx3
   have hb23:=Ae b2 hb3;have HBS3:=Ab hx3;have HBT3:=Ab (HBT.out.later hb23);have HB3:=Ab (Ae HB1.out hb23);have HO3:=Ab (HO1.out.below hb23 fun s x y h=>h.below hb23);have HG3:=Ab (HG.out.below HB3.out);obtain⟨NN,hNN⟩:∃z,(Ui Q As J+Y)%Q=z:=⟨_,rfl⟩
   have HNN:=Ab hNN;have HPL:Aa (Cg Q As Bs J Y=(J,NN,Ui Q Bs J)):=⟨by rw[fM,hNN]⟩
   have HX3:=Ab ((Fit.of (e:=33) s1 (Nat.lt_trans (jG HQl.out.2.2.1 As J) HQl.out.2.2.2)).below hb3);have HSY:Aa (Cr w3 y (Ui Q Bs J)):=⟨s2.below hb3⟩
   have HLIM:Aa (NN<An 33/\Ui Q Bs J<An 33):=⟨by
    rw[<-hNN];exact⟨Nat.lt_trans (Nat.mod_lt _ (by have:=HQl.out;omega)) HQl.out.2.2.2,Nat.lt_trans (jG HQl.out.2.2.1 Bs J) HQl.out.2.2.2⟩⟩
   have HBSG:Aa (wa.heap.size<=bs):=⟨by rw[<-hbs];exact(Ae HB1.out b2).size⟩
   clear c0 c1 d0 d2 d3 b2 hb3 hx3 hb23 s1 s2 hNN HBT HB1 HO1 HD1 hw1 hbt;go_wp2;refine Aj (by kernel_rfl) (by kernel_rfl)
    [some (.pointer (some ⟨b,0,none⟩)),none,some (.pointer (some ⟨bs,0,none⟩)),some (.agg #[.slice x.1 x.2.1 x.2.2]),some (.pointer (some ⟨bt,1,none⟩)),some (.int .u64 (Y:Nat)),none,none,some (.pointer (some ⟨bs,0,none⟩)),none]
    [false,true,false,false,false,false,true,true,false,true] rfl
    (fun _ _=>True) (fun D sp w'=>C3 w3 Q Y NN bs (D 1) (D 6) (D 7) (D 9) (sp 1) (sp 6) (sp 7) w') (fun _ _ _=>True) (fun _ _ _ _ _ _=>trivial)
    C3.start ?_ ?_
   .simp only[Az,Nat.reduceAdd];refine⟨?_,?_,?_,?_,?_,?_,?_,?_,?_,?_,trivial⟩
    case refine_2=>
     intro D sp w' hD hW hdp hg;rw[hD]at hg
     have d4:=hg.n1;rw[d4]at hg
     have hp:=hg.pre rfl
     (with_reducible refine Ac (w1:=w') (f := 30) (args:=#[.pointer (some ⟨b,0,none⟩)]) ?_ ?_ ?_)
     .simp only[Region.wanted]
     .simp[Act.eval,Act.put,go_sem]
     .refine(kS (HG3.out.below hp)).mono ?_;rintro en w9 ⟨u,rfl,hu,hb⟩;exact⟨_,rfl,trivial,trivial,by simpa [upd,d4]using(hg.later hb).put1 hu⟩
    case refine_4=>
     intro D sp w' hD hW hdp hg;have dc:D 7=false:=hW 7 (mq (by kernel_rfl));rw[dc]at hg
     have d4:=hg.n3;rw[d4]at hg
     have hp:=hg.pre rfl;have c0:=(HBS3.out.below hp HBS3.out.lt).cells.1
     (with_reducible refine Ai (w1:=w') (v:=.agg #[.slice x.1 x.2.1 x.2.2]) ?_ ?_ ?_)
     .simp only[Region.wanted]
     .simp[execOp,Act.eval,Act.put,go_sem,c0]
     .exact⟨rfl,rfl⟩
    case refine_6=>
     intro D sp w' hD hW hdp hg;have dc:D 6=false:=hW 6 (mq (by kernel_rfl));rw[dc]at hg
     have d4:=hg.n2;rw[d4]at hg
     have hp:=hg.pre rfl;have c0:=(HBT3.out.below hp HBT3.out.lt).cells.2
     (with_reducible refine Ai (w1:=w') (v:=.int .u64 (Y:Nat)) ?_ ?_ ?_)
     .simp only[Region.wanted]
     .simp[execOp,Act.eval,Act.put,go_sem,c0]
     .exact⟨rfl,rfl⟩
    case refine_7=>
     intro D sp w' hD hW hdp hg;rw[hD]at hg
     have d4:=hg.n2;rw[d4]at hg
     have hp:=hg.pre rfl
     (with_reducible refine Ac (w1:=w') (f := 17) (args:=#[.int .u64 (Y:Nat)]) ?_ ?_ ?_)
     .simp only[Region.wanted]
     .simp[Act.eval,Act.put,go_sem]
     .refine(Bi _ HY64.out).mono ?_;rintro en w9 ⟨u,rfl,hu,hb⟩;exact⟨_,rfl,trivial,trivial,by simpa [upd,d4]using(hg.later hb).put2 hu⟩
    case refine_8=>
     intro D sp w' hD hW hdp hg;have d1:D 1=true:=(hdp 1 (mq (by kernel_rfl))).1;have d2:D 6=true:=(hdp 6 (mq (by kernel_rfl))).1;rw[hD,d1,d2]at hg
     have d4:=hg.n3;rw[d4]at hg
     have hp:=hg.pre rfl;have h1:∃r,sp 1=.pointer (some ⟨r,0,none⟩)/\Ring w' r Q 33:=hg.p1 rfl rfl
     (with_reducible refine Aw h1 fun r hr=>?_)
     have e1:=hr.1
     (with_reducible refine Ac (w1:=w') (f := 32) (args:=#[.pointer (some ⟨r,0,none⟩),.agg #[.slice x.1 x.2.1 x.2.2],sp 6]) ?_ ?_ ?_)
     .simp only[Region.wanted]
     .simp[Act.eval,Act.put,go_sem,e1]
     .refine(Ly hr.2 (HX3.out.below hp) (hg.p2 rfl rfl) (by decide) (by decide)).mono ?_;rintro en w9 ⟨u,rfl,hu,hb⟩;rw[HNN.out]at hu
      exact⟨_,rfl,trivial,trivial,by simpa [upd,d1,d2,d4]using(hg.later hb).put3 hu⟩
    case refine_10=>
     intro D sp w' hD hW hdp hg;have d3:D 7=true:=(hdp 7 (mq (by kernel_rfl))).1;rw[hD,d3]at hg
     have hx:∃p n c,sp 7=.agg #[.slice p n c]/\Ag w' p n c NN/\NN<An 33:=hg.p3 rfl rfl
     (with_reducible refine Aw hx fun pz hx1=>Aw hx1 fun nz hx2=>Aw hx2 fun cz hx3=>?_)
     have h1:=hx3.1;have hbx:=HBS3.out.below (hg.pre rfl) HBS3.out.lt;have g0:=hbx.cells.1;have g1:=hbx.free 0
     (with_reducible refine Ap (w1:=w'.setCell ⟨bs,0,none⟩ (.slice pz nz cz)) ?_ ?_ ?_)
     .simp only[Region.wanted]
     .simp[execOp,Act.eval,Act.put,go_sem,h1,g0,g1]
     .exact⟨trivial,trivial,by simpa [upd,d3]using hg.put4 (x:=(pz,nz,cz)) hx3.2.1⟩
    all_goals
     intro D sp w' hD hW hdp hg;simp[asked,Region.wanted,Oper.gives,execOp,Act.eval,Act.put,go_sem]
   .intro sp w9 hsp hg;obtain⟨w5,z,k1,k2,k3⟩:=hg.fin rfl;have hbx5:=HBS3.out.below k1 HBS3.out.lt;have hbe:Below wa.heap.size w5 w9:=by rw[k3];exact(Ba _ _).setCell HBSG.out _
    have HBS9:Aa (Bx 75 w9 bs (.slice z.1 z.2.1 z.2.2) (.slice y.1 y.2.1 y.2.2)):=⟨by rw[k3];exact hbx5.set0 _⟩
    have HZ9:Aa (Cr w9 z NN):=⟨by rw[k3];exact Nv k2 hbx5.at_⟩
    have HY9:Aa (Cr w9 y (Ui Q Bs J)):=⟨by rw[k3];exact Nv (HSY.out.below k1) hbx5.at_⟩
    have HB9:Aa (Below wa.heap.size wa w9):=⟨(Ae HB3.out k1).trans hbe⟩
    have hbt:Bx 102 w9 bt (.int .i64 J) (.int .u64 (Y:Nat)):=⟨by
     rw[k3,Below.heap_setCell _ _ _ _ (fun e=>by
      have h1:=(HBT3.out.below k1 HBT3.out.lt).at_
      have h2:=hbx5.at_
      rw[show bt=bs from e]at h1
      rw[h1]at h2
      injection h2 with h3
      injection h3 with _ h4
      exact absurd h4 (by decide))]
     exact(HBT3.out.below k1 HBT3.out.lt).at_⟩
    have HBT9:=Ab hbt;have ho9:=fP (u:=.slice z.1 z.2.1 z.2.2) (HO3.out.below k1 fun s x y h=>h.below k1) hbx5.at_ (by decide)
    rw[<-k3]at ho9
    have HO9:=Ab ho9;clear ho9;clear hsp hg k1 k2 k3 hbx5 hbe hbt HBS3 HBT3 HB3 HO3 HG3 HX3 HSY hw3 hbs;simp only[Al,Nat.reduceAdd];generalize sp 1=y1,sp 6=y6,sp 7=y7,sp 9=y9 at *
    go_simp
    have d0:=HBT9.out.cells.1;obtain⟨e0,e1⟩:=HBS9.out.cells;have hb10:Below w9.heap.size w9 (w9.alloc (.cells #[.int .i64 J,.slice z.1 z.2.1 z.2.2,.slice y.1 y.2.1 y.2.2] 92)):=Bq;have hx10:=Jn.made 92 w9 (.int .i64 J) (.slice z.1 z.2.1 z.2.2) (.slice y.1 y.2.1 y.2.2);obtain⟨wb,hwb⟩:∃zz,w9.alloc (.cells #[.int .i64 J,.slice z.1 z.2.1 z.2.2,.slice y.1 y.2.1 y.2.2] 92)=zz:=⟨_,rfl⟩
    rw[hwb]at hb10 hx10
    have hBb:=Ae HB9.out hb10;have hob:=HO9.out.below hb10 fun s x y h=>h.below hb10
    have hpc:Vt 33 (Cg Q As Bs J Y) z y wb:=by
     rw[HPL.out];exact⟨HZ9.out.below hb10,HY9.out.below hb10,HLIM.out.1,HLIM.out.2⟩
    have hc0:wb.cell? ⟨w9.heap.size,0,none⟩=some (.int .i64 (Cg Q As Bs J Y).1):=by rw[HPL.out];exact hx10.cells.1
    obtain⟨i1,hi1,hz1,hs1,hbb1⟩:=info_parts Tryz.info_Piece;obtain⟨vs0,hrx⟩:=hob.len;obtain⟨v9,wc,happ,hoc,hgc⟩:=hob.app Tryz.underlying88 hi1 hz1 hs1 hbb1 rfl (by decide) Qn hBb.size (g:=w9.heap.size) (c:=1) hc0 hx10.cells.2.1 hx10.cells.2.2 (fun w' s x y hg h=>h.grown hrx hg) hpc HOL.out 88;have HOc:=Ab hoc;have HBc:Aa (Below wa.heap.size wa wc):=⟨hBb.grown hgc hBb.size fun g hg=>(hob.block g hg).1⟩
    clear hb10 hx10 hBb hob hpc hc0 hi1 hz1 hs1 hbb1 hrx hoc hgc HO9 HZ9 HY9
    go_wp2_with (at_builtin;refine Lib.wpList_append_run _ rfl _ _ _ _ rfl _ _ rfl rfl _ _ happ ?_;refine Fd.out ?_)
    refine⟨?_⟩;clear happ d0 e0 e1 hwb;go_wp2;go_roundw
    case rel=>exact⟨k+1,by omega,by go_num,HBc,⟨by rw[HTK.out,List.map_append,List.map_singleton];exact HOc.out⟩⟩
    case measure=>simp[intOf];omega
  .obtain rfl:k=pn:=by omega
   have hkn':¬(k:Int)<k:=by omega
   have htk:l.take k=l:=List.take_of_length_le (by rw[<-HLn.out];exact Av _);rw[htk]at HO
   obtain⟨q,d9,rfl,hp⟩:=HO.out.ppcs;have HP:=Ab hp;have HBf:=Ab (HB.out.trans (HBr.out.mono HB.out.size));clear htk hp HO;go_wp2;go_ret;exact⟨q,d9,by rw[List.length_map];rfl,HP.out,HBf.out⟩
end Go.Proofs.YtokhckjemidbpaaGreatDoor
