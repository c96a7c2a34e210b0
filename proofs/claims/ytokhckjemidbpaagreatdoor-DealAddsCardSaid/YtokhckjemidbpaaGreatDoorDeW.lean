/- How a region stands in which two calls make a piece that a row of pieces grows by. -/
import Derived.Test.YtokhckjemidbpaaGreatDoorDeG
set_option maxRecDepth 1000000
set_option maxHeartbeats 16000000
set_option linter.all false
namespace Go.Proofs.YtokhckjemidbpaaGreatDoor
open Go Go.RowKit Go.Proofs.YtokhckjemidbpaaGreatDoor.Flow
theorem cW (w:World)(hr:Tabs w)(A t:Int)(S R:Nat)(hS:bM S)(hR:bM R)(p:Option Addr)(n c:Nat)(xs:List Nat)(h:Bq w .u64 p n c xs)(h64:∀x∈xs,bM x) :
  Calls Tryz.prog 47 #[.int .i64 A,.int .i64 t,.int .u64 (S:Nat),.int .u64 (R:Nat),.slice p n c] w (jA ((IntKind.u64.wrap A)%3).toNat (Nv t) S R w):=by
 have hx:=Cx.made 64 w (.slice none 0 0) (.slice none 0 0);have hb0:Below w.heap.size w (w.alloc (.cells #[.slice none 0 0,.slice none 0 0] 64)):=Bt;obtain⟨wa,hwa⟩:∃z,w.alloc (.cells #[.slice none 0 0,.slice none 0 0] 64)=z:=⟨_,rfl⟩
 rw[hwa]at hx hb0
 have HX:=Ab hx;have HB0:=Ab hb0;have HGR:=Ab (Mk wa A (hr.below hb0 hr.size));have HRW:=Ab h;have H64:=Ab h64;have hcap:=h.cap;have hmax:=h.max;have HS64:Aa (S<18446744073709551616):=⟨hS⟩
 have HR64:Aa (R<18446744073709551616):=⟨hR⟩
 obtain⟨i,hi⟩:∃i,((IntKind.u64.wrap A)%3).toNat=i:=⟨_,rfl⟩
 obtain⟨hm,hm5⟩:=Zq t;obtain⟨M,hM⟩:∃k,Nv t=k:=⟨_,rfl⟩
 rw[hM]at hm hm5 ⊢
 rw[hi]at HGR ⊢
 obtain⟨T,hT⟩:∃k,M+1=k:=⟨_,rfl⟩
 obtain⟨M2,hM2⟩:∃k,2*M=k:=⟨_,rfl⟩
 obtain⟨T2,hT2⟩:∃k,2*T=k:=⟨_,rfl⟩
 have HTM:Aa (T=M+1):=⟨hT.symm⟩
 have HT64:Aa (T<=64):=⟨by omega⟩
 have HMM:Aa (M2=2*M):=⟨hM2.symm⟩
 have r1:(1:Int)+M=T:=by omega
 have r2:2*(T:Int)=T2:=by omega
 have r3:(T2:Int)-2=M2:=by omega
 have hT6:T<=6:=by omega
 have hT26:T2<=12:=by omega
 have hM26:M2<=10:=by omega
 have hU:0<=IntKind.u64.wrap t:=by rw[IntKind.wrap_u64];omega
 clear hx hb0 hr h h64 hi hM hT hM2 hT2 hS hR;go_enter Tryz.func47,Tryz.ntmps47
 go_wp2_with fail
 refine HGR.out.mono ?_;rintro en w1 ⟨b,rfl,hg,b1⟩;have HG:=Ab hg;have HB1a:=Ab (Af HB0.out b1);have HB1:=Ab (Af HB0.out b1);have HX1:=Ab (HX.out.later b1);clear hg b1 HX HB0 HGR hwa;obtain⟨N1,hN1⟩:∃k,min n 12=k:=⟨_,rfl⟩
 have hmin:min (n:Int) 12=(N1:Int):=by omega
 have hN1c:N1<=n:=by omega
 have hN12':N1<=12:=by omega
 clear hN1
 go_wp2_with fail
 refine(Zj w1 p N1 c (xs.take N1) ((HRW.out.below HB1a.out).take N1 hN1c) (fun x hx=>H64.out x (List.mem_of_mem_take hx)) (by omega)).mono ?_;rintro en w2 ⟨vl,us,rfl,hrs,htr,b2⟩;have HRS:=Ab hrs;have HTR:=Ab htr;have HB2:=Ab b2;clear hrs htr b2 hmin;go_wp2
 go_loopw [15] (fun vl wr=>∃(us:List P3) (Ns:List Nat),Ns.length<=12/\Aa (Below w1.heap.size w1 wr)/\Aa (Cy wr w1.heap.size vl us)/\Aa (Cn wr 2 us Ns)) (fun vl _=>12-lenV vl)
 case atStart=>exact⟨us,_,by rw[List.length_take];omega,HB2,HRS,HTR⟩
 case round=>
  clear HB2 HRS HTR us;obtain⟨us,Ns,hN12,HBr,HR,HT⟩:=hrel;obtain⟨pv,cv,hv⟩:=HR.out.slice;obtain⟨n1,hn1⟩:∃l,us.length=l:=⟨_,rfl⟩
  rw[hn1]at hv
  subst hv;have hNn:Ns.length=n1:=by rw[<-HT.out.len,hn1]
  have HNn:=Ab hNn;have hn12:n1<=12:=by omega
  by_cases hlt:n1<M2
  .have hlt':(n1:Int)<M2:=by omega
   have hw64:IntKind.u64.wrap (n1:Int)=n1:=IntWalk.u64_in _ (by omega);have HUS:Aa (us.length<=100000):=⟨by rw[hn1];omega⟩
   have hN64:n1<18446744073709551616:=by omega
   have HN10:Aa (n1<12):=⟨by omega⟩
   clear hn1 hNn hN12 hlt
   go_wp2_with fail
   refine(Br _ hN64).mono ?_;rintro en w4 ⟨_,rfl,⟨po,no,co,rfl,o1,o2⟩,b4⟩;have hb5:Below w4.heap.size w4 (w4.alloc (.cells #[.slice po no co] 37)):=Bt;have hx5:(w4.alloc (.cells #[.slice po no co] 37)).cell? ⟨w4.heap.size,0,none⟩=some (.slice po no co):=(Ae.made w4 (.slice po no co)).cell;obtain⟨w5,hw5⟩:∃z,w4.alloc (.cells #[.slice po no co] 37)=z:=⟨_,rfl⟩
   rw[hw5]at hb5 hx5
   have hb45:=Af b4 hb5;have hs5:=HR.out.below hb45;have hB5:=Af HBr.out hb45;obtain⟨v9,w6,happ,hr6,hg6,hmv⟩:=hs5.app (x:=(po,no,co)) hx5 hB5.size HUS.out 62 (c:=1);have HT6:Aa (Cn w6 2 (us++[(po,no,co)]) (Ns++[n1])):=⟨((HT.out.below hb45).grown hs5 hg6).snoc (x:=(po,no,co)) (Dx hs5 hg6 (o1.below hb5)) o2⟩
   have HB6:Aa (Below w1.heap.size w1 w6):=⟨hB5.grown hg6 hB5.size fun g hg=>(hs5.own hg).1⟩
   have HS6:=Ab hr6;have HL6:Aa (lenV v9=n1+1):=⟨by
    obtain⟨p9,c9,e9⟩:=hr6.slice;rw[e9,List.length_append,HT.out.len,HNn.out];rfl⟩
   clear hb5 hx5 hb45 hs5 hB5 hr6 hg6 hmv b4 o1 o2 HR HT HBr hw64
   go_wp2_with (at_builtin;refine Lib.wpList_append_run _ rfl _ _ _ _ rfl _ _ rfl rfl _ _ happ ?_;refine Gn.out ?_)
   refine⟨?_⟩;clear happ hw5;go_wp2;go_roundw
   case rel=>exact⟨_,_,by rw[List.length_append,HNn.out];exact HN10.out,HB6,HS6,HT6⟩
   case measure=>
    rw[HL6.out];show 12-(n1+1)<12-n1;have:=HN10.out;omega
  .have hlt':¬(n1:Int)<M2:=by omega
   obtain⟨q,d,hqd,hp⟩:=HR.out.plist HT.out;rw[hNn]at hqd hp
   cases hqd;have HP:=Ab hp;have HM2:Aa (2*M<=n1):=⟨by have:=HMM.out;omega⟩
   have HTK:Aa ((Ns.take M).length=M/\((Ns.drop M).take M).length=M):=⟨by rw[List.length_take,List.length_take,List.length_drop];have:=HMM.out;omega⟩
   have HG3:=Ab (HG.out.below HBr.out);have HB3:=Ab (Af HB1.out HBr.out);have HX3:=Ab (HX1.out.below HBr.out HX1.out.lt);have hn1k:n1<=1000:=by omega
   clear hn1 hNn hp HR HT HBr hlt hN12 hn12 HG HX1
   go_wp2_with fail
   refine(Br _ HS64.out).mono ?_;rintro en w4 ⟨_,rfl,⟨ps,ns,cs,rfl,s1,s2⟩,b4⟩;have HFS:=Ab (Fit.of s1 s2);have HG4:=Ab (HG3.out.below b4);have HP4:=Ab (HP.out.below b4);have HX4:=Ab (HX3.out.later b4);have HB4:=Ab (Af HB3.out b4);clear s1 s2 b4 HG3 HP HX3 HB3
   go_wp2_with fail
   refine(Br _ HR64.out).mono ?_;rintro en w5 ⟨_,rfl,⟨pr,nr,cr,rfl,r1,r2⟩,b5⟩;have HFR:=Ab (Fit.of r1 r2);have HFS5:=Ab (HFS.out.below b5);have HG5:=Ab (HG4.out.below b5);have HP5:=Ab (HP4.out.below b5);have HX5:=Ab (HX4.out.later b5);have HB5:=Ab (Af HB4.out b5);clear r1 r2 b5 HFS HG4 HP4 HX4 HB4
   go_wp2_with fail
   refine(nT (T:=T) (M:=M) HG5.out HFS5.out HFR.out HP5.out (by decide) (by decide) (by decide) hn1k HTM.out HT64.out HM2.out).mono ?_;rintro en w6 ⟨p1,c1,p2,c2,rfl,h1,h2,⟨h3,h4⟩,b6⟩;have HF1:Aa (∀a,p1=some a->w.heap.size+1<=a.block):=⟨fun a ha=>Er HX5.out.lt (h3 a ha)⟩
   have HF2:Aa (∀a,p2=some a->w.heap.size+1<=a.block):=⟨fun a ha=>Er HX5.out.lt (h4 a ha)⟩
   have hb7:Below w6.heap.size w6 (w6.alloc (.cells #[.slice p1 T c1,.slice p2 T c2] 64)):=Bt;have hx7:=Cx.made 64 w6 (.slice p1 T c1) (.slice p2 T c2);obtain⟨bd,hbd⟩:∃z,w6.heap.size=z:=⟨_,rfl⟩
   obtain⟨w7,hw7⟩:∃z,w6.alloc (.cells #[.slice p1 T c1,.slice p2 T c2] 64)=z:=⟨_,rfl⟩
   rw[hw7]at hb7 hx7
   rw[hbd]at hx7
   have hb67:=Af b6 hb7;have HX7:=Ab (HX5.out.later hb67);have HXD7:=Ab hx7;have HG7:=Ab (HG5.out.below hb67);have HL17:=Ab (h1.below hb7);have HL27:=Ab (h2.below hb7);have HB7:=Ab (Af HB5.out hb67);have HBD:Aa (w.heap.size<bd):=⟨by rw[<-hbd];exact Da HX5.out.lt b6.size⟩
   clear h1 h2 h3 h4 b6 hb7 hx7 hb67 HX5 HFS5 HFR HG5 HP5 HB5;obtain⟨dd0,dd1⟩:=HXD7.out.cells;obtain⟨dx0,dx1⟩:=HX7.out.cells;have fx0:=HX7.out.free 0;have fx1:=HX7.out.free 1;have hz2:=HX7.out.set (.slice p1 T c1) (.slice p2 T c2);obtain⟨z0,z1⟩:=hz2.cells;have hne:w.heap.size≠bd:=by have:=HBD.out;omega
   obtain⟨wz,hwz⟩:∃z,((w7.setCell ⟨w.heap.size,0,none⟩ (.slice p1 T c1)).setCell ⟨w.heap.size,1,none⟩ (.slice p2 T c2)).drew=z:=⟨_,rfl⟩
   have z2:wz.cell? ⟨w.heap.size,0,none⟩=some (.slice p1 T c1):=by rw[<-hwz];exact z0
   have z3:wz.cell? ⟨w.heap.size,1,none⟩=some (.slice p2 T c2):=by rw[<-hwz];exact z1
   have hk:=put2 (u0:=.slice p1 T c1) (u1:=.slice p2 T c2) HX7.out.at_
   have hbz0:Below w.heap.size w7 wz:=by rw[<-hwz];exact(hk.bel _ (Aw _)).drew
   have HBz:=Ab (HB7.out.trans hbz0);have HNz:Aa (Aq wz 33 p1 T c1 (Fv (gQ i) S (Ns.take M))/\Aq wz 33 p2 T c2 (Fv (gQ i) R ((Ns.drop M).take M))):=⟨by
    rw[<-hwz];exact⟨(Jg (x:=(none,0,0)) (y:=(none,0,0)) HL17.out HX7.out.at_ (Nat.lt_succ_self _) HF1.out).below ((Ba _ _).drew),(Jg (x:=(none,0,0)) (y:=(none,0,0)) HL27.out HX7.out.at_ (Nat.lt_succ_self _) HF2.out).below ((Ba _ _).drew)⟩⟩
   have HGz:Aa (Au wz b (gP i) (gQ i) (gG i) (gH i)):=⟨by
    rw[<-hwz];exact(dG (x:=(none,0,0)) (y:=(none,0,0)) HG7.out HX7.out.at_ (by decide) (by decide)).below ((Ba _ _).drew)⟩
   clear hz2 hk hbz0;go_wp2
   go_region
   clear z0 z1 dd0 dd1 dx0 dx1 fx0 fx1 hwz;go_wp2;exact bodyPost_ret (v:=.tuple #[.pointer (some ⟨b,0,none⟩),.int .i64 (T:Int),.agg #[.slice p1 T c1,.slice p2 T c2],.bool true]) (by simp[results,Tryz.results47,go_sem,z2,z3]) rfl ⟨b,p1,c1,p2,c2,Ns.take M,(Ns.drop M).take M,by rw[HTM.out],HTK.out.1,HTK.out.2,HGz.out,by rw[<-HTM.out];exact HNz.out.1,by rw[<-HTM.out];exact HNz.out.2,HBz.out⟩
theorem mem_pl {P Q G H s r:Nat}(hP:2<=P)(hQ:1<=Q)(hG:G^Q%P=1%P)(hH:H^Q%P=1%P):Qw P Q (Du P Q G H s r)=true:=by
 have h1:(Du P Q G H s r)^Q%P=1:=by
  rw[Il hG hH,<-Nat.pow_mod,Nat.mul_pow,<-Nat.pow_mul,<-Nat.pow_mul,Nat.mul_comm s,Nat.mul_comm r,Nat.pow_mul,Nat.pow_mul,Nat.mul_mod,Nat.pow_mod (G^Q),Nat.pow_mod (H^Q),hG,hH,<-Nat.pow_mod,<-Nat.pow_mod,Nat.one_pow,Nat.one_pow,<-Nat.mul_mod,Nat.mod_eq_of_lt (by omega)]
 unfold Qw;refine decide_eq_true ⟨?_,Wr (by omega),h1⟩;rcases Nat.eq_zero_or_pos (Du P Q G H s r) with h|h
 .rw[h,Nat.zero_pow (by omega),Nat.zero_mod]at h1
  omega
 .exact h
theorem gK {P Q G H:Nat}{vs ms:List Nat}(hP:2<=P)(hQ:1<=Q)(hG:G^Q%P=1%P)(hH:H^Q%P=1%P):(Bj P Q G H vs ms).all (Qw P Q)=true:=by
 rw[List.all_eq_true];intro c hc;unfold Bj at hc;obtain⟨p,_,rfl⟩:=List.mem_map.1 hc;exact mem_pl hP hQ hG hH
theorem cQ {P Q G H j:Nat}{vs ms:List Nat}(hP:2<=P)(hQ:2<=Q)(hG:G^Q%P=1%P)(hH:H^Q%P=1%P):Hy P Q G H (Bj P Q G H vs ms) j (Be Q j vs) (Be Q j ms)=true:=by
 unfold Hy;rw[Uw hP hQ hG hH,decide_eq_true (Eu hQ _),decide_eq_true (Eu hQ _),decide_eq_true rfl];rfl
theorem lA (i:Nat)(hi:i<3):gG i%gP i≠1%gP i:=by
 have h:=Ip i hi;rw[Nat.mod_eq_of_lt (by omega),Nat.mod_eq_of_lt (by omega)];omega
def sumP (Q:Nat)(vs ms us ns:List Nat)(T:Nat):List Fi:=(List.range T).map fun i=>(((i+1:Nat):Int),(Be Q (i+1) vs+Be Q (i+1) us)%Q,(Be Q (i+1) ms+Be Q (i+1) ns)%Q)
theorem Uo {P Q G H j:Nat}{vs ms us ns:List Nat}{i:Nat}(hP:2<=P)(hQ:2<=Q)(hG:G^Q%P=1%P)(hH:H^Q%P=1%P) :
  Pb P Q G H (Bj P Q G H (Dc Q vs us) (Dc Q ms ns)) j (((i+1:Nat):Int),(Be Q (i+1) vs+Be Q (i+1) us)%Q,(Be Q (i+1) ms+Be Q (i+1) ns)%Q)=decide (i+1=j):=by
 unfold Pb;rw[<-Jl hQ,<-Jl hQ,Uw hP hQ hG hH]
 dsimp only
 rw[decide_eq_true (Eu hQ _),decide_eq_true (Eu hQ _)]
 by_cases h:i+1=j
 .subst h;simp
 .rw[decide_eq_false h,decide_eq_false (fun e=>h (by omega)),Bool.false_and]
theorem fF {P Q G H T j:Nat}{vs ms us ns:List Nat}(hP:2<=P)(hQ:2<=Q)(hG:G^Q%P=1%P)(hH:H^Q%P=1%P){p:Fi}(h:Pj P Q G H (Bj P Q G H (Dc Q vs us) (Dc Q ms ns)) (sumP Q vs ms us ns T) j=some p):p=((j:Int),Be Q j (Dc Q vs us),Be Q j (Dc Q ms ns)):=by
 have hf:=List.find?_some h;obtain⟨i,hi,rfl⟩:=List.mem_map.1 (Kw h).1;rw[Uo hP hQ hG hH,decide_eq_true_eq]at hf
 subst hf;rw[Jl hQ,Jl hQ]
theorem Up {P Q G H T:Nat}{vs ms us ns:List Nat}(hP:2<=P)(hQ:2<=Q)(hG:G^Q%P=1%P)(hH:H^Q%P=1%P)(hT:T<=64) :
  (Cg P Q G H T (Bj P Q G H (Dc Q vs us) (Dc Q ms ns)) (sumP Q vs ms us ns T) 64).length=T:=by
 refine aX (a:=0) (b:=1) (by decide) (fun i hi=>?_) (fun i hi=>by omega)
 cases h:Pj P Q G H (Bj P Q G H (Dc Q vs us) (Dc Q ms ns)) (sumP Q vs ms us ns T) (0+1+i*1) with
 | some p=>exact⟨p,rfl⟩
 | none=>
  have h3:=List.find?_eq_none.1 h _ (List.mem_map.2 ⟨i,List.mem_range.2 hi,rfl⟩);rw[Uo hP hQ hG hH,decide_eq_true_eq]at h3
  omega
theorem jI {P Q G H T:Nat}{vs ms us ns:List Nat}(hQ:Bl Q)(hq:64<Q)(hP:2<=P)(hG:G^Q%P=1%P)(hH:H^Q%P=1%P)(hv:vs.length=T)(hu:us.length=T)(hT:T<=64)(X:Nat) :
  Px Q X (fun p=>p.2.1) (Cg P Q G H T (Bj P Q G H (Dc Q vs us) (Dc Q ms ns)) (sumP Q vs ms us ns T) 64)=Be Q X (Dc Q vs us):=by
 have h2:=hQ.two;refine fE hQ hq (fun p hp=>?_) ?_ X
 .obtain⟨i,hi,he⟩:=Sx hp;rw[fF hP h2 hG hH he];rfl
 .rw[Up hP h2 hG hH hT,Do,hv,hu,Nat.max_self];exact Aw _
section
variable {W:World} {Q Y N b:Nat} {d1 d2 d3 d4:Bool} {v1 v2 v3:Value} {w:World}
end
theorem Qy:∀u∈(Value.agg #[.int .i64 0,.slice none 0 0,.slice none 0 0]).cells.toList,Fl u:=fun u hu=>by
 simp[Value.cells]at hu
 rcases hu with rfl|rfl|rfl<;>first|exact Fl.int _|exact Fl.slice _ _ _
section
variable {w:World} {B:Nat} {v:Value} {l:List (Int×Nat)}
end
theorem Vz {w:World}{b P Q GG HH T c c2:Nat}{p p2:Option Addr}{As Bs:List Nat}(hG:Au w b P Q GG HH)(hA:Aq w 33 p T c As)(hB:Aq w 33 p2 T c2 Bs)(hT:T<=1000) :
  Calls Tryz.prog 43 #[.agg #[.slice p T c,.slice p2 T c2],.pointer (some ⟨b,0,none⟩)] w fun en w'=>∃u,en=.returned u/\oW T (Bj P Q GG HH As Bs) u w'/\Below w.heap.size w w':=by
 have h:=Xj hG hA hB (by decide) (by decide) hT hT;rw[Nat.max_self]at h
 exact h
structure PA (W:World) (B:Nat) (vo:Value) (l:List Fi) (s:Fi) (d1 d2 d3 d4 d5 d6 d7:Bool) (v1 v2 v3 v4 v5 v6 v7:Value) (w:World):Prop where
 pre:d6=false->Below W.heap.size W w
 p1:d6=false->d1=true->Fit 33 s.2.1 v1 w
 p2:d6=false->d2=true->Fit 33 s.2.2 v2 w
 p3:d6=false->d3=true->∃x y:P3,v3=.agg #[.slice x.1 x.2.1 x.2.2,.slice y.1 y.2.1 y.2.2]/\Pn 33 s x y w
 p4:d6=false->d4=true->∃x y:P3,v4=.agg #[.int .i64 s.1,.slice x.1 x.2.1 x.2.2,.slice y.1 y.2.1 y.2.2]/\Pn 33 s x y w
 p5:d6=false->d5=true->∃(g:Nat) (x y:P3),v5=.slice (some ⟨g,0,none⟩) 1 1/\If 92 w g (.int .i64 s.1) (.slice x.1 x.2.1 x.2.2) (.slice y.1 y.2.1 y.2.2)/\Pn 33 s x y w
 fin:d6=true->∃w1:World,Below W.heap.size W w1/\w1.grownBy w vo.ownBlock/\Iz (Pn 33) 92 B w v6 (l++[s])
 same:d7=true->d6=true/\v7=v6
 o3:d3=true->d1=true/\d2=true
 o4:d4=true->d3=true
 o5:d5=true->d4=true
 o6:d6=true->d5=true
section
variable {W:World} {B:Nat} {vo:Value} {l:List Fi} {s:Fi} {d1 d2 d3 d4 d5 d6 d7:Bool} {v1 v2 v3 v4 v5 v6 v7:Value} {w:World}
theorem PA.start:PA W B vo l s false false false false false false false v1 v2 v3 v4 v5 v6 v7 W.drew :=
 ⟨fun _=>(Ba _ _).drew,(fun _ e=>by cases e),(fun _ e=>by cases e),(fun _ e=>by cases e),(fun _ e=>by cases e),(fun _ e=>by cases e),(fun e=>by cases e),(fun e=>by cases e),(fun e=>by cases e),(fun e=>by cases e),(fun e=>by cases e),fun e=>by cases e⟩
theorem PA.later {w':World}(h:PA W B vo l s d1 d2 d3 d4 d5 false d7 v1 v2 v3 v4 v5 v6 v7 w)(hb:Below w.heap.size w w'):PA W B vo l s d1 d2 d3 d4 d5 false d7 v1 v2 v3 v4 v5 v6 v7 w' :=
 ⟨fun e=>Af (h.pre e) hb,fun e k=>(h.p1 e k).below hb,fun e k=>(h.p2 e k).below hb,fun e k=>let ⟨x,y,k1,k2⟩:=h.p3 e k;⟨x,y,k1,k2.below hb⟩,fun e k=>let ⟨x,y,k1,k2⟩:=h.p4 e k;⟨x,y,k1,k2.below hb⟩,
 fun e k=>let ⟨g,x,y,k1,k2,k3⟩:=h.p5 e k;⟨g,x,y,k1,k2.below hb k2.lt,k3.below hb⟩,(fun e=>by cases e),(fun e=>by have:=(h.same e).1;cases this),h.o3,h.o4,h.o5,fun e=>by cases e⟩
theorem PA.n5 (h:PA W B vo l s d1 d2 d3 d4 false d6 d7 v1 v2 v3 v4 v5 v6 v7 w):d6=false:=by
 cases d6 with
 | false=>rfl
 | true=>have:=h.o6 rfl;cases this
theorem PA.n4 (h:PA W B vo l s d1 d2 d3 false d5 d6 d7 v1 v2 v3 v4 v5 v6 v7 w):d6=false:=by
 cases d5 with
 | false=>exact h.n5
 | true=>have:=h.o5 rfl;cases this
theorem PA.n3 (h:PA W B vo l s d1 d2 false d4 d5 d6 d7 v1 v2 v3 v4 v5 v6 v7 w):d6=false:=by
 cases d4 with
 | false=>exact h.n4
 | true=>have:=h.o4 rfl;cases this
theorem PA.n1 (h:PA W B vo l s false d2 d3 d4 d5 d6 d7 v1 v2 v3 v4 v5 v6 v7 w):d6=false:=by
 cases d3 with
 | false=>exact h.n3
 | true=>have:=(h.o3 rfl).1;cases this
theorem PA.n2 (h:PA W B vo l s d1 false d3 d4 d5 d6 d7 v1 v2 v3 v4 v5 v6 v7 w):d6=false:=by
 cases d3 with
 | false=>exact h.n3
 | true=>have:=(h.o3 rfl).2;cases this
theorem PA.put1 (h:PA W B vo l s false d2 d3 d4 d5 false d7 v1 v2 v3 v4 v5 v6 v7 w){u:Value}(hu:Fit 33 s.2.1 u w):PA W B vo l s true d2 d3 d4 d5 false d7 u v2 v3 v4 v5 v6 v7 w :=
 ⟨h.pre,fun _ _=>hu,h.p2,h.p3,h.p4,h.p5,h.fin,h.same,(fun k=>⟨rfl,(h.o3 k).2⟩),h.o4,h.o5,h.o6⟩
theorem PA.put2 (h:PA W B vo l s d1 false d3 d4 d5 false d7 v1 v2 v3 v4 v5 v6 v7 w){u:Value}(hu:Fit 33 s.2.2 u w):PA W B vo l s d1 true d3 d4 d5 false d7 v1 u v3 v4 v5 v6 v7 w :=
 ⟨h.pre,h.p1,fun _ _=>hu,h.p3,h.p4,h.p5,h.fin,h.same,(fun k=>⟨(h.o3 k).1,rfl⟩),h.o4,h.o5,h.o6⟩
theorem PA.put3 (h:PA W B vo l s true true d3 d4 d5 false d7 v1 v2 v3 v4 v5 v6 v7 w){x y:P3}(hx:Pn 33 s x y w):PA W B vo l s true true true d4 d5 false d7 v1 v2 (.agg #[.slice x.1 x.2.1 x.2.2,.slice y.1 y.2.1 y.2.2]) v4 v5 v6 v7 w :=
 ⟨h.pre,h.p1,h.p2,fun _ _=>⟨x,y,rfl,hx⟩,h.p4,h.p5,h.fin,h.same,fun _=>⟨rfl,rfl⟩,fun _=>rfl,h.o5,h.o6⟩
theorem PA.put4 (h:PA W B vo l s d1 d2 true d4 d5 false d7 v1 v2 v3 v4 v5 v6 v7 w){x y:P3}(hx:Pn 33 s x y w):PA W B vo l s d1 d2 true true d5 false d7 v1 v2 v3 (.agg #[.int .i64 s.1,.slice x.1 x.2.1 x.2.2,.slice y.1 y.2.1 y.2.2]) v5 v6 v7 w :=
 ⟨h.pre,h.p1,h.p2,h.p3,fun _ _=>⟨x,y,rfl,hx⟩,h.p5,h.fin,h.same,h.o3,fun _=>rfl,fun _=>rfl,h.o6⟩
theorem PA.put5 (h:PA W B vo l s d1 d2 d3 true d5 false d7 v1 v2 v3 v4 v5 v6 v7 w){g:Nat}{x y:P3}(hb:If 92 w g (.int .i64 s.1) (.slice x.1 x.2.1 x.2.2) (.slice y.1 y.2.1 y.2.2))(hx:Pn 33 s x y w):PA W B vo l s d1 d2 d3 true true false d7 v1 v2 v3 v4 (.slice (some ⟨g,0,none⟩) 1 1) v6 v7 w :=
 ⟨h.pre,h.p1,h.p2,h.p3,h.p4,fun _ _=>⟨g,x,y,rfl,hb,hx⟩,h.fin,h.same,h.o3,h.o4,fun _=>rfl,fun _=>rfl⟩
theorem PA.put6 (h:PA W B vo l s d1 d2 d3 d4 true false d7 v1 v2 v3 v4 v5 v6 v7 w)(hr:Iz (Pn 33) 92 B W vo l)(hB:B<=W.heap.size)(hl:l.length<=1000000)(ty:TypeId) :
  ∃g v' w',v5=.slice (some ⟨g,0,none⟩) 1 1/\(Builtin.append_ #[88, 88] ty #[vo,.slice (some ⟨g,0,none⟩) 1 1]).run Tryz.prog w=.ok v' w'/\PA W B vo l s d1 d2 d3 d4 true true d7 v1 v2 v3 v4 v5 v' v7 w':=by
 have hb:=h.pre rfl;obtain⟨g,x,y,k1,k2,k3⟩:=h.p5 rfl rfl;have hob:=hr.below hb fun s x y h=>h.below hb
 obtain⟨i1,hi1,hz1,hs1,hbb1⟩:=info_parts Tryz.info_Piece;obtain⟨vs0,hrx⟩:=hob.len;obtain⟨v',w',happ,hoc,hgc⟩:=hob.app Tryz.underlying88 hi1 hz1 hs1 hbb1 rfl (by decide) Qy (Er hB hb.size) (g:=g) (c:=1) k2.cells.1 k2.cells.2.1 k2.cells.2.2 (fun w' s x y hg h=>h.grown hrx hg) k3 hl ty;exact⟨g,v',w',k1,happ,(fun e=>by cases e),(fun e=>by cases e),(fun e=>by cases e),(fun e=>by cases e),(fun e=>by cases e),(fun e=>by cases e),(fun _=>⟨w,hb,hgc,hoc⟩),(fun e=>by have:=(h.same e).1;cases this),h.o3,h.o4,h.o5,fun _=>rfl⟩
theorem PA.put7 (h:PA W B vo l s d1 d2 d3 d4 d5 true false v1 v2 v3 v4 v5 v6 v7 w):PA W B vo l s d1 d2 d3 d4 d5 true true v1 v2 v3 v4 v5 v6 v6 w :=
 ⟨h.pre,h.p1,h.p2,h.p3,h.p4,h.p5,h.fin,(fun _=>⟨rfl,rfl⟩),h.o3,h.o4,h.o5,h.o6⟩
end
theorem pH {w:World}{e n1 c1 n2 c2:Nat}{p1 p2:Option Addr}{L1 L2:List Nat}(h1:Aq w e p1 n1 c1 L1)(h2:Aq w e p2 n2 c2 L2):Te (w.alloc (.cells #[.slice p1 n1 c1,.slice p2 n2 c2] 62)) e (some ⟨w.heap.size,0,none⟩) 2 [L1,L2]:=by
 obtain⟨W,hW⟩:∃W,w.alloc (.cells #[.slice p1 n1 c1,.slice p2 n2 c2] 62)=W:=⟨_,rfl⟩
 obtain⟨g,hg⟩:∃g,w.heap.size=g:=⟨_,rfl⟩
 have hb:Below w.heap.size w W:=by
  rw[<-hW];exact(Ba _ _).alloc (Aw _) _
 have hn:W.heap[g]? = some (.cells #[.slice p1 n1 c1,.slice p2 n2 c2] 62 (0,0)):=by
  rw[<-hW,<-hg];exact heap_alloc_new w _
 rw[hW,hg];refine⟨rfl,fun _=>⟨g,0,rfl,(Gs hn).1,fun i L hL=>?_⟩⟩
 match i,hL with
 | 0,hL=>simp at hL;subst hL;exact⟨p1,n1,c1,by simp[World.cell?,hn],h1.below hb⟩
 | 1,hL=>simp at hL;subst hL;exact⟨p2,n2,c2,by simp[World.cell?,hn],h2.below hb⟩
 | i+2,hL=>simp at hL
def eU (e:Nat)(L1 L2:List Nat)(v:Value)(w:World):Prop:=∃p,v=.slice p 2 2/\Te w e p 2 [L1,L2]
theorem eU.below {e:Nat}{L1 L2:List Nat}{v:Value}{w w':World}(h:eU e L1 L2 v w)(hb:Below w.heap.size w w'):eU e L1 L2 v w':=let ⟨p,h1,h2⟩:=h;⟨p,h1,h2.below hb⟩
def qQ (S R:Nat)(v:Value)(w:World):Prop:=∃x y:P3,v=.agg #[.slice x.1 x.2.1 x.2.2,.slice y.1 y.2.1 y.2.2]/\(Cw w x S/\S<An 33)/\(Cw w y R/\R<An 33)
theorem qQ.below {S R:Nat}{v:Value}{w w':World}(h:qQ S R v w)(hb:Below w.heap.size w w'):qQ S R v w':=let ⟨x,y,h1,h2,h3⟩:=h;⟨x,y,h1,⟨h2.1.below hb,h2.2⟩,⟨h3.1.below hb,h3.2⟩⟩
theorem fH (Q:Nat)(vs ms us ns:List Nat)(k:Nat):sumP Q vs ms us ns (k+1)=sumP Q vs ms us ns k++[(((k+1:Nat):Int),(Be Q (k+1) vs+Be Q (k+1) us)%Q,(Be Q (k+1) ms+Be Q (k+1) ns)%Q)]:=by
 unfold sumP;rw[List.range_succ,List.map_append];rfl
end Go.Proofs.YtokhckjemidbpaaGreatDoor
