/- Groups over numbers, more: a product of powers bit by bit, the number behind a second base, what New tells of the laws' groups. -/
import Derived.Test.YthgoeiegdhphjaaGreatDoorMacE
import Derived.Test.YthgoeiegdhphjaaGreatDoorGrpN
import Derived.Laws.OwnMore
import Derived.Lib.AppendZeros
import Derived.ArgAppend
set_option maxRecDepth 1000000
set_option maxHeartbeats 16000000
set_option linter.all false
namespace Go.Proofs.YthgoeiegdhphjaaGreatDoor
def Sf (n:Nat):List Nat:=(List.range 8).map fun i=>n/256^i%256
theorem Fd (n:Nat):(Sf n).length=8:=by simp[Sf]
theorem Wl (n:Nat):Ay (Sf n):=fun x hx=>by
 simp only[Sf,List.mem_map]at hx;obtain⟨i,_,rfl⟩:=hx;exact Nat.mod_lt _ (by decide)
def Cd:List (List Nat)->List Nat
 | []=>[]
 | p::L=>Sf p.length++p++Cd L
theorem Lr:∀(L:List (List Nat)) (p:List Nat),Cd (L++[p])=Cd L++(Sf p.length++p)
 | [],p=>by simp[Cd]
 | a::L,p=>by simp[Cd,Lr L p]
def Lt (P:Nat):Nat->List (Nat×Nat)->Nat
 | x,[]=>x
 | x,(b,e)::l=>Lt P (x*(b^e%P)%P) l
theorem Tp {P:Nat}(hP:2<=P):∀(l:List (Nat×Nat)) (x:Nat),x<P->Lt P x l<P
 | [],_,h=>h
 | (_,_)::l,_,_=>Tp hP l _ (Nat.mod_lt _ (by omega))
open Go Go.RowKit Go.Proofs.YthgoeiegdhphjaaGreatDoor.Flow
theorem qH {bs:List Nat}(h:Ay bs):Ap (be bs)<=8*bs.length:=by
 refine(Bi _ _).2 ?_;have:=h.reverse.lt;rw[Ib]at this
 simpa [be]using this
theorem Ai.grown {w w':World}{p:Option Addr}{n c N g:Nat}(h:Ai w p n c N)(hg:w.grownBy w' (some g))(hp:∀q,p=some q->q.block≠g):Ai w' p n c N :=
 let ⟨ws,h1,h2,h3,h4⟩:=h.ex
 ⟨ws,h1.grown hg hp,h2,h3,h4⟩
theorem mL (n:Nat){i:Nat}(hi:i<8):(Sf n).take (i+1)=(Sf n).take i++[n/256^i%256]:=by
 refine Gh ?_;unfold Sf;rw[List.getElem?_map,List.getElem?_range hi];rfl
theorem Zq {L:List Part}{k:Nat}{P:Part}(h:L[k]? = some P):Cd ((L.take (k+1)).map (·.bs))=Cd ((L.take k).map (·.bs))++(Sf P.bs.length++P.bs):=by
 rw[Gh h,List.map_append];exact Lr _ _
theorem gK (L:List Part)(k:Nat):(Cd ((L.take k).map (·.bs))).length<=(Cd (L.map (·.bs))).length:=by
 conv=>rhs;rw[<-List.take_append_drop k L,List.map_append]
 have:∀(a b:List (List Nat)),(Cd a).length<=(Cd (a++b)).length:=by
  intro a b
  induction a with
  | nil=>exact Nat.zero_le _
  | cons x a ih=>simp only[List.cons_append,Cd,List.length_append];omega
 exact this _ _
theorem Xm {L:List Part}(h:∀P∈L,Ay P.bs):Ay (Cd (L.map (·.bs))):=by
 induction L with
 | nil=>intro x hx;simp[Cd]at hx
 | cons P L ih=>
  intro x hx;simp only[List.map_cons,Cd,List.mem_append]at hx;rcases hx with (hx|hx)|hx
  .exact Wl _ x hx
  .exact h P (by simp) x hx
  .exact ih (fun P hP=>h P (by simp[hP])) x hx
theorem bF (w:World)(pP:Option Addr)(nP cP:Nat)(pQ:Option Addr)(nQ cQ Q:Nat)(pG:Option Addr)(nG cG:Nat)(pH:Option Addr)(nH cH:Nat)(hQ:Bj w pQ nQ cQ Q)(hQ0:0<Q)(lQ:Ap Q<=900000)(p:Option Addr)(n c:Nat)(L:List Part)(hL:Br w p n c L)(hz:Gs L)(hmax:(Cd (L.map (·.bs))).length<=1000000) :
  Calls Tryz.prog 109 #[.agg #[.slice pP nP cP,.slice pQ nQ cQ,.slice pG nG cG,.slice pH nH cH],.slice p n c] w fun e w'=>∃x,e=.returned x/\Ao (be (Hy (Cd (L.map (·.bs))))%Q) x w'/\Below w.heap.size w w':=by
 obtain⟨XX,hXX⟩:∃XS,Cd (L.map (·.bs))=XS:=⟨_,rfl⟩
 have HXX:=Ab hXX;rw[hXX]at hmax
 rw[hXX];clear hXX;have hbx:Below w.heap.size w (w.alloc (.cells #[.slice pP nP cP,.slice pQ nQ cQ,.slice pG nG cG,.slice pH nH cH] 30)):=Bw;have HBX0:=Ab (Cp.made 30 w (.slice pP nP cP) (.slice pQ nQ cQ) (.slice pG nG cG) (.slice pH nH cH));obtain⟨wa,hwa⟩:∃wa,w.alloc (.cells #[.slice pP nP cP,.slice pQ nQ cQ,.slice pG nG cG,.slice pH nH cH] 30)=wa:=⟨_,rfl⟩
 rw[hwa]at hbx HBX0
 have HWA:=Ab hbx;have HQ0:=Ab (hQ.below hbx);have HP:Aa (Br wa p n c L):=⟨hL.below hbx⟩
 have HZ:Aa (Gs L):=⟨hz⟩
 have hpl:Aa (n=L.length):=⟨hL.len⟩
 have HMx:=Ab hmax;have mp:=hL.max;have mcp:=hL.cap;clear hL hz hmax hQ hbx;have HO0:Aa (Own (wa.alloc (.cells #[] 5)) wa.heap.size (.slice (some ⟨wa.heap.size,0,none⟩) 0 0) []):=⟨Own.lit wa [] (by decide)⟩
 have HB0:Aa (Below wa.heap.size wa (wa.alloc (.cells #[] 5))):=⟨(Bg _ _).alloc (Av _) _⟩
 go_enter Tryz.func109,Tryz.ntmps109;go_wp2
 go_loopw [5,7,8,9,13] (fun x _ _ _ i wr=>∃(k:Nat) (v:Value),k<=n/\i=.int .i64 k/\v=x/\Aa (Below wa.heap.size wa wr)/\Aa (Own wr wa.heap.size v (Cd ((L.take k).map (·.bs))))) (fun _ _ _ _ i _=>n-(intOf i).toNat)
 case atStart=>exact⟨0,_,by omega,rfl,rfl,HB0,HO0⟩
 case round=>
  obtain⟨k,v,hk,rfl,rfl,HB,HO⟩:=hrel;have hzr:=HB.out.size
  by_cases hkn:k<n
  .obtain⟨b,off,rfl,hb,hc⟩:=HP.out.cells (by omega);obtain⟨P,hP⟩:∃P,L[k]? = some P:=⟨_,List.getElem?_eq_getElem (by have:=hpl.out;omega)⟩
   have HOK:Aa (Aq wr P):=⟨(HP.out.ok k P hP).below HB.out⟩
   have HZP:Aa (P.p=none->P.c=0):=⟨HZ.out P (List.mem_of_getElem? hP)⟩
   have hck:wr.cell? ⟨b,off+k,none⟩=some (.slice P.p P.n P.c):=by
    rw[(Bz HB.out).1 _ _ hb];exact hc k P hP
   have HPk:=Ab hP;have HTk:=Ab (Zq hP);have HLe:=Ab (gK L (k+1));have HPn:Aa (P.n=P.bs.length):=⟨HOK.out.row.len⟩
   clear hc hP;obtain⟨XS,hXS⟩:∃XS,Cd ((L.take k).map (·.bs))=XS:=⟨_,rfl⟩
   rw[hXS]at HO HTk
   have HXl:Aa (XS.length+8+P.n<=1000000):=⟨by
    have h1:=HLe.out;rw[HTk.out,List.length_append,List.length_append,Fd,HXX.out]at h1
    have:=HMx.out;have:=HPn.out;omega⟩
   clear hXS;obtain⟨wc,hwc⟩:∃x,x=wr:=⟨_,rfl⟩
   subst hwc;have hkn':(k:Int)<n:=by omega
   go_wp2
   go_loopw [5,8,9] (fun x nv i wr=>∃(j:Nat) (v:Value),j<=8/\i=.int .i64 j/\nv=.int .i64 ((P.n/256^j:Nat):Int)/\v=x/\Aa (Below wa.heap.size wa wr)/\Aa (Aq wr P)/\Aa (Own wr wa.heap.size v (XS++(Sf P.n).take j))) (fun _ _ i _=>8-(intOf i).toNat)
   case atStart=>exact⟨0,v,by omega,rfl,by rw[Nat.pow_zero,Nat.div_one],rfl,HB,HOK,⟨by rw[List.take_zero,List.append_nil];exact HO.out⟩⟩
   case round=>
    obtain⟨j,v,hj,rfl,rfl,rfl,HBj,HKj,HOj⟩:=hrel
    by_cases hj8:j<8
    .obtain⟨M,hM⟩:∃M,P.n/256^j=M:=⟨_,rfl⟩
     have HM:Aa (P.n/256^(j+1)=M/256):=⟨by rw[Nat.pow_succ,<-Nat.div_div_eq_div_mul,hM]⟩
     have HT8:Aa ((Sf P.n).take (j+1)=(Sf P.n).take j++[M%256]):=⟨by rw[mL P.n hj8,hM]⟩
     have HMl:Aa (M<=P.n):=⟨by rw[<-hM];exact Nat.div_le_self _ _⟩
     rw[hM];obtain⟨R,hR⟩:∃R,M%256=R:=⟨_,rfl⟩
     have hmod:(M:Int).tmod 256=((R:Nat):Int):=by rw[Int.tmod_eq_emod_of_nonneg (by omega),<-hR];simp
     have hdiv:(M:Int).tdiv 256=((M/256:Nat):Int):=by rw[Int.tdiv_eq_ediv_of_nonneg (by omega)];simp
     have hR2:R<256:=by rw[<-hR];exact Nat.mod_lt _ (by decide)
     have hcv:IntKind.u8.wrap ((R:Nat):Int)=R:=IntWalk.u8_in _ (by omega);rw[hR]at HT8
     have hj8':(j:Int)<8:=by omega
     have HWr:Aa (wrap64 ((M:Int)/256)=((M/256:Nat):Int)):=⟨by
      have e:((M:Int)/256)=((M/256:Nat):Int):=by simp
      have h1:=HMl.out;have h2:=HXl.out;rw[e];exact IntWalk.wrap64_in ((M/256:Nat):Int) (by omega)⟩
     have hrow:=Dz wr [R] (by simp);have hb1:Below wr.heap.size wr (wr.alloc (.cells #[.int .u8 (R:Nat)] 5)):=Bw;have hrow':Bd (wr.alloc (.cells #[.int .u8 (R:Nat)] 5)) .u8 (some ⟨wr.heap.size,0,none⟩) 1 1 [R]:=hrow;obtain⟨wd,hwd⟩:∃wd,wr.alloc (.cells #[.int .u8 (R:Nat)] 5)=wd:=⟨_,rfl⟩
     rw[hwd]at hb1 hrow'
     have HOd:=Ab (HOj.out.belowS hb1);have HKd:=Ab (HKj.out.below hb1);have HRd:=Ab hrow';have HBd:=Ab (Ae HBj.out hb1);have HSz:=Ab HBd.out.size;have HLn:Aa ((XS++(Sf P.n).take j).length+1<=140737488355328):=⟨by
      rw[List.length_append,List.length_take,Fd];have:=HXl.out;omega⟩
     clear hM hR hrow hrow' hb1
     go_wp2_with (at_builtin;refine Da rfl _ _ rfl rfl HOd.out rfl HRd.out (fun h=>by cases h) HLn.out HSz.out ?_;intro v1 w3 ho1 hg1;refine Dc.out ?_)
     refine⟨?_⟩;rw[List.append_assoc,<-HT8.out]at ho1
     have HO1:=Ab ho1;have HB3:=Ab (HBd.out.trans (grown_below hg1 HSz.out HOd.out.ge));have HK3:Aa (Aq w3 P):=⟨(HP.out.ok k P HPk.out).below HB3.out⟩
     clear ho1 hg1;go_wp2;go_roundw
     case rel=>exact⟨j+1,_,by omega,by go_num,by rw[HM.out,HWr.out],rfl,HB3,HK3,HO1⟩
     case measure=>simp[intOf];omega
    .obtain rfl:j=8:=by omega
     have htk:(Sf P.n).take 8=Sf P.n:=List.take_of_length_le (by rw[Fd];exact Av _);rw[htk]at HOj
     have hj8':¬(8:Int)<8:=by omega
     have HSz:=Ab HBj.out.size;have HLn:Aa ((XS++Sf P.n).length+P.n<=140737488355328):=⟨by
      rw[List.length_append,Fd];have:=HXl.out;omega⟩
     clear htk
     go_wp2_with (at_builtin;refine Da rfl _ _ rfl rfl HOj.out rfl HKj.out.row HZP.out HLn.out HSz.out ?_;intro v1 w3 ho1 hg1;refine Dc.out ?_)
     refine⟨?_⟩;rw[List.append_assoc,HPn.out,<-HTk.out]at ho1
     have HO1:=Ab ho1;have HB3:=Ab (HBj.out.trans (grown_below hg1 HSz.out HOj.out.ge));clear ho1 hg1;go_wp2;go_roundw
     case rel=>exact⟨k+1,_,by omega,by go_num,rfl,HB3,HO1⟩
     case measure=>simp[intOf];omega
  .obtain rfl:k=n:=by omega
   have hkn':¬(k:Int)<k:=by omega
   obtain⟨XS,hXS⟩:∃XS,XX=XS:=⟨_,rfl⟩
   have HOf:Aa (Own wr wa.heap.size v XS):=⟨by
    have h:=HO.out;rw[List.take_of_length_le (by have:=hpl.out;omega),HXX.out,hXS]at h
    exact h⟩
   have HXn0:Aa (XS.length<=1000000):=⟨by rw[<-hXS];exact HMx.out⟩
   have H8:Aa (Ay XS):=⟨by
    rw[<-hXS,<-HXX.out];exact Xm fun P hP=>by
     obtain⟨i,hi⟩:=List.getElem?_of_mem hP;exact(HP.out.ok i P hi).bytes⟩
   subst hXS;obtain⟨nx,hnx⟩:∃nx,XX.length=nx:=⟨_,rfl⟩
   obtain⟨p5,c5,rfl,hr5,_,hz5,_⟩:=HOf.out.elim;rw[hnx]at hr5 HXn0
   rw[hnx];have HX:=Ab hr5;have HZ5:=Ab hz5;have HXn:Aa (nx<=1000000):=HXn0;have HBX:=Ab (HBX0.out.below HB.out HBX0.out.lt);have HQ:=Ab (HQ0.out.below HB.out);have HBT:=Ab (Ae HWA.out HB.out);have HS256:Aa (Ap (be (Hy XX))<=800000):=⟨by have:=qH (Ev XX);rw[Cb]at this;omega⟩
   clear hr5 hz5 hnx;go_wp2;refine Aj (by kernel_rfl) (by kernel_rfl)
    [some (.slice p5 nx c5),none,none,some (.pointer (some ⟨w.heap.size,1,none⟩)),some (.slice pQ nQ cQ),none,none]
    [false,true,true,false,false,true,true] rfl
    (fun w1 w2=>Below w1.heap.size w1 w2)
    (fun _ w'=>Below wr.heap.size wr w')
    (fun i v w'=>match i with
     | 1=>Bh 0 (Hy XX) v w'
     | 2=>Ao (be (Hy XX)) v w'
     | 5=>Ao (be (Hy XX)%Q) v w'
     | 6=>Ao (be (Hy XX)%Q) v w'
     | _=>True)
    ?_ (Bg _ _).drew ?_ ?_
   .intro i v w1 w2 hf hb;split at hf
    .exact hf.below hb
    .exact hf.below hb
    .exact hf.below hb
    .exact hf.below hb
    .trivial
   .simp only[Bc,Nat.reduceAdd];refine⟨?_,?_,?_,?_,?_,?_,?_,trivial⟩
    all_goals intro D sp w' hD hW hdp hbx'
    case refine_2=>
     (with_reducible refine Ac (w1:=w') (f := 160) (args:=#[.slice p5 nx c5]) ?_ ?_ ?_)
     .simp[Region.wanted,yielded,Act.put,go_sem]
     .simp[Act.eval,Act.put,go_sem]
     .refine(Fl w' p5 nx c5 XX (HX.out.below hbx') H8.out HZ5.out HXn.out).mono ?_;rintro en w9 ⟨u,rfl,hu,hb⟩;have hu:=hu.zero;exact⟨u,rfl,hb,hu,Ae hbx' hb⟩
    case refine_3=>
     have k1:Bh 0 (Hy XX) (sp 1) w':=(hdp 1 (mq (by kernel_rfl))).2
     (with_reducible refine k1.elim (fun p1 c1 hv1 hr1 _ _=>?_))
     rw[Cb]at hr1 hv1
     (with_reducible refine Ac (w1:=w') (f := 97) (args:=#[.slice p1 32 c1]) ?_ ?_ ?_)
     .simp only[Region.wanted]
     .simp[Act.eval,Act.put,go_sem,hv1]
     .refine(Tl w' p1 32 c1 (Hy XX) hr1 (Ev _) (by omega)).mono ?_;rintro en w9 ⟨q,m,d,rfl,hu,hb,_⟩;exact⟨_,rfl,hb,Ao.of hu,Ae hbx' hb⟩
    case refine_5=>
     have c0:=(HBX.out.below hbx' HBX.out.lt).cells.2.1
     with_reducible refine Ad ?_ ?_
     all_goals simp[Region.wanted,yielded,execOp,Act.eval,Act.put,go_sem,c0]
    case refine_6=>
     have k2:Ao (be (Hy XX)) (sp 2) w':=(hdp 2 (mq (by kernel_rfl))).2
     (with_reducible refine Ac (w1:=w') (f := 79) (args:=#[sp 2,.slice pQ nQ cQ]) ?_ ?_ ?_)
     .simp[Region.wanted,yielded,Act.put,go_sem]
     .simp[Act.eval,Act.put,go_sem]
     .refine(Nb k2 (Ao.of (HQ.out.below hbx')) (by have:=HS256.out;omega) lQ hQ0).mono ?_;rintro en w9 ⟨u,rfl,hu,hb⟩;exact⟨u,rfl,hb,hu,Ae hbx' hb⟩
    case refine_7=>
     have k5:Ao (be (Hy XX)%Q) (sp 5) w':=(hdp 5 (mq (by kernel_rfl))).2
     (with_reducible refine Af (w1:=w') (v:=sp 5) ?_ ?_ ?_)
     .simp[Region.wanted,yielded,Act.put,go_sem]
     .simp[execOp,Act.eval,Act.put,go_sem]
     .exact⟨Bg _ _,k5,hbx'⟩
    all_goals ((with_reducible refine Ad ?_ ?_);all_goals first|(simp only[Region.wanted];done)|simp[Region.wanted,yielded,execOp,Act.eval,Act.put,go_sem])
   .intro sp w7 hsp hbx';have k6:Ao (be (Hy XX)%Q) (sp 6) w7:=hsp 6 rfl;have HK:=Ab k6;have HBe:=Ab (Ae HBT.out hbx');clear hsp hbx' k6;simp only[Am,Nat.reduceAdd];generalize sp 1=y1,sp 2=y2,sp 5=y5,sp 6=y6 at *
    go_simp
    go_wp2;go_ret;exact⟨_,rfl,HK.out,HBe.out⟩
theorem Ru (w:World)(pk:Option Addr)(nk ck:Nat)(key:List Nat)(pi:Option Addr)(ni ci:Nat)(info:List Nat)(n:Nat)(hr:Aq w ⟨pk,nk,ck,key⟩)(hzk:pk=none->ck=0)(hI:Aq w ⟨pi,ni,ci,info⟩)(hzi:pi=none->ci=0)(hnk:nk<=1000)(hni:ni<=1000)(hn:n<=8160) :
  Calls Tryz.prog 98 #[.slice pk nk ck,.slice pi ni ci,.int .i64 n] w (Ki ((Ey key info ((n+31)/32)).take n) w):=by
 have HI:Aa (Aq w ⟨pi,ni,ci,info⟩):=⟨hI⟩
 have HKy:Aa (Aq w ⟨pk,nk,ck,key⟩):=⟨hr⟩
 have HZ:Aa ((pk=none->ck=0)/\(pi=none->ci=0)):=⟨hzk,hzi⟩
 obtain⟨K,hK⟩:∃K,(n+31)/32=K:=⟨_,rfl⟩
 have hKn:n<=32*K:=by omega
 have hKm:32*K<n+32:=by omega
 have hK255:K<=255:=by omega
 rw[hK];clear hK hI hr hzk hzi;have HO0:Aa (Own ((w.alloc (.cells #[] 5)).alloc (.cells #[] 5)) w.heap.size (.slice (some ⟨w.heap.size,0,none⟩) 0 0) (Ey key info 0)):=⟨(Own.lit w [] (by decide)).belowS ((Bg _ _).alloc (Av _) _)⟩
 have HL0:Aa (Bh w.heap.size (Ln key info 0) (.slice (some ⟨w.heap.size+1,0,none⟩) 0 0) ((w.alloc (.cells #[] 5)).alloc (.cells #[] 5))):=⟨by
  have h:=Own.lit (w.alloc (.cells #[] 5)) [] (by decide);rw[show (w.alloc (.cells #[] 5)).heap.size=w.heap.size+1 by simp]at h
  exact Bh.mk (h.mono (Nat.le_succ _))⟩
 have HB0:Aa (Below w.heap.size w ((w.alloc (.cells #[] 5)).alloc (.cells #[] 5))):=⟨((Bg _ _).alloc (Av _) _).alloc (by simp) _⟩
 go_enter Tryz.func98,Tryz.ntmps98;go_wp2
 go_loopw [7,8,9] (fun x y i wr=>∃(k:Nat) (u v:Value),k<=K/\u=x/\v=y/\i=.int .i64 ((k+1:Nat):Int)/\Aa (Own wr w.heap.size u (Ey key info k))/\Aa (Bh w.heap.size (Ln key info k) v wr)/\Aa (Below w.heap.size w wr)) (fun _ _ i _=>K+1-(intOf i).toNat)
 case atStart=>exact⟨0,_,_,by omega,rfl,rfl,rfl,HO0,HL0,HB0⟩
 case round=>
  obtain⟨k,u,v,hk,rfl,rfl,rfl,HU,HV,HB⟩:=hrel;have hsz:=HB.out.size;obtain⟨pu,cu,rfl,ru,nu,zu,_⟩:=HU.out.elim;have hlu:(Ey key info k).length=32*k:=Eg key info k;rw[hlu]at ru HU ⊢
  clear hlu
  by_cases hkK:k<K
  .have ht:32*(k:Int)<n:=by omega
   obtain⟨p,c,rfl,rv,zv⟩:∃p c,v=.slice p (Ln key info k).length c/\Bd wr .u8 p (Ln key info k).length c (Ln key info k)/\(p=none->c=0):=by
    have h:=HV.out
    cases h with
    | of p c _ h hn hz hp=>exact⟨p,c,rfl,h,hz⟩
   have hlt:(Ln key info k).length<=32:=by
    cases k with
    | zero=>simp[Ln]
    | succ k=>rw[Ei];exact Av _
   obtain⟨T,hT⟩:∃T,Ln key info k=T:=⟨_,rfl⟩
   have HT:Aa (Ln key info k=T):=⟨hT⟩
   have HT8:Aa (Ay T):=⟨by rw[<-hT];exact Pt key info k⟩
   rw[hT]at rv hlt ⊢
   have hba:Below wr.heap.size wr (wr.alloc (.cells #[.int .u8 ((k+1:Nat):Int)] 5)):=Bw;have HWa:Aa (Below w.heap.size w (wr.alloc (.cells #[.int .u8 ((k+1:Nat):Int)] 5))):=⟨Bo HB.out hba⟩
   have hP:=lF (wr.alloc (.cells #[.int .u8 ((k+1:Nat):Int)] 5)) ⟨p,T.length,c,T⟩ ⟨pi,ni,ci,info⟩ ⟨some ⟨wr.heap.size,0,none⟩,1,1,[k+1]⟩ ⟨rv.below hba,HT8.out⟩ (HI.out.below HWa.out) ⟨Dz wr [k+1] (show 1<=9223372036854775807 by decide),fun x hx=>by obtain rfl:=List.mem_singleton.1 hx;omega⟩;rw[show (wr.alloc (.cells #[.int .u8 ((k+1:Nat):Int)] 5)).heap.size=wr.heap.size+1 by simp]at hP
   have HP:=Ab hP;have HZP:Aa (Gs [(⟨p,T.length,c,T⟩:Part),⟨pi,ni,ci,info⟩,⟨some ⟨wr.heap.size,0,none⟩,1,1,[k+1]⟩]):=⟨fun P hP=>by
    rcases List.mem_cons.1 hP with rfl|hP
    .exact zv
    .rcases List.mem_cons.1 hP with rfl|hP
     .exact HZ.out.2
     .obtain rfl:=List.mem_singleton.1 hP;exact fun h=>by cases h⟩
   have hbp:Below (wr.alloc (.cells #[.int .u8 ((k+1:Nat):Int)] 5)).heap.size (wr.alloc (.cells #[.int .u8 ((k+1:Nat):Int)] 5)) ((wr.alloc (.cells #[.int .u8 ((k+1:Nat):Int)] 5)).alloc (.cells #[.slice p T.length c,.slice pi ni ci,.slice (some ⟨wr.heap.size,0,none⟩) 1 1] 60)):=Bw;have HBp:Aa (Below wr.heap.size wr ((wr.alloc (.cells #[.int .u8 ((k+1:Nat):Int)] 5)).alloc (.cells #[.slice p T.length c,.slice pi ni ci,.slice (some ⟨wr.heap.size,0,none⟩) 1 1] 60))):=⟨Bo hba hbp⟩
   have HWh:Aa (whole [(⟨p,T.length,c,T⟩:Part),⟨pi,ni,ci,info⟩,⟨some ⟨wr.heap.size,0,none⟩,1,1,[k+1]⟩]=T++(info++[k+1])):=⟨by simp[whole]⟩
   have HWl:Aa ((T++(info++[k+1])).length<=2000):=⟨by
    have hIl:=HI.out.row.len
    dsimp only at hIl
    simp;omega⟩
   clear hP hba hbp rv hT
   go_wp2_with fail
   refine Mk (w1:=(wr.alloc (.cells #[.int .u8 ((k+1:Nat):Int)] 5)).alloc (.cells #[.slice p T.length c,.slice pi ni ci,.slice (some ⟨wr.heap.size,0,none⟩) 1 1] 60)) (by kernel_rfl) ?_;refine(Hd _ (some ⟨wr.heap.size+1,0,none⟩) 3 3 _ HP.out HZP.out (by rw[HWh.out];have:=HWl.out;omega)).mono ?_;rintro e w4 ⟨v4,rfl,ho4,hb4⟩;rw[HWh.out]at ho4
   obtain⟨Y,hY⟩:∃Y,T++(info++[k+1])=Y:=⟨_,rfl⟩
   rw[hY]at ho4 HWl
   have HTk:Aa (Jn key Y=Ln key info (k+1)/\Ay Y):=⟨by rw[<-hY,Ln,HT.out,Nat.mod_eq_of_lt (show k+1<256 by omega)],by
    rw[<-hY];intro x hx;rcases List.mem_append.1 hx with h|h
    .exact HT8.out x h
    .rcases List.mem_append.1 h with h|h
     .exact HI.out.bytes x h
     .obtain rfl:=List.mem_singleton.1 h;omega⟩
   obtain⟨p4,c4,_,r4,n4,z4,_⟩:=ho4;have HB4:Aa (Below wr.heap.size wr w4):=⟨Bo HBp.out hb4⟩
   have HBw4:Aa (Below w.heap.size w w4):=⟨Bo HB.out HB4.out⟩
   have hK4:=HKy.out.below HBw4.out;clear hY HP HZP HBp HWh n4 hb4
   go_wp2_with fail
   refine(Xo w4 pk nk ck key p4 Y.length c4 Y hK4.row hK4.bytes HZ.out.1 hnk ⟨r4,HTk.out.2⟩ z4 (by have:=HWl.out;omega)).mono ?_;rintro e w5 ⟨v5,rfl,ho5,hb5⟩;rw[HTk.out.1]at ho5
   obtain⟨p5,c5,_,r5,n5,z5,l5⟩:=ho5;rw[Ei]at r5 ⊢
   have HB5:Aa (Below wr.heap.size wr w5):=⟨Bo HB4.out hb5⟩
   have HBw5:Aa (Below w.heap.size w w5):=⟨Bo HB.out HB5.out⟩
   have hz4:=HB4.out.size;have HU5:Aa (Own w5 w.heap.size (.slice pu (32*k) cu) (Ey key info k)):=⟨HU.out.belowS HB5.out⟩
   have HQN:Aa (∀g,(Value.slice pu (32*k) cu).ownBlock=some g->∀q,p5=some q->q.block≠g):=⟨fun g hg q hq=>by
    have:=HU.out.lt g hg;have:=n5 q hq;omega⟩
   have HR5:Aa (Bd w5 .u8 p5 32 c5 (Ln key info (k+1))):=⟨r5⟩
   have HZ5:Aa ((p5=none->c5=0)/\(∀q,p5=some q->q.block<w5.heap.size)/\Fo w.heap.size p5):=⟨z5,l5,n5.mono (by omega)⟩
   have hmx:Aa ((Ey key info k).length+32<=140737488355328):=⟨by rw[Eg];omega⟩
   have hs5:=HBw5.out.size;clear r5 n5 z5 l5 r4 z4 hK4 hb5
   go_wp2_with (at_builtin;refine Da rfl _ _ rfl rfl HU5.out rfl HR5.out HZ5.out.1 hmx.out hs5 ?_;intro v6 w6 ho6 hg6;refine Dc.out ?_)
   refine⟨?_⟩;have hr6:Bd w6 .u8 p5 32 c5 (Ln key info (k+1)):=HR5.out.grown hg6 (fun a ha e=>HQN.out _ e.symm a ha rfl);have HV6:Aa (Bh w.heap.size (Ln key info (k+1)) (.slice p5 32 c5) w6):=⟨by
    have h:=Bh.of (lo:=w.heap.size) (bs:=Ln key info (k+1)) p5 c5 w6 (by rw[Ei];exact hr6) HZ5.out.2.2 HZ5.out.1 (fun q hq=>Dj (HZ5.out.2.1 q hq) hg6.size);rw[Ei]at h
    exact h⟩
   have HU6:Aa (Own w6 w.heap.size v6 (Ey key info (k+1))):=⟨ho6⟩
   have HB6:Aa (Below w.heap.size w w6):=⟨HBw5.out.trans (grown_below hg6 hs5 HU5.out.ge)⟩
   clear hr6 ho6 hg6;go_wp2;go_roundw
   case rel=>exact⟨k+1,_,_,by omega,rfl,rfl,by go_num,HU6,HV6,HB6⟩
   case measure=>simp[intOf];omega
  .obtain rfl:k=K:=by omega
   have ht:¬32*(k:Int)<n:=by omega
   have hcc:=ru.cap;have hcm:=ru.max;have hl:((Ey key info k).take n).length=n:=by rw[List.length_take,Eg];omega
   have hx:Bh w.heap.size ((Ey key info k).take n) (.slice pu n cu) wr:=by
    have h:=Bh.of (lo:=w.heap.size) (bs:=(Ey key info k).take n) pu cu wr (by rw[hl];exact ru.take n hKn) nu zu (fun q hq=>by
     subst hq;exact HU.out.lt q.block rfl)
    rw[hl]at h
    exact h
   have HX:=Ab hx;clear hx hl ru nu zu HU HV;go_wp2;go_ret;exact⟨_,rfl,HX.out,HB.out⟩
theorem nS (N:Nat):be (As N (Ak N))=N:=by
 unfold be As;rw[List.reverse_reverse,Se,Nat.mod_eq_of_lt (Eu N)]
theorem Gb {w:World}{v:Value}{e N:Nat}(h:Fit e N v w)(he:e<=200) :
  Calls Tryz.prog 45 #[v] w fun en w'=>∃x,en=.returned x/\Ao N x w'/\Below w.heap.size w w':=by
 obtain⟨p,n,c,rfl,h1,h2⟩:=h;have hbx:=Dq.mk1 w (.slice p n c) 36;have HF:=Ab ((Fit.of h1 h2).below hbx.bel);have HB:=Ab hbx.bel;have hl:Aa (Ak N<=1000):=⟨by
  have:Ap N<=32*e:=(Bi N _).2 (by
   have:Au e=2^(32*e):=by unfold Au;rw[Nat.pow_mul]
   rw[<-this];exact h2)
  unfold Ak;omega⟩
 clear h1 h2 hbx;go_enter Tryz.func45,Tryz.ntmps45
 go_wp2_with fail
 refine(iR HF.out (by omega)).mono ?_;rintro en w1 ⟨_,rfl,⟨q,m,d,rfl,hr⟩,b1⟩;have HR:Aa (Bd w1 .u8 q m d (As N (Ak N))):=⟨⟨hr.len,hr.cap,hr.max,fun _=>hr⟩⟩
 have HM:Aa (m<=1000):=⟨by rw[hr.len,Bq];exact hl.out⟩
 have HB1:=Ab (Ae HB.out b1);clear hr b1
 go_wp2_with fail
 refine(Tl w1 q m d _ HR.out (Gc N _).reverse HM.out).mono ?_;rintro en w2 ⟨x,y,z,rfl,hb,b2,_⟩;rw[nS]at hb
 have HN:=Ab hb;have HB2:=Ab (Ae HB1.out b2);clear hb b2;go_wp2;go_ret;exact⟨_,rfl,Ao.of HN.out,HB2.out⟩
theorem iU {t:TypeId}{w:World}{b:Nat}{x0 x1 x2 x3:Option Addr×Nat×Nat}(h:Cp t w b (.slice x0.1 x0.2.1 x0.2.2) (.slice x1.1 x1.2.1 x1.2.2) (.slice x2.1 x2.2.1 x2.2.2) (.slice x3.1 x3.2.1 x3.2.2))(u0 u1 u2 u3:Value) :
  Ie w ((((w.setCell ⟨b,0,none⟩ u0).setCell ⟨b,1,none⟩ u1).setCell ⟨b,2,none⟩ u2).setCell ⟨b,3,none⟩ u3):=by
 have h0:=h.at_
 have k0:=Ie.set h.cells.1 u0;have k1:Ie (w.setCell ⟨b,0,none⟩ u0) ((w.setCell ⟨b,0,none⟩ u0).setCell ⟨b,1,none⟩ u1):=Ie.set (p:=x1.1) (n:=x1.2.1) (c:=x1.2.2) (by simp[World.cell?,World.setCell,Array.getElem?_modify,h0]) u1;have k2:Ie ((w.setCell ⟨b,0,none⟩ u0).setCell ⟨b,1,none⟩ u1) (((w.setCell ⟨b,0,none⟩ u0).setCell ⟨b,1,none⟩ u1).setCell ⟨b,2,none⟩ u2):=Ie.set (p:=x2.1) (n:=x2.2.1) (c:=x2.2.2) (by simp[World.cell?,World.setCell,Array.getElem?_modify,h0]) u2;have k3:Ie (((w.setCell ⟨b,0,none⟩ u0).setCell ⟨b,1,none⟩ u1).setCell ⟨b,2,none⟩ u2) ((((w.setCell ⟨b,0,none⟩ u0).setCell ⟨b,1,none⟩ u1).setCell ⟨b,2,none⟩ u2).setCell ⟨b,3,none⟩ u3):=Ie.set (p:=x3.1) (n:=x3.2.1) (c:=x3.2.2) (by simp[World.cell?,World.setCell,Array.getElem?_modify,h0]) u3;exact((k0.trans k1).trans k2).trans k3
structure Df (P Q G H:Nat) (v:Value) (w:World):Prop where
 ex:∃p0 n0 c0 p1 n1 c1 p2 n2 c2 p3 n3 c3,v=.agg #[.slice p0 n0 c0,.slice p1 n1 c1,.slice p2 n2 c2,.slice p3 n3 c3]/\Bj w p0 n0 c0 P/\Bj w p1 n1 c1 Q/\Bj w p2 n2 c2 G/\Bj w p3 n3 c3 H
theorem Df.below {P Q G H:Nat}{v:Value}{w w':World}(h:Df P Q G H v w)(hb:Below w.heap.size w w'):Df P Q G H v w':=by
 obtain⟨p0,n0,c0,p1,n1,c1,p2,n2,c2,p3,n3,c3,h0,h1,h2,h3,h4⟩:=h.ex;exact⟨p0,n0,c0,p1,n1,c1,p2,n2,c2,p3,n3,c3,h0,h1.below hb,h2.below hb,h3.below hb,h4.below hb⟩
structure oI (Q:Nat) (v:Value) (w:World):Prop where
 ex:∃r,v=.pointer (some ⟨r,0,none⟩)/\Ring w r Q 33
section
variable {At:World->Nat->Nat->Nat->Nat->Nat->Prop} {ready:World->Prop}
end
theorem Vi (w:World)(pk:Option Addr)(nk ck:Nat)(salt:List Nat)(ps:Option Addr)(ns cs:Nat)(secret:List Nat)(hT:Tabs w)(hK:Aq w ⟨pk,nk,ck,salt⟩)(hS:Aq w ⟨ps,ns,cs,secret⟩) :
  Calls Tryz.prog 224 #[.slice pk nk ck,.slice ps ns cs] w (Mp (cF salt secret) w):=by
 have hb:Below w.heap.size w (w.alloc (.cells #[.slice ps ns cs] 60)):=Bw;have hz:=hb.size;have HC:=Ab (Xy (w.alloc (.cells #[.slice ps ns cs] 60)) pk nk ck salt _ _ _ [⟨ps,ns,cs,secret⟩] (hT.below hb hT.size) (hK.below hb).row hK.bytes (lI w ⟨ps,ns,cs,secret⟩ hS));have HB:=Ab hb;clear hT hK hS hb;go_enter Tryz.func224,Tryz.ntmps224
 go_wp2_with fail
 refine HC.out.mono ?_;rintro e w1 ⟨q,rfl,hq,hb1,hk⟩;rw[Vt]at hk
 go_wp2;go_ret;exact⟨q,rfl,by omega,Bo HB.out hb1,hk⟩
theorem Yn (w:World)(pk:Option Addr)(nk ck:Nat)(salt:List Nat)(ps:Option Addr)(ns cs:Nat)(secret:List Nat)(pi:Option Addr)(ni ci:Nat)(info:List Nat)(n:Nat)(hT:Tabs w)(hK:Aq w ⟨pk,nk,ck,salt⟩)(hS:Aq w ⟨ps,ns,cs,secret⟩)(hI:Aq w ⟨pi,ni,ci,info⟩)(hn:n<=8160) :
  Calls Tryz.prog 205 #[.slice pk nk ck,.slice ps ns cs,.slice pi ni ci,.int .i64 n] w (bZ n ((Ey (Jn salt secret) info ((n+31)/32)).take n) w):=by
 have HC:=Ab (Vi w pk nk ck salt ps ns cs secret hT hK hS);have HI:Aa (Aq w ⟨pi,ni,ci,info⟩):=⟨hI⟩
 have HT:Aa (Tabs w):=⟨hT⟩
 clear hT hK hS hI;go_enter Tryz.func205,Tryz.ntmps205
 go_wp2_with fail
 refine HC.out.mono ?_;rintro e w1 ⟨q,rfl,hq,hb1,hk⟩;have hr:Bd w1 .u8 (some ⟨q,0,none⟩) 32 32 (Jn salt secret):=⟨(Ma _ _).symm,Av _,by omega,fun _=>hk.row (Ma _ _).symm (Av _) (by omega)⟩
 go_wp2_with fail
 refine(Pc w1 _ _ _ (Jn salt secret) pi ni ci info n (HT.out.below hb1 HT.out.size) hr (Ty _ _) (HI.out.below hb1) hn).mono ?_;rintro e w2 ⟨p,rfl,hr2,hn2,hb2,hz2⟩;have hz:=hb1.size;have HE:=Ab hr2;have HN:Aa (Fo w.heap.size p/\(p=none->n=0)):=⟨hn2.mono hz,hz2⟩
 clear hr2 hn2 hz2 hr hk;go_wp2;exact bodyPost_ret (v:=.tuple #[.slice p n n,.int .i64 0]) (by simp[results,Tryz.results205,go_sem]) rfl ⟨p,rfl,HE.out,HN.out.1,Bo hb1 hb2,HN.out.2⟩
theorem Su {N:Nat}{l:List Ca}(h:Told N l):Do N:=by
 rcases h with h|⟨h,s,hs,rfl⟩
 .exact h.prime
 .exact Rn l [] (fun x hx=>by cases hx) h s hs
def Gv (seed:List Nat)(P c:Nat):Nat:=be ((Ey (Jn [] seed) [104,c] ((Ak P+8+31)/32)).take (Ak P+8))
def Gd (f:Nat->Nat):Nat->Nat->Option Nat
 | 0,_=>none
 | k+1,c=>if 1<f c then some (f c) else Gd f k (c+1)
def Uq (P Q G:Nat):Prop:=(P-1)%Q=0/\64<Q/\1<G/\G<P/\G^Q%P=1
open Classical in
noncomputable def newSpec (P Q G:Nat) (seed:List Nat) (l:List Ca):Nat×Nat :=
 if Told P l/\Told Q l then
  if Uq P Q G then
   match Gd (fun c=>Gv seed P c^((P-1)/Q)%P) 256 0 with
   | some h=>(0,h)
   | none=>(6,0)
  else (1,0)
 else (8,0)
theorem aV {w:World}{v:Value}{P Q G H:Nat}(h:Df P Q G H v w)(hl:Ap P<=100000) :
  Calls Tryz.prog 161 #[v] w fun e w'=>e=.returned (.int .i64 (Ak P:Nat))/\Below w.heap.size w w':=by
 obtain⟨p0,n0,c0,p1,n1,c1,p2,n2,c2,p3,n3,c3,rfl,h0,_⟩:=h.ex;have hn:=Dk h0;have hbx:Below w.heap.size w (w.alloc (.cells #[.slice p0 n0 c0,.slice p1 n1 c1,.slice p2 n2 c2,.slice p3 n3 c3] 30)):=Bw;have HBX:=Ab (Cp.made 30 w (.slice p0 n0 c0) (.slice p1 n1 c1) (.slice p2 n2 c2) (.slice p3 n3 c3));obtain⟨wa,hwa⟩:∃wa,w.alloc (.cells #[.slice p0 n0 c0,.slice p1 n1 c1,.slice p2 n2 c2,.slice p3 n3 c3] 30)=wa:=⟨_,rfl⟩
 rw[hwa]at hbx HBX
 have HB:=Ab hbx;have HS:Aa (Ak P=(n0+7)/8):=⟨by unfold Ak;rw[hn]⟩
 have hn0:n0<=100000:=by omega
 have hdiv:((n0:Int)+7).tdiv 8=(((n0+7)/8:Nat):Int):=by rw[Int.tdiv_eq_ediv_of_nonneg (by omega)];omega
 have c0':=HBX.out.cells.1;clear h h0 hn hbx hl;go_enter Tryz.func161,Tryz.ntmps161;go_wp2;go_ret;exact⟨by rw[HS.out];simp,HB.out⟩
theorem Wz (xs ys:List Nat):be (xs++ys)=be xs*B8 ys.length+be ys:=by
 unfold be;rw[List.reverse_append,Wk,List.length_reverse,Nat.mul_comm (B8 _),Nat.add_comm]
theorem aS:∀(bs:List Nat) (a:Nat),bs.foldl (fun n x=>n*256+x) a=a*B8 bs.length+be bs
 | [],a=>by simp[be,le,Ji]
 | x::xs,a=>by
  rw[List.foldl_cons,aS xs,show x::xs=[x]++xs from rfl,Wz,List.length_append,List.length_singleton,Nat.add_comm 1,Hp];have h1:be [x]=x:=by simp[be,le]
  rw[h1,Nat.add_mul,Nat.mul_assoc,Nat.add_assoc]
theorem Xu (bs:List Nat):dE bs=be bs:=by
 unfold dE;rw[aS];simp
def Ck:List (Nat×Nat)->Nat
 | []=>1
 | (b,e)::l=>b^e*Ck l
theorem We (P:Nat):∀(l:List (Nat×Nat)) (x:Nat),Lt P x l%P=x*Ck l%P
 | [],x=>by simp[Lt,Ck]
 | (b,e)::l,x=>by
  rw[Lt,We P l,Ck,Nat.mod_mul_mod,Nat.mul_assoc x (b^e%P),<-Nat.mul_mod_mod x (b^e%P*Ck l),Nat.mod_mul_mod,Nat.mul_mod_mod]
theorem iD {P:Nat}(hP:2<=P)(l:List (Nat×Nat)):Lt P 1 l=Ck l%P:=by
 have:=We P l 1;rw[Nat.mod_eq_of_lt (Tp hP l 1 (by omega)),Nat.one_mul]at this
 exact this
theorem Nt:∀(l:List (Nat×Nat)) (b e:Nat),Ck (l++[(b,e)])=Ck l*b^e
 | [],b,e=>by simp[Ck]
 | (c,d)::l,b,e=>by rw[List.cons_append,Ck,Nt l,Ck,Nat.mul_assoc]
def Nh (i:Nat)(l:List (Nat×Nat)):List (Nat×Nat):=l.map fun p=>(p.1,p.2/2^i)
def Oc (i:Nat)(l:List (Nat×Nat)):List (Nat×Nat):=l.map fun p=>(p.1,p.2/2^i%2)
theorem jE (l:List (Nat×Nat)):Nh 0 l=l:=by simp[Nh]
theorem Zz (i:Nat):∀l:List (Nat×Nat),Ck (Nh i l)=Ck (Nh (i+1) l)*Ck (Nh (i+1) l)*Ck (Oc i l)
 | []=>rfl
 | (b,e)::l=>by
  have h1:e/2^i=e/2^(i+1)+e/2^(i+1)+e/2^i%2:=by
   rw[Nat.pow_succ,<-Nat.div_div_eq_div_mul];omega
  have h2:b^(e/2^i)=b^(e/2^(i+1))*b^(e/2^(i+1))*b^(e/2^i%2):=by
   rw[<-Nat.pow_add,<-Nat.pow_add,<-h1]
  show b^(e/2^i)*Ck (Nh i l)=(b^(e/2^(i+1))*Ck (Nh (i+1) l))*(b^(e/2^(i+1))*Ck (Nh (i+1) l))*(b^(e/2^i%2)*Ck (Oc i l));rw[h2,Zz i l]
  ac_rfl
theorem Zy (i:Nat):∀l:List (Nat×Nat),(∀p∈l,p.2<2^i)->Ck (Nh i l)=1
 | [],_=>rfl
 | (b,e)::l,h=>by
  show b^(e/2^i)*Ck (Nh i l)=1;rw[Zy i l fun p hp=>h p (List.mem_cons_of_mem _ hp),Nat.div_eq_of_lt (h (b,e) List.mem_cons_self)];simp
theorem jQ {i:Nat}{l:List (Nat×Nat)}{k b e:Nat}(h:l[k]? = some (b,e)):Oc i (l.take (k+1))=Oc i (l.take k)++[(b,e/2^i%2)]:=by
 unfold Oc;rw[Gh h,List.map_append];rfl
def Ic:List Nat->Nat
 | []=>0
 | x::l=>max (Ap x) (Ic l)
theorem Tq:∀(l:List Nat) (x:Nat),Ic (l++[x])=max (Ic l) (Ap x)
 | [],x=>by simp[Ic]
 | y::l,x=>by rw[List.cons_append,Ic,Tq l,Ic];omega
theorem aD:∀(l:List Nat) (x:Nat),x∈l->x<2^Ic l
 | y::l,x,h=>by
  rcases List.mem_cons.1 h with rfl|h
  .exact Dj (El x) (Nat.pow_le_pow_right (by omega) (Nat.le_max_left _ _))
  .exact Dj (aD l x h) (Nat.pow_le_pow_right (by omega) (Nat.le_max_right _ _))
theorem aE {m:Nat}:∀(l:List Nat),(∀x∈l,Ap x<=m)->Ic l<=m
 | [],_=>Nat.zero_le _
 | y::l,h=>Nat.max_le.2 ⟨h y List.mem_cons_self,aE l fun x hx=>h x (List.mem_cons_of_mem _ hx)⟩
theorem qB {P X Y s:Nat}:((X*(256^s%P))%P+Y)%P=(X*256^s+Y)%P:=by
 rw[Nat.mul_mod_mod,Nat.mod_add_mod]
theorem mP (seed:List Nat)(P c:Nat):∃bs:List Nat,(Ey (Jn [] seed) [104,c] ((8+Ak P+31)/32)).take (8+Ak P)=bs/\bs.length=8+Ak P/\Ay bs/\be (bs.take 8)*256^Ak P+be (bs.drop 8)=Gv seed P c:=by
 have hl:((Ey (Jn [] seed) [104,c] ((8+Ak P+31)/32)).take (8+Ak P)).length=8+Ak P:=by
  rw[List.length_take,Eg];omega
 refine⟨_,rfl,hl,(Kx _ _ _).take _,?_⟩;obtain⟨bs,hb⟩:∃x,(Ey (Jn [] seed) [104,c] ((8+Ak P+31)/32)).take (8+Ak P)=x:=⟨_,rfl⟩
 have hh:Gv seed P c=be bs:=by rw[<-hb];unfold Gv;rw[Nat.add_comm (Ak P) 8]
 rw[hb]at hl ⊢
 have h2:=Wz (bs.take 8) (bs.drop 8);rw[List.take_append_drop,List.length_drop,hl,show 8+Ak P-8=Ak P by omega]at h2
 rw[hh,h2];rfl
theorem pB (A t P:Nat):(A%P)^t%P=A^t%P:=(Nat.pow_mod A t P).symm
theorem dY {f:Nat->Nat}{k c:Nat}(h:1<f c):Gd f (k+1) c=some (f c):=by rw[Gd,if_pos h]
theorem Pa:∀i,i<3->Ak (gP i)=sC i
 | 0,_=>by kernel_rfl
 | 1,_=>by kernel_rfl
 | 2,_=>by kernel_rfl
 | _+3,h=>by omega
theorem Ub (key info:List Nat):Ey key info 1=Jn key (info++[1]):=by
 simp[Ey,Ln]
theorem mO:∀i,i<3->Gv [] (gP i) 0=dE (Ua i)
 | 0,h=>by
  rw[Xu];unfold Gv;rw[Pa 0 h,Yc];show be ((Ey _ _ 1).take 10)=_;rw[Ub];show be ((Jn _ [104,0,1]).take 10)=_;rw[cD];rfl
 | 1,h=>by
  rw[Xu];unfold Gv;rw[Pa 1 h,Yc];show be ((Ey _ _ 1).take 11)=_;rw[Ub];show be ((Jn _ [104,0,1]).take 11)=_;rw[cD];rfl
 | 2,h=>by
  rw[Xu];unfold Gv;rw[Pa 2 h,Yc];show be ((Ey _ _ 1).take 17)=_;rw[Ub];show be ((Jn _ [104,0,1]).take 17)=_;rw[cD];rfl
 | _+3,h=>by omega
theorem dS:∀i,i<3->(gP i-1)/gQ i=Nw i
 | 0,_=>by decide
 | 1,_=>by decide
 | 2,_=>by decide
 | _+3,h=>by omega
theorem rG (i:Nat)(hi:i<3):Uq (gP i) (gQ i) (gG i):=by
 obtain⟨h1,h2,h3,_⟩:=Oz i hi;exact⟨by rw[Wq i hi];exact Nat.mul_mod_right _ _,h1,h2,h3,Qc i hi⟩
theorem iA (i:Nat)(hi:i<3):newSpec (gP i) (gQ i) (gG i) [] (Fq i)=(0,gH i):=by
 have h1:Gv [] (gP i) 0^((gP i-1)/gQ i)%gP i=gH i:=by rw[mO i hi,dS i hi,sD i hi]
 have h2:=(Oz i hi).2.2.2.1;unfold newSpec;rw[if_pos ⟨pU i hi,pT i hi⟩,if_pos (rG i hi)];have h3:Gd (fun c=>Gv [] (gP i) c^((gP i-1)/gQ i)%gP i) 256 0=some (gH i):=by
  rw[dY (by show 1<_;rw[h1];exact h2)];show some (Gv [] (gP i) 0^((gP i-1)/gQ i)%gP i)=_;rw[h1]
 rw[h3]
theorem dX:∀i,i<3->∀s∈Fq i,s.ps.length<=1000
 | 0,_=>by intro s hs;cases hs
 | 1,_=>by intro s hs;rcases List.mem_singleton.1 hs with rfl;simp
 | 2,_=>by
  intro s hs;rcases List.mem_cons.1 hs with rfl|hs
  .simp
  .rcases List.mem_singleton.1 hs with rfl;simp
 | _+3,h=>by omega
end Go.Proofs.YthgoeiegdhphjaaGreatDoor
