/- The document's New of a group. -/
import Derived.Test.YtokhckjemidbpaaGreatDoorMacE
import Derived.Test.YtokhckjemidbpaaGreatDoorGrpN
import Derived.Laws.OwnMore
import Derived.Lib.AppendZeros
import Derived.ArgAppend
set_option maxRecDepth 1000000
set_option maxHeartbeats 16000000
set_option linter.all false
namespace Go.Proofs.YtokhckjemidbpaaGreatDoor
def Se (n:Nat):List Nat:=(List.range 8).map fun i=>n/256^i%256
theorem Fe (n:Nat):(Se n).length=8:=by simp[Se]
theorem Wc (n:Nat):Au (Se n):=fun x hx=>by
 simp only[Se,List.mem_map]at hx;obtain⟨i,_,rfl⟩:=hx;exact Nat.mod_lt _ (by decide)
def Cg:List (List Nat)->List Nat
 | []=>[]
 | p::L=>Se p.length++p++Cg L
theorem Ma:∀(L:List (List Nat)) (p:List Nat),Cg (L++[p])=Cg L++(Se p.length++p)
 | [],p=>by simp[Cg]
 | a::L,p=>by simp[Cg,Ma L p]
def Md (P:Nat):Nat->List (Nat×Nat)->Nat
 | x,[]=>x
 | x,(b,e)::l=>Md P (x*(b^e%P)%P) l
theorem Tm {P:Nat}(hP:2<=P):∀(l:List (Nat×Nat)) (x:Nat),x<P->Md P x l<P
 | [],_,h=>h
 | (_,_)::l,_,_=>Tm hP l _ (Nat.mod_lt _ (by omega))
open Go Go.RowKit Go.Proofs.YtokhckjemidbpaaGreatDoor.Flow
theorem Si {bs:List Nat}(h:Au bs):Ao (be bs)<=8*bs.length:=by
 refine(Bg _ _).2 ?_;have:=h.reverse.lt;rw[Ih]at this
 simpa [be]using this
theorem bF (w:World)(p:Option Addr)(b off:Nat)(hp:p=some ⟨b,off,none⟩)(hb:b<w.heap.size):Bi w p 0 0 0:=by
 show Gi w p 0 0 [];exact⟨rfl,As _,by omega,.inr ⟨b,off,hp,hb,fun i x hx=>by cases hx⟩⟩
theorem Aj.grown {w w':World}{p:Option Addr}{n c N g:Nat}(h:Aj w p n c N)(hg:w.grownBy w' (some g))(hp:∀q,p=some q->q.block≠g):Aj w' p n c N :=
 let ⟨ws,h1,h2,h3,h4⟩:=h.ex
 ⟨ws,h1.grown hg hp,h2,h3,h4⟩
theorem kW (n:Nat){i:Nat}(hi:i<8):(Se n).take (i+1)=(Se n).take i++[n/256^i%256]:=by
 refine Hh ?_;unfold Se;rw[List.getElem?_map,List.getElem?_range hi];rfl
theorem Zd {L:List Part}{k:Nat}{P:Part}(h:L[k]? = some P):Cg ((L.take (k+1)).map (·.bs))=Cg ((L.take k).map (·.bs))++(Se P.bs.length++P.bs):=by
 rw[Hh h,List.map_append];exact Ma _ _
theorem fK (L:List Part)(k:Nat):(Cg ((L.take k).map (·.bs))).length<=(Cg (L.map (·.bs))).length:=by
 conv=>rhs;rw[<-List.take_append_drop k L,List.map_append]
 have:∀(a b:List (List Nat)),(Cg a).length<=(Cg (a++b)).length:=by
  intro a b
  induction a with
  | nil=>exact Nat.zero_le _
  | cons x a ih=>simp only[List.cons_append,Cg,List.length_append];omega
 exact this _ _
theorem Xe {L:List Part}(h:∀P∈L,Au P.bs):Au (Cg (L.map (·.bs))):=by
 induction L with
 | nil=>intro x hx;simp[Cg]at hx
 | cons P L ih=>
  intro x hx;simp only[List.map_cons,Cg,List.mem_append]at hx;rcases hx with (hx|hx)|hx
  .exact Wc _ x hx
  .exact h P (by simp) x hx
  .exact ih (fun P hP=>h P (by simp[hP])) x hx
theorem aS (w:World)(pP:Option Addr)(nP cP:Nat)(pQ:Option Addr)(nQ cQ Q:Nat)(pG:Option Addr)(nG cG:Nat)(pH:Option Addr)(nH cH:Nat)(hQ:Bi w pQ nQ cQ Q)(hQ0:0<Q)(lQ:Ao Q<=900000)(p:Option Addr)(n c:Nat)(L:List Part)(hL:Ck w p n c L)(hz:Kd L)(hmax:(Cg (L.map (·.bs))).length<=1000000) :
  Calls Tryz.prog 97 #[.agg #[.slice pP nP cP,.slice pQ nQ cQ,.slice pG nG cG,.slice pH nH cH],.slice p n c] w fun e w'=>∃x,e=.returned x/\Al (be (Ie (Cg (L.map (·.bs))))%Q) x w'/\Below w.heap.size w w':=by
 obtain⟨XX,hXX⟩:∃XS,Cg (L.map (·.bs))=XS:=⟨_,rfl⟩
 have HXX:=Ab hXX;rw[hXX]at hmax
 rw[hXX];clear hXX;have hbx:Below w.heap.size w (w.alloc (.cells #[.slice pP nP cP,.slice pQ nQ cQ,.slice pG nG cG,.slice pH nH cH] 30)):=Bx;have HBX0:=Ab (Cu.made 30 w (.slice pP nP cP) (.slice pQ nQ cQ) (.slice pG nG cG) (.slice pH nH cH));obtain⟨wa,hwa⟩:∃wa,w.alloc (.cells #[.slice pP nP cP,.slice pQ nQ cQ,.slice pG nG cG,.slice pH nH cH] 30)=wa:=⟨_,rfl⟩
 rw[hwa]at hbx HBX0
 have HWA:=Ab hbx;have HQ0:=Ab (hQ.below hbx);have HP:Aa (Ck wa p n c L):=⟨hL.below hbx⟩
 have HZ:Aa (Kd L):=⟨hz⟩
 have hpl:Aa (n=L.length):=⟨hL.len⟩
 have HMx:=Ab hmax;have mp:=hL.max;have mcp:=hL.cap;clear hL hz hmax hQ hbx;have HO0:Aa (Own (wa.alloc (.cells #[] 5)) wa.heap.size (.slice (some ⟨wa.heap.size,0,none⟩) 0 0) []):=⟨Own.lit wa [] (by decide)⟩
 have HB0:Aa (Below wa.heap.size wa (wa.alloc (.cells #[] 5))):=⟨(Bb _ _).alloc (As _) _⟩
 go_enter Tryz.func97,Tryz.ntmps97;go_wp2
 go_loopw [5,7,8,9,13] (fun x _ _ _ i wr=>∃(k:Nat) (v:Value),k<=n/\i=.int .i64 k/\v=x/\Aa (Below wa.heap.size wa wr)/\Aa (Own wr wa.heap.size v (Cg ((L.take k).map (·.bs))))) (fun _ _ _ _ i _=>n-(intOf i).toNat)
 case atStart=>exact⟨0,_,by omega,rfl,rfl,HB0,HO0⟩
 case round=>
  obtain⟨k,v,hk,rfl,rfl,HB,HO⟩:=hrel;have hzr:=HB.out.size
  by_cases hkn:k<n
  .obtain⟨b,off,rfl,hb,hc⟩:=HP.out.cells (by omega);obtain⟨P,hP⟩:∃P,L[k]? = some P:=⟨_,List.getElem?_eq_getElem (by have:=hpl.out;omega)⟩
   have HOK:Aa (Ax wr P):=⟨(HP.out.ok k P hP).below HB.out⟩
   have HZP:Aa (P.p=none->P.c=0):=⟨HZ.out P (List.mem_of_getElem? hP)⟩
   have hck:wr.cell? ⟨b,off+k,none⟩=some (.slice P.p P.n P.c):=by
    rw[(Ca HB.out).1 _ _ hb];exact hc k P hP
   have HPk:=Ab hP;have HTk:=Ab (Zd hP);have HLe:=Ab (fK L (k+1));have HPn:Aa (P.n=P.bs.length):=⟨HOK.out.row.len⟩
   clear hc hP;obtain⟨XS,hXS⟩:∃XS,Cg ((L.take k).map (·.bs))=XS:=⟨_,rfl⟩
   rw[hXS]at HO HTk
   have HXl:Aa (XS.length+8+P.n<=1000000):=⟨by
    have h1:=HLe.out;rw[HTk.out,List.length_append,List.length_append,Fe,HXX.out]at h1
    have:=HMx.out;have:=HPn.out;omega⟩
   clear hXS;obtain⟨wc,hwc⟩:∃x,x=wr:=⟨_,rfl⟩
   subst hwc;have hkn':(k:Int)<n:=by omega
   go_wp2
   go_loopw [5,8,9] (fun x nv i wr=>∃(j:Nat) (v:Value),j<=8/\i=.int .i64 j/\nv=.int .i64 ((P.n/256^j:Nat):Int)/\v=x/\Aa (Below wa.heap.size wa wr)/\Aa (Ax wr P)/\Aa (Own wr wa.heap.size v (XS++(Se P.n).take j))) (fun _ _ i _=>8-(intOf i).toNat)
   case atStart=>exact⟨0,v,by omega,rfl,by rw[Nat.pow_zero,Nat.div_one],rfl,HB,HOK,⟨by rw[List.take_zero,List.append_nil];exact HO.out⟩⟩
   case round=>
    obtain⟨j,v,hj,rfl,rfl,rfl,HBj,HKj,HOj⟩:=hrel
    by_cases hj8:j<8
    .obtain⟨M,hM⟩:∃M,P.n/256^j=M:=⟨_,rfl⟩
     have HM:Aa (P.n/256^(j+1)=M/256):=⟨by rw[Nat.pow_succ,<-Nat.div_div_eq_div_mul,hM]⟩
     have HT8:Aa ((Se P.n).take (j+1)=(Se P.n).take j++[M%256]):=⟨by rw[kW P.n hj8,hM]⟩
     have HMl:Aa (M<=P.n):=⟨by rw[<-hM];exact Nat.div_le_self _ _⟩
     rw[hM];obtain⟨R,hR⟩:∃R,M%256=R:=⟨_,rfl⟩
     have hmod:(M:Int).tmod 256=((R:Nat):Int):=by rw[Int.tmod_eq_emod_of_nonneg (by omega),<-hR];simp
     have hdiv:(M:Int).tdiv 256=((M/256:Nat):Int):=by rw[Int.tdiv_eq_ediv_of_nonneg (by omega)];simp
     have hR2:R<256:=by rw[<-hR];exact Nat.mod_lt _ (by decide)
     have hcv:IntKind.u8.wrap ((R:Nat):Int)=R:=IntWalk.u8_in _ (by omega);rw[hR]at HT8
     have hj8':(j:Int)<8:=by omega
     have HWr:Aa (wrap64 ((M:Int)/256)=((M/256:Nat):Int)):=⟨by
      have e:((M:Int)/256)=((M/256:Nat):Int):=by simp
      have h1:=HMl.out;have h2:=HXl.out;rw[e];exact IntWalk.wrap64_in ((M/256:Nat):Int) (by omega)⟩
     have hrow:=Ds wr [R] (by simp);have hb1:Below wr.heap.size wr (wr.alloc (.cells #[.int .u8 (R:Nat)] 5)):=Bx;have hrow':Bd (wr.alloc (.cells #[.int .u8 (R:Nat)] 5)) .u8 (some ⟨wr.heap.size,0,none⟩) 1 1 [R]:=hrow;obtain⟨wd,hwd⟩:∃wd,wr.alloc (.cells #[.int .u8 (R:Nat)] 5)=wd:=⟨_,rfl⟩
     rw[hwd]at hb1 hrow'
     have HOd:=Ab (HOj.out.belowS hb1);have HKd:=Ab (HKj.out.below hb1);have HRd:=Ab hrow';have HBd:=Ab (Ae HBj.out hb1);have HSz:=Ab HBd.out.size;have HLn:Aa ((XS++(Se P.n).take j).length+1<=140737488355328):=⟨by
      rw[List.length_append,List.length_take,Fe];have:=HXl.out;omega⟩
     clear hM hR hrow hrow' hb1
     go_wp2_with (at_builtin;refine Cc rfl _ _ rfl rfl HOd.out rfl HRd.out (fun h=>by cases h) HLn.out HSz.out ?_;intro v1 w3 ho1 hg1;refine De.out ?_)
     refine⟨?_⟩;rw[List.append_assoc,<-HT8.out]at ho1
     have HO1:=Ab ho1;have HB3:=Ab (HBd.out.trans (grown_below hg1 HSz.out HOd.out.ge));have HK3:Aa (Ax w3 P):=⟨(HP.out.ok k P HPk.out).below HB3.out⟩
     clear ho1 hg1;go_wp2;go_roundw
     case rel=>exact⟨j+1,_,by omega,by go_num,by rw[HM.out,HWr.out],rfl,HB3,HK3,HO1⟩
     case measure=>simp[intOf];omega
    .obtain rfl:j=8:=by omega
     have htk:(Se P.n).take 8=Se P.n:=List.take_of_length_le (by rw[Fe];exact As _);rw[htk]at HOj
     have hj8':¬(8:Int)<8:=by omega
     have HSz:=Ab HBj.out.size;have HLn:Aa ((XS++Se P.n).length+P.n<=140737488355328):=⟨by
      rw[List.length_append,Fe];have:=HXl.out;omega⟩
     clear htk
     go_wp2_with (at_builtin;refine Cc rfl _ _ rfl rfl HOj.out rfl HKj.out.row HZP.out HLn.out HSz.out ?_;intro v1 w3 ho1 hg1;refine De.out ?_)
     refine⟨?_⟩;rw[List.append_assoc,HPn.out,<-HTk.out]at ho1
     have HO1:=Ab ho1;have HB3:=Ab (HBj.out.trans (grown_below hg1 HSz.out HOj.out.ge));clear ho1 hg1;go_wp2;go_roundw
     case rel=>exact⟨k+1,_,by omega,by go_num,rfl,HB3,HO1⟩
     case measure=>simp[intOf];omega
  .obtain rfl:k=n:=by omega
   have hkn':¬(k:Int)<k:=by omega
   obtain⟨XS,hXS⟩:∃XS,XX=XS:=⟨_,rfl⟩
   have HOf:Aa (Own wr wa.heap.size v XS):=⟨by
    have h:=HO.out;rw[List.take_of_length_le (by have:=hpl.out;omega),HXX.out,hXS]at h
    exact h⟩
   have HXn0:Aa (XS.length<=1000000):=⟨by rw[<-hXS];exact HMx.out⟩
   have H8:Aa (Au XS):=⟨by
    rw[<-hXS,<-HXX.out];exact Xe fun P hP=>by
     obtain⟨i,hi⟩:=List.getElem?_of_mem hP;exact(HP.out.ok i P hi).bytes⟩
   subst hXS;obtain⟨nx,hnx⟩:∃nx,XX.length=nx:=⟨_,rfl⟩
   obtain⟨p5,c5,rfl,hr5,_,hz5,_⟩:=HOf.out.elim;rw[hnx]at hr5 HXn0
   rw[hnx];have HX:=Ab hr5;have HZ5:=Ab hz5;have HXn:Aa (nx<=1000000):=HXn0;have HBX:=Ab (HBX0.out.below HB.out HBX0.out.lt);have HQ:=Ab (HQ0.out.below HB.out);have HBT:=Ab (Ae HWA.out HB.out);have HS256:Aa (Ao (be (Ie XX))<=800000):=⟨by have:=Si (Ev XX);rw[Cd]at this;omega⟩
   clear hr5 hz5 hnx;go_wp2;refine Ah (by kernel_rfl) (by kernel_rfl)
    [some (.slice p5 nx c5),none,none,some (.pointer (some ⟨w.heap.size,1,none⟩)),some (.slice pQ nQ cQ),none,none]
    [false,true,true,false,false,true,true] rfl
    (fun w1 w2=>Below w1.heap.size w1 w2)
    (fun _ w'=>Below wr.heap.size wr w')
    (fun i v w'=>match i with
     | 1=>Bp 0 (Ie XX) v w'
     | 2=>Al (be (Ie XX)) v w'
     | 5=>Al (be (Ie XX)%Q) v w'
     | 6=>Al (be (Ie XX)%Q) v w'
     | _=>True)
    ?_ (Bb _ _).drew ?_ ?_
   .intro i v w1 w2 hf hb;split at hf
    .exact hf.below hb
    .exact hf.below hb
    .exact hf.below hb
    .exact hf.below hb
    .trivial
   .simp only[Ba,Nat.reduceAdd];refine⟨?_,?_,?_,?_,?_,?_,?_,trivial⟩
    all_goals intro D sp w' hD hW hdp hbx'
    case refine_2=>
     (with_reducible refine Ac (w1:=w') (f := 159) (args:=#[.slice p5 nx c5]) ?_ ?_ ?_)
     .simp[Region.wanted,yielded,Act.put,go_sem]
     .simp[Act.eval,Act.put,go_sem]
     .refine(Fp w' p5 nx c5 XX (HX.out.below hbx') H8.out HZ5.out HXn.out).mono ?_;rintro en w9 ⟨u,rfl,hu,hb⟩;have hu:=hu.zero;exact⟨u,rfl,hb,hu,Ae hbx' hb⟩
    case refine_3=>
     have k1:Bp 0 (Ie XX) (sp 1) w':=(hdp 1 (mq (by kernel_rfl))).2
     (with_reducible refine k1.elim (fun p1 c1 hv1 hr1 _ _=>?_))
     rw[Cd]at hr1 hv1
     (with_reducible refine Ac (w1:=w') (f := 72) (args:=#[.slice p1 32 c1]) ?_ ?_ ?_)
     .simp only[Region.wanted]
     .simp[Act.eval,Act.put,go_sem,hv1]
     .refine(Mc w' p1 32 c1 (Ie XX) hr1 (Ev _) (by omega)).mono ?_;rintro en w9 ⟨q,m,d,rfl,hu,hb,_⟩;exact⟨_,rfl,hb,Al.of hu,Ae hbx' hb⟩
    case refine_5=>
     have c0:=(HBX.out.below hbx' HBX.out.lt).cells.2.1
     with_reducible refine Ad ?_ ?_
     all_goals simp[Region.wanted,yielded,execOp,Act.eval,Act.put,go_sem,c0]
    case refine_6=>
     have k2:Al (be (Ie XX)) (sp 2) w':=(hdp 2 (mq (by kernel_rfl))).2
     (with_reducible refine Ac (w1:=w') (f := 71) (args:=#[sp 2,.slice pQ nQ cQ]) ?_ ?_ ?_)
     .simp[Region.wanted,yielded,Act.put,go_sem]
     .simp[Act.eval,Act.put,go_sem]
     .refine(Gv k2 (Al.of (HQ.out.below hbx')) (by have:=HS256.out;omega) lQ hQ0).mono ?_;rintro en w9 ⟨u,rfl,hu,hb⟩;exact⟨u,rfl,hb,hu,Ae hbx' hb⟩
    case refine_7=>
     have k5:Al (be (Ie XX)%Q) (sp 5) w':=(hdp 5 (mq (by kernel_rfl))).2
     (with_reducible refine Ai (w1:=w') (v:=sp 5) ?_ ?_ ?_)
     .simp[Region.wanted,yielded,Act.put,go_sem]
     .simp[execOp,Act.eval,Act.put,go_sem]
     .exact⟨Bb _ _,k5,hbx'⟩
    all_goals ((with_reducible refine Ad ?_ ?_);all_goals first|(simp only[Region.wanted];done)|simp[Region.wanted,yielded,execOp,Act.eval,Act.put,go_sem])
   .intro sp w7 hsp hbx';have k6:Al (be (Ie XX)%Q) (sp 6) w7:=hsp 6 rfl;have HK:=Ab k6;have HBe:=Ab (Ae HBT.out hbx');clear hsp hbx' k6;simp only[An,Nat.reduceAdd];generalize sp 1=y1,sp 2=y2,sp 5=y5,sp 6=y6 at *
    go_simp
    go_wp2;go_ret;exact⟨_,rfl,HK.out,HBe.out⟩
theorem Ru (w:World)(pk:Option Addr)(nk ck:Nat)(key:List Nat)(pi:Option Addr)(ni ci:Nat)(info:List Nat)(n:Nat)(hr:Ax w ⟨pk,nk,ck,key⟩)(hzk:pk=none->ck=0)(hI:Ax w ⟨pi,ni,ci,info⟩)(hzi:pi=none->ci=0)(hnk:nk<=1000)(hni:ni<=1000)(hn:n<=8160) :
  Calls Tryz.prog 73 #[.slice pk nk ck,.slice pi ni ci,.int .i64 n] w (Mz ((Ex key info ((n+31)/32)).take n) w):=by
 have HI:Aa (Ax w ⟨pi,ni,ci,info⟩):=⟨hI⟩
 have HKy:Aa (Ax w ⟨pk,nk,ck,key⟩):=⟨hr⟩
 have HZ:Aa ((pk=none->ck=0)/\(pi=none->ci=0)):=⟨hzk,hzi⟩
 obtain⟨K,hK⟩:∃K,(n+31)/32=K:=⟨_,rfl⟩
 have hKn:n<=32*K:=by omega
 have hKm:32*K<n+32:=by omega
 have hK255:K<=255:=by omega
 rw[hK];clear hK hI hr hzk hzi;have HO0:Aa (Own ((w.alloc (.cells #[] 5)).alloc (.cells #[] 5)) w.heap.size (.slice (some ⟨w.heap.size,0,none⟩) 0 0) (Ex key info 0)):=⟨(Own.lit w [] (by decide)).belowS ((Bb _ _).alloc (As _) _)⟩
 have HL0:Aa (Bp w.heap.size (Lu key info 0) (.slice (some ⟨w.heap.size+1,0,none⟩) 0 0) ((w.alloc (.cells #[] 5)).alloc (.cells #[] 5))):=⟨by
  have h:=Own.lit (w.alloc (.cells #[] 5)) [] (by decide);rw[show (w.alloc (.cells #[] 5)).heap.size=w.heap.size+1 by simp]at h
  exact Bp.mk (h.mono (Nat.le_succ _))⟩
 have HB0:Aa (Below w.heap.size w ((w.alloc (.cells #[] 5)).alloc (.cells #[] 5))):=⟨((Bb _ _).alloc (As _) _).alloc (by simp) _⟩
 go_enter Tryz.func73,Tryz.ntmps73;go_wp2
 go_loopw [7,8,9] (fun x y i wr=>∃(k:Nat) (u v:Value),k<=K/\u=x/\v=y/\i=.int .i64 ((k+1:Nat):Int)/\Aa (Own wr w.heap.size u (Ex key info k))/\Aa (Bp w.heap.size (Lu key info k) v wr)/\Aa (Below w.heap.size w wr)) (fun _ _ i _=>K+1-(intOf i).toNat)
 case atStart=>exact⟨0,_,_,by omega,rfl,rfl,rfl,HO0,HL0,HB0⟩
 case round=>
  obtain⟨k,u,v,hk,rfl,rfl,rfl,HU,HV,HB⟩:=hrel;have hsz:=HB.out.size;obtain⟨pu,cu,rfl,ru,nu,zu,_⟩:=HU.out.elim;have hlu:(Ex key info k).length=32*k:=Fh key info k;rw[hlu]at ru HU ⊢
  clear hlu
  by_cases hkK:k<K
  .have ht:32*(k:Int)<n:=by omega
   obtain⟨p,c,rfl,rv,zv⟩:∃p c,v=.slice p (Lu key info k).length c/\Bd wr .u8 p (Lu key info k).length c (Lu key info k)/\(p=none->c=0):=by
    have h:=HV.out
    cases h with
    | of p c _ h hn hz hp=>exact⟨p,c,rfl,h,hz⟩
   have hlt:(Lu key info k).length<=32:=by
    cases k with
    | zero=>simp[Lu]
    | succ k=>rw[Em];exact As _
   obtain⟨T,hT⟩:∃T,Lu key info k=T:=⟨_,rfl⟩
   have HT:Aa (Lu key info k=T):=⟨hT⟩
   have HT8:Aa (Au T):=⟨by rw[<-hT];exact Qc key info k⟩
   rw[hT]at rv hlt ⊢
   have hba:Below wr.heap.size wr (wr.alloc (.cells #[.int .u8 ((k+1:Nat):Int)] 5)):=Bx;have HWa:Aa (Below w.heap.size w (wr.alloc (.cells #[.int .u8 ((k+1:Nat):Int)] 5))):=⟨Bn HB.out hba⟩
   have hP:=kF (wr.alloc (.cells #[.int .u8 ((k+1:Nat):Int)] 5)) ⟨p,T.length,c,T⟩ ⟨pi,ni,ci,info⟩ ⟨some ⟨wr.heap.size,0,none⟩,1,1,[k+1]⟩ ⟨rv.below hba,HT8.out⟩ (HI.out.below HWa.out) ⟨Ds wr [k+1] (show 1<=9223372036854775807 by decide),fun x hx=>by obtain rfl:=List.mem_singleton.1 hx;omega⟩;rw[show (wr.alloc (.cells #[.int .u8 ((k+1:Nat):Int)] 5)).heap.size=wr.heap.size+1 by simp]at hP
   have HP:=Ab hP;have HZP:Aa (Kd [(⟨p,T.length,c,T⟩:Part),⟨pi,ni,ci,info⟩,⟨some ⟨wr.heap.size,0,none⟩,1,1,[k+1]⟩]):=⟨fun P hP=>by
    rcases List.mem_cons.1 hP with rfl|hP
    .exact zv
    .rcases List.mem_cons.1 hP with rfl|hP
     .exact HZ.out.2
     .obtain rfl:=List.mem_singleton.1 hP;exact fun h=>by cases h⟩
   have hbp:Below (wr.alloc (.cells #[.int .u8 ((k+1:Nat):Int)] 5)).heap.size (wr.alloc (.cells #[.int .u8 ((k+1:Nat):Int)] 5)) ((wr.alloc (.cells #[.int .u8 ((k+1:Nat):Int)] 5)).alloc (.cells #[.slice p T.length c,.slice pi ni ci,.slice (some ⟨wr.heap.size,0,none⟩) 1 1] 23)):=Bx;have HBp:Aa (Below wr.heap.size wr ((wr.alloc (.cells #[.int .u8 ((k+1:Nat):Int)] 5)).alloc (.cells #[.slice p T.length c,.slice pi ni ci,.slice (some ⟨wr.heap.size,0,none⟩) 1 1] 23))):=⟨Bn hba hbp⟩
   have HWh:Aa (whole [(⟨p,T.length,c,T⟩:Part),⟨pi,ni,ci,info⟩,⟨some ⟨wr.heap.size,0,none⟩,1,1,[k+1]⟩]=T++(info++[k+1])):=⟨by simp[whole]⟩
   have HWl:Aa ((T++(info++[k+1])).length<=2000):=⟨by
    have hIl:=HI.out.row.len
    dsimp only at hIl
    simp;omega⟩
   clear hP hba hbp rv hT
   go_wp2_with fail
   refine Mt (w1:=(wr.alloc (.cells #[.int .u8 ((k+1:Nat):Int)] 5)).alloc (.cells #[.slice p T.length c,.slice pi ni ci,.slice (some ⟨wr.heap.size,0,none⟩) 1 1] 23)) (by kernel_rfl) ?_;refine(Iz _ (some ⟨wr.heap.size+1,0,none⟩) 3 3 _ HP.out HZP.out (by rw[HWh.out];have:=HWl.out;omega)).mono ?_;rintro e w4 ⟨v4,rfl,ho4,hb4⟩;rw[HWh.out]at ho4
   obtain⟨Y,hY⟩:∃Y,T++(info++[k+1])=Y:=⟨_,rfl⟩
   rw[hY]at ho4 HWl
   have HTk:Aa (Jz key Y=Lu key info (k+1)/\Au Y):=⟨by rw[<-hY,Lu,HT.out,Nat.mod_eq_of_lt (show k+1<256 by omega)],by
    rw[<-hY];intro x hx;rcases List.mem_append.1 hx with h|h
    .exact HT8.out x h
    .rcases List.mem_append.1 h with h|h
     .exact HI.out.bytes x h
     .obtain rfl:=List.mem_singleton.1 h;omega⟩
   obtain⟨p4,c4,_,r4,n4,z4,_⟩:=ho4;have HB4:Aa (Below wr.heap.size wr w4):=⟨Bn HBp.out hb4⟩
   have HBw4:Aa (Below w.heap.size w w4):=⟨Bn HB.out HB4.out⟩
   have hK4:=HKy.out.below HBw4.out;clear hY HP HZP HBp HWh n4 hb4
   go_wp2_with fail
   refine(Xg w4 pk nk ck key p4 Y.length c4 Y hK4.row hK4.bytes HZ.out.1 hnk ⟨r4,HTk.out.2⟩ z4 (by have:=HWl.out;omega)).mono ?_;rintro e w5 ⟨v5,rfl,ho5,hb5⟩;rw[HTk.out.1]at ho5
   obtain⟨p5,c5,_,r5,n5,z5,l5⟩:=ho5;rw[Em]at r5 ⊢
   have HB5:Aa (Below wr.heap.size wr w5):=⟨Bn HB4.out hb5⟩
   have HBw5:Aa (Below w.heap.size w w5):=⟨Bn HB.out HB5.out⟩
   have hz4:=HB4.out.size;have HU5:Aa (Own w5 w.heap.size (.slice pu (32*k) cu) (Ex key info k)):=⟨HU.out.belowS HB5.out⟩
   have HQN:Aa (∀g,(Value.slice pu (32*k) cu).ownBlock=some g->∀q,p5=some q->q.block≠g):=⟨fun g hg q hq=>by
    have:=HU.out.lt g hg;have:=n5 q hq;omega⟩
   have HR5:Aa (Bd w5 .u8 p5 32 c5 (Lu key info (k+1))):=⟨r5⟩
   have HZ5:Aa ((p5=none->c5=0)/\(∀q,p5=some q->q.block<w5.heap.size)/\Gd w.heap.size p5):=⟨z5,l5,n5.mono (by omega)⟩
   have hmx:Aa ((Ex key info k).length+32<=140737488355328):=⟨by rw[Fh];omega⟩
   have hs5:=HBw5.out.size;clear r5 n5 z5 l5 r4 z4 hK4 hb5
   go_wp2_with (at_builtin;refine Cc rfl _ _ rfl rfl HU5.out rfl HR5.out HZ5.out.1 hmx.out hs5 ?_;intro v6 w6 ho6 hg6;refine De.out ?_)
   refine⟨?_⟩;have hr6:Bd w6 .u8 p5 32 c5 (Lu key info (k+1)):=HR5.out.grown hg6 (fun a ha e=>HQN.out _ e.symm a ha rfl);have HV6:Aa (Bp w.heap.size (Lu key info (k+1)) (.slice p5 32 c5) w6):=⟨by
    have h:=Bp.of (lo:=w.heap.size) (bs:=Lu key info (k+1)) p5 c5 w6 (by rw[Em];exact hr6) HZ5.out.2.2 HZ5.out.1 (fun q hq=>Ej (HZ5.out.2.1 q hq) hg6.size);rw[Em]at h
    exact h⟩
   have HU6:Aa (Own w6 w.heap.size v6 (Ex key info (k+1))):=⟨ho6⟩
   have HB6:Aa (Below w.heap.size w w6):=⟨HBw5.out.trans (grown_below hg6 hs5 HU5.out.ge)⟩
   clear hr6 ho6 hg6;go_wp2;go_roundw
   case rel=>exact⟨k+1,_,_,by omega,rfl,rfl,by go_num,HU6,HV6,HB6⟩
   case measure=>simp[intOf];omega
  .obtain rfl:k=K:=by omega
   have ht:¬32*(k:Int)<n:=by omega
   have hcc:=ru.cap;have hcm:=ru.max;have hl:((Ex key info k).take n).length=n:=by rw[List.length_take,Fh];omega
   have hx:Bp w.heap.size ((Ex key info k).take n) (.slice pu n cu) wr:=by
    have h:=Bp.of (lo:=w.heap.size) (bs:=(Ex key info k).take n) pu cu wr (by rw[hl];exact ru.take n hKn) nu zu (fun q hq=>by
     subst hq;exact HU.out.lt q.block rfl)
    rw[hl]at h
    exact h
   have HX:=Ab hx;clear hx hl ru nu zu HU HV;go_wp2;go_ret;exact⟨_,rfl,HX.out,HB.out⟩
theorem mK (N:Nat):be (Az N (Ak N))=N:=by
 unfold be Az;rw[List.reverse_reverse,Sd,Nat.mod_eq_of_lt (Dj N)]
theorem Dp {w:World}{v:Value}{e N:Nat}(h:Fit e N v w)(he:e<=200) :
  Calls Tryz.prog 29 #[v] w fun en w'=>∃x,en=.returned x/\Al N x w'/\Below w.heap.size w w':=by
 obtain⟨p,n,c,rfl,h1,h2⟩:=h;have hbx:=Ef.mk1 w (.slice p n c) 37;have HF:=Ab ((Fit.of h1 h2).below hbx.bel);have HB:=Ab hbx.bel;have hl:Aa (Ak N<=1000):=⟨by
  have:Ao N<=32*e:=(Bg N _).2 (by
   have:Ar e=2^(32*e):=by unfold Ar;rw[Nat.pow_mul]
   rw[<-this];exact h2)
  unfold Ak;omega⟩
 clear h1 h2 hbx;go_enter Tryz.func29,Tryz.ntmps29
 go_wp2_with fail
 refine(gR HF.out (by omega)).mono ?_;rintro en w1 ⟨_,rfl,⟨q,m,d,rfl,hr⟩,b1⟩;have HR:Aa (Bd w1 .u8 q m d (Az N (Ak N))):=⟨⟨hr.len,hr.cap,hr.max,fun _=>hr⟩⟩
 have HM:Aa (m<=1000):=⟨by rw[hr.len,Bq];exact hl.out⟩
 have HB1:=Ab (Ae HB.out b1);clear hr b1
 go_wp2_with fail
 refine(Mc w1 q m d _ HR.out (Gf N _).reverse HM.out).mono ?_;rintro en w2 ⟨x,y,z,rfl,hb,b2,_⟩;rw[mK]at hb
 have HN:=Ab hb;have HB2:=Ab (Ae HB1.out b2);clear hb b2;go_wp2;go_ret;exact⟨_,rfl,Al.of HN.out,HB2.out⟩
theorem gU {t:TypeId}{w:World}{b:Nat}{x0 x1 x2 x3:Option Addr×Nat×Nat}(h:Cu t w b (.slice x0.1 x0.2.1 x0.2.2) (.slice x1.1 x1.2.1 x1.2.2) (.slice x2.1 x2.2.1 x2.2.2) (.slice x3.1 x3.2.1 x3.2.2))(u0 u1 u2 u3:Value) :
  Ij w ((((w.setCell ⟨b,0,none⟩ u0).setCell ⟨b,1,none⟩ u1).setCell ⟨b,2,none⟩ u2).setCell ⟨b,3,none⟩ u3):=by
 have h0:=h.at_
 have k0:=Ij.set h.cells.1 u0;have k1:Ij (w.setCell ⟨b,0,none⟩ u0) ((w.setCell ⟨b,0,none⟩ u0).setCell ⟨b,1,none⟩ u1):=Ij.set (p:=x1.1) (n:=x1.2.1) (c:=x1.2.2) (by simp[World.cell?,World.setCell,Array.getElem?_modify,h0]) u1;have k2:Ij ((w.setCell ⟨b,0,none⟩ u0).setCell ⟨b,1,none⟩ u1) (((w.setCell ⟨b,0,none⟩ u0).setCell ⟨b,1,none⟩ u1).setCell ⟨b,2,none⟩ u2):=Ij.set (p:=x2.1) (n:=x2.2.1) (c:=x2.2.2) (by simp[World.cell?,World.setCell,Array.getElem?_modify,h0]) u2;have k3:Ij (((w.setCell ⟨b,0,none⟩ u0).setCell ⟨b,1,none⟩ u1).setCell ⟨b,2,none⟩ u2) ((((w.setCell ⟨b,0,none⟩ u0).setCell ⟨b,1,none⟩ u1).setCell ⟨b,2,none⟩ u2).setCell ⟨b,3,none⟩ u3):=Ij.set (p:=x3.1) (n:=x3.2.1) (c:=x3.2.2) (by simp[World.cell?,World.setCell,Array.getElem?_modify,h0]) u3;exact((k0.trans k1).trans k2).trans k3
structure Cb (P Q G H:Nat) (v:Value) (w:World):Prop where
 ex:∃p0 n0 c0 p1 n1 c1 p2 n2 c2 p3 n3 c3,v=.agg #[.slice p0 n0 c0,.slice p1 n1 c1,.slice p2 n2 c2,.slice p3 n3 c3]/\Bi w p0 n0 c0 P/\Bi w p1 n1 c1 Q/\Bi w p2 n2 c2 G/\Bi w p3 n3 c3 H
theorem Cb.below {P Q G H:Nat}{v:Value}{w w':World}(h:Cb P Q G H v w)(hb:Below w.heap.size w w'):Cb P Q G H v w':=by
 obtain⟨p0,n0,c0,p1,n1,c1,p2,n2,c2,p3,n3,c3,h0,h1,h2,h3,h4⟩:=h.ex;exact⟨p0,n0,c0,p1,n1,c1,p2,n2,c2,p3,n3,c3,h0,h1.below hb,h2.below hb,h3.below hb,h4.below hb⟩
structure nE (Q:Nat) (v:Value) (w:World):Prop where
 ex:∃r,v=.pointer (some ⟨r,0,none⟩)/\Ring w r Q 33
section
variable {At:World->Nat->Nat->Nat->Nat->Nat->Prop} {ready:World->Prop}
end
theorem Va (w:World)(pk:Option Addr)(nk ck:Nat)(salt:List Nat)(ps:Option Addr)(ns cs:Nat)(secret:List Nat)(hT:Tabs w)(hK:Ax w ⟨pk,nk,ck,salt⟩)(hS:Ax w ⟨ps,ns,cs,secret⟩) :
  Calls Tryz.prog 241 #[.slice pk nk ck,.slice ps ns cs] w (My (bQ salt secret) w):=by
 have hb:Below w.heap.size w (w.alloc (.cells #[.slice ps ns cs] 23)):=Bx;have hz:=hb.size;have HC:=Ab (Xq (w.alloc (.cells #[.slice ps ns cs] 23)) pk nk ck salt _ _ _ [⟨ps,ns,cs,secret⟩] (hT.below hb hT.size) (hK.below hb).row hK.bytes (kG w ⟨ps,ns,cs,secret⟩ hS));have HB:=Ab hb;clear hT hK hS hb;go_enter Tryz.func241,Tryz.ntmps241
 go_wp2_with fail
 refine HC.out.mono ?_;rintro e w1 ⟨q,rfl,hq,hb1,hk⟩;rw[Vi]at hk
 go_wp2;go_ret;exact⟨q,rfl,by omega,Bn HB.out hb1,hk⟩
theorem Xy (w:World)(pk:Option Addr)(nk ck:Nat)(salt:List Nat)(ps:Option Addr)(ns cs:Nat)(secret:List Nat)(pi:Option Addr)(ni ci:Nat)(info:List Nat)(n:Nat)(hT:Tabs w)(hK:Ax w ⟨pk,nk,ck,salt⟩)(hS:Ax w ⟨ps,ns,cs,secret⟩)(hI:Ax w ⟨pi,ni,ci,info⟩)(hn:n<=8160) :
  Calls Tryz.prog 219 #[.slice pk nk ck,.slice ps ns cs,.slice pi ni ci,.int .i64 n] w (bL n ((Ex (Jz salt secret) info ((n+31)/32)).take n) w):=by
 have HC:=Ab (Va w pk nk ck salt ps ns cs secret hT hK hS);have HI:Aa (Ax w ⟨pi,ni,ci,info⟩):=⟨hI⟩
 have HT:Aa (Tabs w):=⟨hT⟩
 clear hT hK hS hI;go_enter Tryz.func219,Tryz.ntmps219
 go_wp2_with fail
 refine HC.out.mono ?_;rintro e w1 ⟨q,rfl,hq,hb1,hk⟩;have hr:Bd w1 .u8 (some ⟨q,0,none⟩) 32 32 (Jz salt secret):=⟨(Mk _ _).symm,As _,by omega,fun _=>hk.row (Mk _ _).symm (As _) (by omega)⟩
 go_wp2_with fail
 refine(Pm w1 _ _ _ (Jz salt secret) pi ni ci info n (HT.out.below hb1 HT.out.size) hr (Tw _ _) (HI.out.below hb1) hn).mono ?_;rintro e w2 ⟨p,rfl,hr2,hn2,hb2,hz2⟩;have hz:=hb1.size;have HE:=Ab hr2;have HN:Aa (Gd w.heap.size p/\(p=none->n=0)):=⟨hn2.mono hz,hz2⟩
 clear hr2 hn2 hz2 hr hk;go_wp2;exact bodyPost_ret (v:=.tuple #[.slice p n n,.int .i64 0]) (by simp[results,Tryz.results219,go_sem]) rfl ⟨p,rfl,HE.out,HN.out.1,Bn hb1 hb2,HN.out.2⟩
theorem Sr {N:Nat}{l:List Bz}(h:Told N l):Dv N:=by
 rcases h with h|⟨h,s,hs,rfl⟩
 .exact h.prime
 .exact Rq l [] (fun x hx=>by cases hx) h s hs
def Ha (seed:List Nat)(P c:Nat):Nat:=be ((Ex (Jz [] seed) [104,c] ((Ak P+8+31)/32)).take (Ak P+8))
def Gg (f:Nat->Nat):Nat->Nat->Option Nat
 | 0,_=>none
 | k+1,c=>if 1<f c then some (f c) else Gg f k (c+1)
def Um (P Q G:Nat):Prop:=(P-1)%Q=0/\64<Q/\1<G/\G<P/\G^Q%P=1
open Classical in
noncomputable def newSpec (P Q G:Nat) (seed:List Nat) (l:List Bz):Nat×Nat :=
 if Told P l/\Told Q l then
  if Um P Q G then
   match Gg (fun c=>Ha seed P c^((P-1)/Q)%P) 256 0 with
   | some h=>(0,h)
   | none=>(6,0)
  else (1,0)
 else (8,0)
theorem aH {w:World}{v:Value}{P Q G H:Nat}(h:Cb P Q G H v w)(hl:Ao P<=100000) :
  Calls Tryz.prog 160 #[v] w fun e w'=>e=.returned (.int .i64 (Ak P:Nat))/\Below w.heap.size w w':=by
 obtain⟨p0,n0,c0,p1,n1,c1,p2,n2,c2,p3,n3,c3,rfl,h0,_⟩:=h.ex;have hn:=Ch h0;have hbx:Below w.heap.size w (w.alloc (.cells #[.slice p0 n0 c0,.slice p1 n1 c1,.slice p2 n2 c2,.slice p3 n3 c3] 30)):=Bx;have HBX:=Ab (Cu.made 30 w (.slice p0 n0 c0) (.slice p1 n1 c1) (.slice p2 n2 c2) (.slice p3 n3 c3));obtain⟨wa,hwa⟩:∃wa,w.alloc (.cells #[.slice p0 n0 c0,.slice p1 n1 c1,.slice p2 n2 c2,.slice p3 n3 c3] 30)=wa:=⟨_,rfl⟩
 rw[hwa]at hbx HBX
 have HB:=Ab hbx;have HS:Aa (Ak P=(n0+7)/8):=⟨by unfold Ak;rw[hn]⟩
 have hn0:n0<=100000:=by omega
 have hdiv:((n0:Int)+7).tdiv 8=(((n0+7)/8:Nat):Int):=by rw[Int.tdiv_eq_ediv_of_nonneg (by omega)];omega
 have c0':=HBX.out.cells.1;clear h h0 hn hbx hl;go_enter Tryz.func160,Tryz.ntmps160;go_wp2;go_ret;exact⟨by rw[HS.out];simp,HB.out⟩
open Classical in
theorem Ny {w:World}{v:Value}{P Q G H A:Nat}{p:Option Addr}{n c:Nat}(h:Cb P Q G H v w)(hA:Bi w p n c A)(lP:Ao P<=100000)(lQ:Ao Q<=100000)(lA:Ao A<=100000)(hP:0<P) :
  Calls Tryz.prog 88 #[v,.slice p n c] w fun e w'=>e=.returned (.bool (decide (0<A/\A<P/\A^Q%P=1)))/\Below w.heap.size w w':=by
 obtain⟨p0,n0,c0,p1,n1,c1,p2,n2,c2,p3,n3,c3,rfl,h0,h1,_,_⟩:=h.ex;have hn:=Ch hA;have hbx:Below w.heap.size w (w.alloc (.cells #[.slice p0 n0 c0,.slice p1 n1 c1,.slice p2 n2 c2,.slice p3 n3 c3] 30)):=Bx;have HBX:=Ab (Cu.made 30 w (.slice p0 n0 c0) (.slice p1 n1 c1) (.slice p2 n2 c2) (.slice p3 n3 c3));obtain⟨wa,hwa⟩:∃wa,w.alloc (.cells #[.slice p0 n0 c0,.slice p1 n1 c1,.slice p2 n2 c2,.slice p3 n3 c3] 30)=wa:=⟨_,rfl⟩
 rw[hwa]at hbx HBX
 have HB:=Ab hbx;have HA:=Ab (hA.below hbx);have HP:=Ab (h0.below hbx);have HQ:=Ab (h1.below hbx);have hcap:=hA.cap;have hcm:=hA.max;obtain⟨ANS,hANS⟩:∃X,decide (0<A/\A<P/\A^Q%P=1)=X:=⟨_,rfl⟩
 have HANS:=Ab hANS;rw[hANS];have c0':=HBX.out.cells.1;have HNA:=Ab hn;clear h h0 h1 hA hn hbx hANS
 by_cases hA0:A=0
 .have hn0:n=0:=by rw[HNA.out,hA0];rfl
  have HF:Aa (ANS=false):=⟨by rw[<-HANS.out];exact decide_eq_false fun h=>by omega⟩
  subst hn0;clear hA0;go_enter Tryz.func88,Tryz.ntmps88;go_wp2;go_ret;exact⟨by rw[HF.out];rfl,HB.out⟩
 have hn0:(0:Int)<n:=by
  have:=Ia (show 0<A by omega);have:=HNA.out;omega
 obtain⟨K,hK⟩:∃K,Bo A P=K:=⟨_,rfl⟩
 have HK:=Ab hK;have HA0:Aa (0<A):=⟨by omega⟩
 clear hK hA0;go_enter Tryz.func88,Tryz.ntmps88
 go_wp2_with fail
 refine(Gs (Al.of HA.out) (Al.of HP.out) (by omega) (by omega)).mono ?_;rintro en w1 ⟨_,rfl,rfl,hb1⟩;rw[HK.out];have HB1:=Ab hb1;have HX1:=Ab (HBX.out.below hb1 HBX.out.lt);clear hb1 c0'
 by_cases hlt:A<P
 .have hK0:K<0:=by rw[<-HK.out,Dl hlt];decide
  have HLt:=Ab hlt;have c1':=HX1.out.cells.2.1;have c0':=HX1.out.cells.1;clear hlt
  go_wp2_with fail
  refine(aQ (Al.of (HA.out.below HB1.out)) (Al.of (HQ.out.below HB1.out)) (Al.of (HP.out.below HB1.out)) lA lQ lP hP).mono ?_;rintro en w2 ⟨_,rfl,⟨px,nx,cx,rfl,hx⟩,hb2⟩;have HB2:=Ab (Ae HB1.out hb2);have HX:=Ab hx;clear hb2 hx c0' c1'
  go_wp2_with fail
  refine(Fb 1 w2 (by decide)).mono ?_;rintro en w3 ⟨p3,n3,c3,rfl,hn3,hb3,_⟩;have HB3:=Ab (Ae HB2.out hb3);have HX3:=Ab (HX.out.below hb3);have HN3:=Ab hn3;obtain⟨Y,hY⟩:∃Y,A^Q%P=Y:=⟨_,rfl⟩
  rw[hY]at HX3
  have HYl:Aa (Ao Y<=100000):=⟨by rw[<-hY];exact Dn (Ee (Nat.le_of_lt (Nat.mod_lt _ hP))) lP⟩
  have HF:Aa (ANS=decide (Y=1)):=⟨by
   rw[<-HANS.out,<-hY];exact decide_eq_decide.2 ⟨fun h=>h.2.2,fun h=>⟨HA0.out,HLt.out,h⟩⟩⟩
  clear hb3 hn3 hY
  go_wp2_with fail
  refine(Gs (Al.of HX3.out) (Al.of HN3.out) (by have:=HYl.out;omega) (by have:Ao 1<=1:=(Bg 1 1).2 (by decide);omega)).mono ?_;rintro en w4 ⟨_,rfl,rfl,hb4⟩;have HB4:=Ab (Ae HB3.out hb4);have e0:((Bo Y 1:Int)==0)=decide (Y=1):=by
   by_cases hnm:Y=1
   .simp[hnm,Ce.2]
   .have:Bo Y 1≠0:=fun h0=>hnm (Ce.1 h0)
    simp[hnm,this]
  have HE:=Ab e0;generalize Bo Y 1=K2 at *;have HBe:=Ab (Ae HB.out HB4.out);clear e0 hb4;go_wp2;go_ret;exact⟨by rw[HF.out,<-HE.out];rfl,HBe.out⟩
 .have hK0:¬K<0:=by
   rw[<-HK.out];rcases Nat.lt_or_ge P A with h|h
   .have:=Je.2 h;omega
   .rw[Nat.le_antisymm h (by omega),Iu];decide
  have HF:Aa (ANS=false):=⟨by rw[<-HANS.out];exact decide_eq_false fun h=>hlt h.2.1⟩
  have HBe:=Ab (Ae HB.out HB1.out);clear hlt;go_wp2;go_ret;exact⟨by rw[HF.out];rfl,HBe.out⟩
end Go.Proofs.YtokhckjemidbpaaGreatDoor
