/- How a region stands that stores numbers into boxes of its own; a group in memory. -/
import Derived.Test.YthgoeiegdhphjaaGreatDoorGrpN
import Derived.Laws.OwnMore
import Derived.Lib.AppendZeros
import Derived.ArgAppend
import Derived.Test.YthgoeiegdhphjaaGreatDoorExp
import Derived.Test.YthgoeiegdhphjaaGreatDoorCpD
set_option maxRecDepth 1000000
set_option maxHeartbeats 16000000
set_option linter.unusedSimpArgs false
set_option linter.unusedVariables false
namespace Go.Proofs.YthgoeiegdhphjaaGreatDoor
def Rf (n:Nat):List Nat:=(List.range 8).map fun i=>n/256^i%256
theorem Ee (n:Nat):(Rf n).length=8:=by simp[Rf]
theorem Vd (n:Nat):Aw (Rf n):=fun x hx=>by
 simp only[Rf,List.mem_map]at hx;obtain⟨i,_,rfl⟩:=hx;exact Nat.mod_lt _ (by decide)
def Bw:List (List Nat)->List Nat
 | []=>[]
 | p::L=>Rf p.length++p++Bw L
theorem Kr:∀(L:List (List Nat)) (p:List Nat),Bw (L++[p])=Bw L++(Rf p.length++p)
 | [],p=>by simp[Bw]
 | a::L,p=>by simp[Bw,Kr L p]
def Ku (P:Nat):Nat->List (Nat×Nat)->Nat
 | x,[]=>x
 | x,(b,e)::l=>Ku P (x*(b^e%P)%P) l
theorem Sh {P:Nat}(hP:2<=P):∀(l:List (Nat×Nat)) (x:Nat),x<P->Ku P x l<P
 | [],_,h=>h
 | (_,_)::l,_,_=>Sh hP l _ (Nat.mod_lt _ (by omega))
open Go Go.RowKit Go.Proofs.YthgoeiegdhphjaaGreatDoor.Flow
theorem Xq {bs:List Nat}(h:Aw bs):Al (be bs)<=8*bs.length:=by
 refine(Bd _ _).2 ?_;have:=h.reverse.lt;rw[Gw]at this
 simpa [be]using this
theorem aS (w:World)(p:Option Addr)(b off:Nat)(hp:p=some ⟨b,off,none⟩)(hb:b<w.heap.size):Bb w p 0 0 0:=by
 show Eb w p 0 0 [];exact⟨rfl,Nat.le_refl _,by omega,.inr ⟨b,off,hp,hb,fun i x hx=>by cases hx⟩⟩
theorem Ah.grown {w w':World}{p:Option Addr}{n c N g:Nat}(h:Ah w p n c N)(hg:w.grownBy w' (some g))(hp:∀q,p=some q->q.block≠g):Ah w' p n c N :=
 let ⟨ws,h1,h2,h3,h4⟩:=h.ex
 ⟨ws,h1.grown hg hp,h2,h3,h4⟩
theorem kQ (n:Nat){i:Nat}(hi:i<8):(Rf n).take (i+1)=(Rf n).take i++[n/256^i%256]:=by
 refine Fj ?_;unfold Rf;rw[List.getElem?_map,List.getElem?_range hi];rfl
theorem Yp {L:List Part}{k:Nat}{P:Part}(h:L[k]? = some P):Bw ((L.take (k+1)).map (·.bs))=Bw ((L.take k).map (·.bs))++(Rf P.bs.length++P.bs):=by
 rw[Fj h,List.map_append];exact Kr _ _
theorem fJ (L:List Part)(k:Nat):(Bw ((L.take k).map (·.bs))).length<=(Bw (L.map (·.bs))).length:=by
 conv=>rhs;rw[<- List.take_append_drop k L,List.map_append]
 have:∀(a b:List (List Nat)),(Bw a).length<=(Bw (a++b)).length:=by
  intro a b
  induction a with
  | nil=>exact Nat.zero_le _
  | cons x a ih=>simp only[List.cons_append,Bw,List.length_append];omega
 exact this _ _
theorem We {L:List Part}(h:∀P∈L,Aw P.bs):Aw (Bw (L.map (·.bs))):=by
 induction L with
 | nil=>intro x hx;simp[Bw]at hx
 | cons P L ih =>
  intro x hx;simp only[List.map_cons,Bw,List.mem_append]at hx;rcases hx with (hx|hx)|hx
  .exact Vd _ x hx
  .exact h P (by simp) x hx
  .exact ih (fun P hP=>h P (by simp[hP])) x hx
theorem aJ (w:World)(pP:Option Addr)(nP cP:Nat)(pQ:Option Addr)(nQ cQ Q:Nat)(pG:Option Addr)(nG cG:Nat)(pH:Option Addr)(nH cH:Nat)(hQ:Bb w pQ nQ cQ Q)(hQ0:0<Q)(lQ:Al Q<=900000)(p:Option Addr)(n c:Nat)(L:List Part)(hL:Bp w p n c L)(hz:Iv L)(hmax:(Bw (L.map (·.bs))).length<=1000000) :
  Calls Tryz.prog 109 #[.agg #[.slice pP nP cP,.slice pQ nQ cQ,.slice pG nG cG,.slice pH nH cH],.slice p n c] w fun e w'=>∃x,e=.returned x/\Ak (be (Km (Bw (L.map (·.bs))))%Q) x w'/\Below w.heap.size w w':=by
 obtain⟨XX,hXX⟩:∃XS,Bw (L.map (·.bs))=XS:=⟨_,rfl⟩
 have HXX:=Ac hXX;rw[hXX]at hmax
 rw[hXX];clear hXX;have hbx:Below w.heap.size w (w.alloc (.cells #[.slice pP nP cP,.slice pQ nQ cQ,.slice pG nG cG,.slice pH nH cH] 30)):=Bt;have HBX0:=Ac (Ce.made 30 w (.slice pP nP cP) (.slice pQ nQ cQ) (.slice pG nG cG) (.slice pH nH cH));obtain⟨wa,hwa⟩:∃wa,w.alloc (.cells #[.slice pP nP cP,.slice pQ nQ cQ,.slice pG nG cG,.slice pH nH cH] 30)=wa:=⟨_,rfl⟩
 rw[hwa]at hbx HBX0
 have HWA:=Ac hbx;have HQ0:=Ac (hQ.below hbx);have HP:Aa (Bp wa p n c L):=⟨hL.below hbx⟩
 have HZ:Aa (Iv L):=⟨hz⟩
 have hpl:Aa (n=L.length):=⟨hL.len⟩
 have HMx:=Ac hmax;have mp:=hL.max;have mcp:=hL.cap;clear hL hz hmax hQ hbx;have HO0:Aa (Own (wa.alloc (.cells #[] 5)) wa.heap.size (.slice (some ⟨wa.heap.size,0,none⟩) 0 0) []):=⟨Own.lit wa [] (by decide)⟩
 have HB0:Aa (Below wa.heap.size wa (wa.alloc (.cells #[] 5))):=⟨(Below.refl _ _).alloc (Nat.le_refl _) _⟩
 go_enter Tryz.func109,Tryz.ntmps109;go_wp2
 go_loopw [5,7,8,9,13] (fun x _ _ _ i wr=>∃(k:Nat) (v:Value),k<=n/\i=.int .i64 k/\v=x/\Aa (Below wa.heap.size wa wr)/\Aa (Own wr wa.heap.size v (Bw ((L.take k).map (·.bs))))) (fun _ _ _ _ i _=>n-(intOf i).toNat)
 case atStart=>exact⟨0,_,by omega,rfl,rfl,HB0,HO0⟩
 case round =>
  obtain⟨k,v,hk,rfl,rfl,HB,HO⟩:=hrel;have hzr:=HB.out.size
  by_cases hkn:k<n
  .obtain⟨b,off,rfl,hb,hc⟩:=HP.out.cells (by omega);obtain⟨P,hP⟩:∃P,L[k]? = some P:=⟨_,List.getElem?_eq_getElem (by have:=hpl.out;omega)⟩
   have HOK:Aa (Ar wr P):=⟨(HP.out.ok k P hP).below HB.out⟩
   have HZP:Aa (P.p=none->P.c=0):=⟨HZ.out P (List.mem_of_getElem? hP)⟩
   have hck:wr.cell? ⟨b,off+k,none⟩=some (.slice P.p P.n P.c):=by
    rw[(Bu HB.out).1 _ _ hb];exact hc k P hP
   have HPk:=Ac hP;have HTk:=Ac (Yp hP);have HLe:=Ac (fJ L (k+1));have HPn:Aa (P.n=P.bs.length):=⟨HOK.out.row.len⟩
   clear hc hP;obtain⟨XS,hXS⟩:∃XS,Bw ((L.take k).map (·.bs))=XS:=⟨_,rfl⟩
   rw[hXS]at HO HTk
   have HXl:Aa (XS.length+8+P.n<=1000000):=⟨by
    have h1:=HLe.out;rw[HTk.out,List.length_append,List.length_append,Ee,HXX.out]at h1
    have:=HMx.out;have:=HPn.out;omega⟩
   clear hXS;obtain⟨wc,hwc⟩:∃x,x=wr:=⟨_,rfl⟩
   subst hwc;have hkn':(k:Int)<n:=by omega
   go_wp2
   go_loopw [5,8,9] (fun x nv i wr=>∃(j:Nat) (v:Value),j<=8/\i=.int .i64 j/\nv=.int .i64 ((P.n/256^j:Nat):Int)/\v=x/\Aa (Below wa.heap.size wa wr)/\Aa (Ar wr P)/\Aa (Own wr wa.heap.size v (XS++(Rf P.n).take j))) (fun _ _ i _=>8-(intOf i).toNat)
   case atStart=>exact⟨0,v,by omega,rfl,by rw[Nat.pow_zero,Nat.div_one],rfl,HB,HOK,⟨by rw[List.take_zero,List.append_nil];exact HO.out⟩⟩
   case round =>
    obtain⟨j,v,hj,rfl,rfl,rfl,HBj,HKj,HOj⟩:=hrel
    by_cases hj8:j<8
    .obtain⟨M,hM⟩:∃M,P.n/256^j=M:=⟨_,rfl⟩
     have HM:Aa (P.n/256^(j+1)=M/256):=⟨by rw[Nat.pow_succ,<- Nat.div_div_eq_div_mul,hM]⟩
     have HT8:Aa ((Rf P.n).take (j+1)=(Rf P.n).take j++[M%256]):=⟨by rw[kQ P.n hj8,hM]⟩
     have HMl:Aa (M<=P.n):=⟨by rw[<- hM];exact Nat.div_le_self _ _⟩
     rw[hM];obtain⟨R,hR⟩:∃R,M%256=R:=⟨_,rfl⟩
     have hmod:(M:Int).tmod 256=((R:Nat):Int):=by rw[Int.tmod_eq_emod_of_nonneg (by omega),<- hR];simp
     have hdiv:(M:Int).tdiv 256=((M/256:Nat):Int):=by rw[Int.tdiv_eq_ediv_of_nonneg (by omega)];simp
     have hR2:R<256:=by rw[<- hR];exact Nat.mod_lt _ (by decide)
     have hcv:IntKind.u8.wrap ((R:Nat):Int)=R:=IntWalk.u8_in _ (by omega);rw[hR]at HT8
     have hj8':(j:Int)<8:=by omega
     have HWr:Aa (wrap64 ((M:Int)/256)=((M/256:Nat):Int)):=⟨by
      have e:((M:Int)/256)=((M/256:Nat):Int):=by simp
      have h1:=HMl.out;have h2:=HXl.out;rw[e];exact IntWalk.wrap64_in ((M/256:Nat):Int) (by omega)⟩
     have hrow:=Ju wr [R] (by simp);have hb1:Below wr.heap.size wr (wr.alloc (.cells #[.int .u8 (R:Nat)] 5)):=Bt;have hrow':Bf (wr.alloc (.cells #[.int .u8 (R:Nat)] 5)) .u8 (some ⟨wr.heap.size,0,none⟩) 1 1 [R]:=hrow;obtain⟨wd,hwd⟩:∃wd,wr.alloc (.cells #[.int .u8 (R:Nat)] 5)=wd:=⟨_,rfl⟩
     rw[hwd]at hb1 hrow'
     have HOd:=Ac (HOj.out.belowS hb1);have HKd:=Ac (HKj.out.below hb1);have HRd:=Ac hrow';have HBd:=Ac (Ae HBj.out hb1);have HSz:=Ac HBd.out.size;have HLn:Aa ((XS++(Rf P.n).take j).length+1<=140737488355328):=⟨by
      rw[List.length_append,List.length_take,Ee];have:=HXl.out;omega⟩
     clear hM hR hrow hrow' hb1
     go_wp2_with (at_builtin;refine De rfl _ _ rfl rfl HOd.out rfl HRd.out (fun h=>by cases h) HLn.out HSz.out ?_;intro v1 w3 ho1 hg1;refine Ff.out ?_)
     refine⟨?_⟩;rw[List.append_assoc,<- HT8.out]at ho1
     have HO1:=Ac ho1;have HB3:=Ac (HBd.out.trans (grown_below hg1 HSz.out HOd.out.ge));have HK3:Aa (Ar w3 P):=⟨(HP.out.ok k P HPk.out).below HB3.out⟩
     clear ho1 hg1;go_wp2;go_roundw
     case rel=>exact⟨j+1,_,by omega,by go_num,by rw[HM.out,HWr.out],rfl,HB3,HK3,HO1⟩
     case measure=>simp[intOf];omega
    .obtain rfl:j=8:=by omega
     have htk:(Rf P.n).take 8=Rf P.n:=List.take_of_length_le (by rw[Ee];exact Nat.le_refl _);rw[htk]at HOj
     have hj8':¬(8:Int)<8:=by omega
     have HSz:=Ac HBj.out.size;have HLn:Aa ((XS++Rf P.n).length+P.n<=140737488355328):=⟨by
      rw[List.length_append,Ee];have:=HXl.out;omega⟩
     clear htk
     go_wp2_with (at_builtin;refine De rfl _ _ rfl rfl HOj.out rfl HKj.out.row HZP.out HLn.out HSz.out ?_;intro v1 w3 ho1 hg1;refine Ff.out ?_)
     refine⟨?_⟩;rw[List.append_assoc,HPn.out,<- HTk.out]at ho1
     have HO1:=Ac ho1;have HB3:=Ac (HBj.out.trans (grown_below hg1 HSz.out HOj.out.ge));clear ho1 hg1;go_wp2;go_roundw
     case rel=>exact⟨k+1,_,by omega,by go_num,rfl,HB3,HO1⟩
     case measure=>simp[intOf];omega
  .obtain rfl:k=n:=by omega
   have hkn':¬(k:Int)<k:=by omega
   obtain⟨XS,hXS⟩:∃XS,XX=XS:=⟨_,rfl⟩
   have HOf:Aa (Own wr wa.heap.size v XS):=⟨by
    have h:=HO.out;rw[List.take_of_length_le (by have:=hpl.out;omega),HXX.out,hXS]at h
    exact h⟩
   have HXn0:Aa (XS.length<=1000000):=⟨by rw[<- hXS];exact HMx.out⟩
   have H8:Aa (Aw XS):=⟨by
    rw[<- hXS,<- HXX.out];exact We fun P hP=>by
     obtain⟨i,hi⟩:=List.getElem?_of_mem hP;exact(HP.out.ok i P hi).bytes⟩
   subst hXS;obtain⟨nx,hnx⟩:∃nx,XX.length=nx:=⟨_,rfl⟩
   obtain⟨p5,c5,rfl,hr5,_,hz5,_⟩:=HOf.out.elim;rw[hnx]at hr5 HXn0
   rw[hnx];have HX:=Ac hr5;have HZ5:=Ac hz5;have HXn:Aa (nx<=1000000):=HXn0;have HBX:=Ac (HBX0.out.below HB.out HBX0.out.lt);have HQ:=Ac (HQ0.out.below HB.out);have HBT:=Ac (Ae HWA.out HB.out);have HS256:Aa (Al (be (Km XX))<=800000):=⟨by have:=Xq (Hh XX);rw[Cy]at this;omega⟩
   clear hr5 hz5 hnx;go_wp2;refine Ai (by kernel_rfl) (by kernel_rfl)
    [some (.slice p5 nx c5),none,none,some (.pointer (some ⟨w.heap.size,1,none⟩)),some (.slice pQ nQ cQ),none,none]
    [false,true,true,false,false,true,true] rfl
    (fun w1 w2=>Below w1.heap.size w1 w2)
    (fun _ w'=>Below wr.heap.size wr w')
    (fun i v w'=>match i with
     | 1=>Cs 0 (Km XX) v w'
     | 2=>Ak (be (Km XX)) v w'
     | 5=>Ak (be (Km XX)%Q) v w'
     | 6=>Ak (be (Km XX)%Q) v w'
     | _=>True)
    ?_ (Below.refl _ _).drew ?_ ?_
   .intro i v w1 w2 hf hb;split at hf
    .exact hf.below hb
    .exact hf.below hb
    .exact hf.below hb
    .exact hf.below hb
    .trivial
   .simp only[Ba,Nat.reduceAdd];refine⟨?_,?_,?_,?_,?_,?_,?_,trivial⟩
    all_goals intro D sp w' hD hW hdp hbx'
    case refine_2 =>
     (with_reducible refine Ab (w1:=w') (f := 160) (args:=#[.slice p5 nx c5]) ?_ ?_ ?_)
     .simp[Region.wanted,yielded,Act.put,go_sem]
     .simp[Act.eval,Act.put,go_sem]
     .refine(Wg w' p5 nx c5 XX (HX.out.below hbx') H8.out HZ5.out HXn.out).mono ?_;rintro en w9 ⟨u,rfl,hu,hb⟩;have hu:=hu.zero;exact⟨u,rfl,hb,hu,Ae hbx' hb⟩
    case refine_3 =>
     have k1:Cs 0 (Km XX) (sp 1) w':=(hdp 1 (mq (by kernel_rfl))).2
     (with_reducible refine k1.elim (fun p1 c1 hv1 hr1 _ _=>?_))
     rw[Cy]at hr1 hv1
     (with_reducible refine Ab (w1:=w') (f := 97) (args:=#[.slice p1 32 c1]) ?_ ?_ ?_)
     .simp only[Region.wanted]
     .simp[Act.eval,Act.put,go_sem,hv1]
     .refine(Nx w' p1 32 c1 (Km XX) hr1 (Hh _) (by omega)).mono ?_;rintro en w9 ⟨q,m,d,rfl,hu,hb,_⟩;exact⟨_,rfl,hb,Ak.of hu,Ae hbx' hb⟩
    case refine_5 =>
     have c0:=(HBX.out.below hbx' HBX.out.lt).cells.2.1
     with_reducible refine Ad ?_ ?_
     all_goals simp[Region.wanted,yielded,execOp,Act.eval,Act.put,go_sem,c0]
    case refine_6 =>
     have k2:Ak (be (Km XX)) (sp 2) w':=(hdp 2 (mq (by kernel_rfl))).2
     (with_reducible refine Ab (w1:=w') (f := 79) (args:=#[sp 2,.slice pQ nQ cQ]) ?_ ?_ ?_)
     .simp[Region.wanted,yielded,Act.put,go_sem]
     .simp[Act.eval,Act.put,go_sem]
     .refine(Gg k2 (Ak.of (HQ.out.below hbx')) (by have:=HS256.out;omega) lQ hQ0).mono ?_;rintro en w9 ⟨u,rfl,hu,hb⟩;exact⟨u,rfl,hb,hu,Ae hbx' hb⟩
    case refine_7 =>
     have k5:Ak (be (Km XX)%Q) (sp 5) w':=(hdp 5 (mq (by kernel_rfl))).2
     (with_reducible refine Ag (w1:=w') (v:=sp 5) ?_ ?_ ?_)
     .simp[Region.wanted,yielded,Act.put,go_sem]
     .simp[execOp,Act.eval,Act.put,go_sem]
     .exact⟨Below.refl _ _,k5,hbx'⟩
    all_goals ((with_reducible refine Ad ?_ ?_);all_goals first|(simp only[Region.wanted];done)|simp[Region.wanted,yielded,execOp,Act.eval,Act.put,go_sem])
   .intro sp w7 hsp hbx';have k6:Ak (be (Km XX)%Q) (sp 6) w7:=hsp 6 rfl;have HK:=Ac k6;have HBe:=Ac (Ae HBT.out hbx');clear hsp hbx' k6;simp only[An,Nat.reduceAdd];generalize sp 1=y1,sp 2=y2,sp 5=y5,sp 6=y6 at *
    go_simp
    go_wp2;go_ret;exact⟨_,rfl,HK.out,HBe.out⟩
theorem mQ (N:Nat):be (Au N (Am N))=N:=by
 unfold be Au;rw[List.reverse_reverse,Re,Nat.mod_eq_of_lt (Gp N)]
theorem Ec {w:World}{v:Value}{e N:Nat}(h:Fit e N v w)(he:e<=200) :
  Calls Tryz.prog 45 #[v] w fun en w'=>∃x,en=.returned x/\Ak N x w'/\Below w.heap.size w w':=by
 obtain⟨p,n,c,rfl,h1,h2⟩:=h;have hbx:=Dh.mk1 w (.slice p n c) 36;have HF:=Ac ((Fit.of h1 h2).below hbx.bel);have HB:=Ac hbx.bel;have hl:Aa (Am N<=1000):=⟨by
  have:Al N<=32*e:=(Bd N _).2 (by
   have:Aq e=2^(32*e):=by unfold Aq;rw[Nat.pow_mul]
   rw[<- this];exact h2)
  unfold Am;omega⟩
 clear h1 h2 hbx;go_enter Tryz.func45,Tryz.ntmps45
 go_wp2_with fail
 refine(gS HF.out (by omega)).mono ?_;rintro en w1 ⟨_,rfl,⟨q,m,d,rfl,hr⟩,b1⟩;have HR:Aa (Bf w1 .u8 q m d (Au N (Am N))):=⟨⟨hr.len,hr.cap,hr.max,fun _=>hr⟩⟩
 have HM:Aa (m<=1000):=⟨by rw[hr.len,Br];exact hl.out⟩
 have HB1:=Ac (Ae HB.out b1);clear hr b1
 go_wp2_with fail
 refine(Nx w1 q m d _ HR.out (Fb N _).reverse HM.out).mono ?_;rintro en w2 ⟨x,y,z,rfl,hb,b2,_⟩;rw[mQ]at hb
 have HN:=Ac hb;have HB2:=Ac (Ae HB1.out b2);clear hb b2;go_wp2;go_ret;exact⟨_,rfl,Ak.of HN.out,HB2.out⟩
theorem gV {t:TypeId}{w:World}{b:Nat}{x0 x1 x2 x3:Option Addr×Nat×Nat}(h:Ce t w b (.slice x0.1 x0.2.1 x0.2.2) (.slice x1.1 x1.2.1 x1.2.2) (.slice x2.1 x2.2.1 x2.2.2) (.slice x3.1 x3.2.1 x3.2.2))(u0 u1 u2 u3:Value) :
  Gy w ((((w.setCell ⟨b,0,none⟩ u0).setCell ⟨b,1,none⟩ u1).setCell ⟨b,2,none⟩ u2).setCell ⟨b,3,none⟩ u3):=by
 have h0:=h.at_
 have k0:=Gy.set h.cells.1 u0;have k1:Gy (w.setCell ⟨b,0,none⟩ u0) ((w.setCell ⟨b,0,none⟩ u0).setCell ⟨b,1,none⟩ u1):=Gy.set (p:=x1.1) (n:=x1.2.1) (c:=x1.2.2) (by simp[World.cell?,World.setCell,Array.getElem?_modify,h0]) u1;have k2:Gy ((w.setCell ⟨b,0,none⟩ u0).setCell ⟨b,1,none⟩ u1) (((w.setCell ⟨b,0,none⟩ u0).setCell ⟨b,1,none⟩ u1).setCell ⟨b,2,none⟩ u2):=Gy.set (p:=x2.1) (n:=x2.2.1) (c:=x2.2.2) (by simp[World.cell?,World.setCell,Array.getElem?_modify,h0]) u2;have k3:Gy (((w.setCell ⟨b,0,none⟩ u0).setCell ⟨b,1,none⟩ u1).setCell ⟨b,2,none⟩ u2) ((((w.setCell ⟨b,0,none⟩ u0).setCell ⟨b,1,none⟩ u1).setCell ⟨b,2,none⟩ u2).setCell ⟨b,3,none⟩ u3):=Gy.set (p:=x3.1) (n:=x3.2.1) (c:=x3.2.2) (by simp[World.cell?,World.setCell,Array.getElem?_modify,h0]) u3;exact((k0.trans k1).trans k2).trans k3
structure Cq (P Q G H:Nat) (v:Value) (w:World):Prop where
 ex:∃p0 n0 c0 p1 n1 c1 p2 n2 c2 p3 n3 c3,v=.agg #[.slice p0 n0 c0,.slice p1 n1 c1,.slice p2 n2 c2,.slice p3 n3 c3]/\Bb w p0 n0 c0 P/\Bb w p1 n1 c1 Q/\Bb w p2 n2 c2 G/\Bb w p3 n3 c3 H
theorem Cq.below {P Q G H:Nat}{v:Value}{w w':World}(h:Cq P Q G H v w)(hb:Below w.heap.size w w'):Cq P Q G H v w':=by
 obtain⟨p0,n0,c0,p1,n1,c1,p2,n2,c2,p3,n3,c3,h0,h1,h2,h3,h4⟩:=h.ex;exact⟨p0,n0,c0,p1,n1,c1,p2,n2,c2,p3,n3,c3,h0,h1.below hb,h2.below hb,h3.below hb,h4.below hb⟩
structure nJ (Q:Nat) (v:Value) (w:World):Prop where
 ex:∃r,v=.pointer (some ⟨r,0,none⟩)/\Ring w r Q 33
section
variable {At:World->Nat->Nat->Nat->Nat->Nat->Prop} {ready:World->Prop}
end
theorem Ua (w:World)(pk:Option Addr)(nk ck:Nat)(salt:List Nat)(ps:Option Addr)(ns cs:Nat)(secret:List Nat)(hT:Tabs w)(hK:Ar w ⟨pk,nk,ck,salt⟩)(hS:Ar w ⟨ps,ns,cs,secret⟩) :
  Calls Tryz.prog 224 #[.slice pk nk ck,.slice ps ns cs] w (Lq (bH salt secret) w):=by
 have hb:Below w.heap.size w (w.alloc (.cells #[.slice ps ns cs] 60)):=Bt;have hz:=hb.size;have HC:=Ac (Wr (w.alloc (.cells #[.slice ps ns cs] 60)) pk nk ck salt _ _ _ [⟨ps,ns,cs,secret⟩] (hT.below hb hT.size) (hK.below hb).row hK.bytes (kA w ⟨ps,ns,cs,secret⟩ hS));have HB:=Ac hb;clear hT hK hS hb;go_enter Tryz.func224,Tryz.ntmps224
 go_wp2_with fail
 refine HC.out.mono ?_;rintro e w1 ⟨q,rfl,hq,hb1,hk⟩;rw[Uk]at hk
 go_wp2;go_ret;exact⟨q,rfl,by omega,Dn HB.out hb1,hk⟩
theorem Xh (w:World)(pk:Option Addr)(nk ck:Nat)(salt:List Nat)(ps:Option Addr)(ns cs:Nat)(secret:List Nat)(pi:Option Addr)(ni ci:Nat)(info:List Nat)(n:Nat)(hT:Tabs w)(hK:Ar w ⟨pk,nk,ck,salt⟩)(hS:Ar w ⟨ps,ns,cs,secret⟩)(hI:Ar w ⟨pi,ni,ci,info⟩)(hn:n<=8160) :
  Calls Tryz.prog 205 #[.slice pk nk ck,.slice ps ns cs,.slice pi ni ci,.int .i64 n] w (aZ n ((Gm (Lb salt secret) info ((n+31)/32)).take n) w):=by
 have HC:=Ac (Ua w pk nk ck salt ps ns cs secret hT hK hS);have HI:Aa (Ar w ⟨pi,ni,ci,info⟩):=⟨hI⟩
 have HT:Aa (Tabs w):=⟨hT⟩
 clear hT hK hS hI;go_enter Tryz.func205,Tryz.ntmps205
 go_wp2_with fail
 refine HC.out.mono ?_;rintro e w1 ⟨q,rfl,hq,hb1,hk⟩;have hr:Bf w1 .u8 (some ⟨q,0,none⟩) 32 32 (Lb salt secret):=⟨(La _ _).symm,Nat.le_refl _,by omega,fun _=>hk.row (La _ _).symm (Nat.le_refl _) (by omega)⟩
 go_wp2_with fail
 refine(Oh w1 _ _ _ (Lb salt secret) pi ni ci info n (HT.out.below hb1 HT.out.size) hr (Sq _ _) (HI.out.below hb1) hn).mono ?_;rintro e w2 ⟨p,rfl,hr2,hn2,hb2,hz2⟩;have hz:=hb1.size;have HE:=Ac hr2;have HN:Aa (Fg w.heap.size p/\(p=none->n=0)):=⟨hn2.mono hz,hz2⟩
 clear hr2 hn2 hz2 hr hk;go_wp2;exact bodyPost_ret (v:=.tuple #[.slice p n n,.int .i64 0]) (by simp[results,Tryz.results205,go_sem]) rfl ⟨p,rfl,HE.out,HN.out.1,Dn hb1 hb2,HN.out.2⟩
theorem Rq {N:Nat}{l:List Bq}(h:Told N l):Dc N:=by
 rcases h with h|⟨h,s,hs,rfl⟩
 .exact h.prime
 .exact Qn l [] (fun x hx=>by cases hx) h s hs
def Fs (seed:List Nat)(P c:Nat):Nat:=be ((Gm (Lb [] seed) [104,c] ((Am P+8+31)/32)).take (Am P+8))
def Fd (f:Nat->Nat):Nat->Nat->Option Nat
 | 0,_=>none
 | k+1,c=>if 1<f c then some (f c) else Fd f k (c+1)
def Tj (P Q G:Nat):Prop:=(P-1)%Q=0/\64<Q/\1<G/\G<P/\G^Q%P=1
open Classical in
noncomputable def newSpec (P Q G:Nat) (seed:List Nat) (l:List Bq):Nat×Nat :=
 if Told P l/\Told Q l then
  if Tj P Q G then
   match Fd (fun c=>Fs seed P c^((P-1)/Q)%P) 256 0 with
   | some h=>(0,h)
   | none=>(6,0)
  else (1,0)
 else (8,0)
theorem Zy {w:World}{v:Value}{P Q G H:Nat}(h:Cq P Q G H v w)(hl:Al P<=100000) :
  Calls Tryz.prog 161 #[v] w fun e w'=>e=.returned (.int .i64 (Am P:Nat))/\Below w.heap.size w w':=by
 obtain⟨p0,n0,c0,p1,n1,c1,p2,n2,c2,p3,n3,c3,rfl,h0,_⟩:=h.ex;have hn:=Cb h0;have hbx:Below w.heap.size w (w.alloc (.cells #[.slice p0 n0 c0,.slice p1 n1 c1,.slice p2 n2 c2,.slice p3 n3 c3] 30)):=Bt;have HBX:=Ac (Ce.made 30 w (.slice p0 n0 c0) (.slice p1 n1 c1) (.slice p2 n2 c2) (.slice p3 n3 c3));obtain⟨wa,hwa⟩:∃wa,w.alloc (.cells #[.slice p0 n0 c0,.slice p1 n1 c1,.slice p2 n2 c2,.slice p3 n3 c3] 30)=wa:=⟨_,rfl⟩
 rw[hwa]at hbx HBX
 have HB:=Ac hbx;have HS:Aa (Am P=(n0+7)/8):=⟨by unfold Am;rw[hn]⟩
 have hn0:n0<=100000:=by omega
 have hdiv:((n0:Int)+7).tdiv 8=(((n0+7)/8:Nat):Int):=by rw[Int.tdiv_eq_ediv_of_nonneg (by omega)];omega
 have c0':=HBX.out.cells.1;clear h h0 hn hbx hl;go_enter Tryz.func161,Tryz.ntmps161;go_wp2;go_ret;exact⟨by rw[HS.out];simp,HB.out⟩
open Classical in
theorem Cw {w:World}{v:Value}{P Q G H A:Nat}{p:Option Addr}{n c:Nat}(h:Cq P Q G H v w)(hA:Bb w p n c A)(lP:Al P<=100000)(lQ:Al Q<=100000)(lA:Al A<=100000)(hP:0<P) :
  Calls Tryz.prog 105 #[v,.slice p n c] w fun e w'=>e=.returned (.bool (decide (0<A/\A<P/\A^Q%P=1)))/\Below w.heap.size w w':=by
 obtain⟨p0,n0,c0,p1,n1,c1,p2,n2,c2,p3,n3,c3,rfl,h0,h1,_,_⟩:=h.ex;have hn:=Cb hA;have hbx:Below w.heap.size w (w.alloc (.cells #[.slice p0 n0 c0,.slice p1 n1 c1,.slice p2 n2 c2,.slice p3 n3 c3] 30)):=Bt;have HBX:=Ac (Ce.made 30 w (.slice p0 n0 c0) (.slice p1 n1 c1) (.slice p2 n2 c2) (.slice p3 n3 c3));obtain⟨wa,hwa⟩:∃wa,w.alloc (.cells #[.slice p0 n0 c0,.slice p1 n1 c1,.slice p2 n2 c2,.slice p3 n3 c3] 30)=wa:=⟨_,rfl⟩
 rw[hwa]at hbx HBX
 have HB:=Ac hbx;have HA:=Ac (hA.below hbx);have HP:=Ac (h0.below hbx);have HQ:=Ac (h1.below hbx);have hcap:=hA.cap;have hcm:=hA.max;obtain⟨ANS,hANS⟩:∃X,decide (0<A/\A<P/\A^Q%P=1)=X:=⟨_,rfl⟩
 have HANS:=Ac hANS;rw[hANS];have c0':=HBX.out.cells.1;have HNA:=Ac hn;clear h h0 h1 hA hn hbx hANS
 by_cases hA0:A=0
 .have hn0:n=0:=by rw[HNA.out,hA0];rfl
  have HF:Aa (ANS=false):=⟨by rw[<- HANS.out];exact decide_eq_false fun h=>by omega⟩
  subst hn0;clear hA0;go_enter Tryz.func105,Tryz.ntmps105;go_wp2;go_ret;exact⟨by rw[HF.out];rfl,HB.out⟩
 have hn0:(0:Int)<n:=by
  have:=Gq (show 0<A by omega);have:=HNA.out;omega
 obtain⟨K,hK⟩:∃K,Bi A P=K:=⟨_,rfl⟩
 have HK:=Ac hK;have HA0:Aa (0<A):=⟨by omega⟩
 clear hK hA0;go_enter Tryz.func105,Tryz.ntmps105
 go_wp2_with fail
 refine(Hr (Ak.of HA.out) (Ak.of HP.out) (by omega) (by omega)).mono ?_;rintro en w1 ⟨_,rfl,rfl,hb1⟩;rw[HK.out];have HB1:=Ac hb1;have HX1:=Ac (HBX.out.below hb1 HBX.out.lt);clear hb1 c0'
 by_cases hlt:A<P
 .have hK0:K<0:=by rw[<- HK.out,Cu hlt];decide
  have HLt:=Ac hlt;have c1':=HX1.out.cells.2.1;have c0':=HX1.out.cells.1;clear hlt
  go_wp2_with fail
  refine(aH (Ak.of (HA.out.below HB1.out)) (Ak.of (HQ.out.below HB1.out)) (Ak.of (HP.out.below HB1.out)) lA lQ lP hP).mono ?_;rintro en w2 ⟨_,rfl,⟨px,nx,cx,rfl,hx⟩,hb2⟩;have HB2:=Ac (Ae HB1.out hb2);have HX:=Ac hx;clear hb2 hx c0' c1'
  go_wp2_with fail
  refine(Kp 1 w2 (by decide)).mono ?_;rintro en w3 ⟨p3,n3,c3,rfl,hn3,hb3,_⟩;have HB3:=Ac (Ae HB2.out hb3);have HX3:=Ac (HX.out.below hb3);have HN3:=Ac hn3;obtain⟨Y,hY⟩:∃Y,A^Q%P=Y:=⟨_,rfl⟩
  rw[hY]at HX3
  have HYl:Aa (Al Y<=100000):=⟨by rw[<- hY];exact Nat.le_trans (Do (Nat.le_of_lt (Nat.mod_lt _ hP))) lP⟩
  have HF:Aa (ANS=decide (Y=1)):=⟨by
   rw[<- HANS.out,<- hY];exact decide_eq_decide.2 ⟨fun h=>h.2.2,fun h=>⟨HA0.out,HLt.out,h⟩⟩⟩
  clear hb3 hn3 hY
  go_wp2_with fail
  refine(Hr (Ak.of HX3.out) (Ak.of HN3.out) (by have:=HYl.out;omega) (by have:Al 1<=1:=(Bd 1 1).2 (by decide);omega)).mono ?_;rintro en w4 ⟨_,rfl,rfl,hb4⟩;have HB4:=Ac (Ae HB3.out hb4);have e0:((Bi Y 1:Int)==0)=decide (Y=1):=by
   by_cases hnm:Y=1
   .simp[hnm,Cd.2]
   .have:Bi Y 1≠0:=fun h0=>hnm (Cd.1 h0)
    simp[hnm,this]
  have HE:=Ac e0;generalize Bi Y 1=K2 at *;have HBe:=Ac (Ae HB.out HB4.out);clear e0 hb4;go_wp2;go_ret;exact⟨by rw[HF.out,<- HE.out];rfl,HBe.out⟩
 .have hK0:¬K<0:=by
   rw[<- HK.out];rcases Nat.lt_or_ge P A with h|h
   .have:=Hv.2 h;omega
   .rw[Nat.le_antisymm h (by omega),Hl];decide
  have HF:Aa (ANS=false):=⟨by rw[<- HANS.out];exact decide_eq_false fun h=>hlt h.2.1⟩
  have HBe:=Ac (Ae HB.out HB1.out);clear hlt;go_wp2;go_ret;exact⟨by rw[HF.out];rfl,HBe.out⟩
theorem Vq (xs ys:List Nat):be (xs++ys)=be xs*B8 ys.length+be ys:=by
 unfold be;rw[List.reverse_append,Vc,List.length_reverse,Nat.mul_comm (B8 _),Nat.add_comm]
theorem Zv:∀(bs:List Nat) (a:Nat),bs.foldl (fun n x=>n*256+x) a=a*B8 bs.length+be bs
 | [],a=>by simp[be,le,Im]
 | x::xs,a=>by
  rw[List.foldl_cons,Zv xs,show x::xs=[x]++xs from rfl,Vq,List.length_append,List.length_singleton,Nat.add_comm 1,Gj];have h1:be [x]=x:=by simp[be,le]
  rw[h1,Nat.add_mul,Nat.mul_assoc,Nat.add_assoc]
theorem Wk (bs:List Nat):cD bs=be bs:=by
 unfold cD;rw[Zv];simp
def Ca:List (Nat×Nat)->Nat
 | []=>1
 | (b,e)::l=>b^e*Ca l
theorem Ux (P:Nat):∀(l:List (Nat×Nat)) (x:Nat),Ku P x l%P=x*Ca l%P
 | [],x=>by simp[Ku,Ca]
 | (b,e)::l,x=>by
  rw[Ku,Ux P l,Ca,Nat.mod_mul_mod,Nat.mul_assoc x (b^e%P),<- Nat.mul_mod_mod x (b^e%P*Ca l),Nat.mod_mul_mod,Nat.mul_mod_mod]
theorem fZ {P:Nat}(hP:2<=P)(l:List (Nat×Nat)):Ku P 1 l=Ca l%P:=by
 have:=Ux P l 1;rw[Nat.mod_eq_of_lt (Sh hP l 1 (by omega)),Nat.one_mul]at this
 exact this
theorem Ms:∀(l:List (Nat×Nat)) (b e:Nat),Ca (l++[(b,e)])=Ca l*b^e
 | [],b,e=>by simp[Ca]
 | (c,d)::l,b,e=>by rw[List.cons_append,Ca,Ms l,Ca,Nat.mul_assoc]
def Mi (i:Nat)(l:List (Nat×Nat)):List (Nat×Nat):=l.map fun p=>(p.1,p.2/2^i)
def Ng (i:Nat)(l:List (Nat×Nat)):List (Nat×Nat):=l.map fun p=>(p.1,p.2/2^i%2)
theorem iF (l:List (Nat×Nat)):Mi 0 l=l:=by simp[Mi]
theorem Yy (i:Nat):∀l:List (Nat×Nat),Ca (Mi i l)=Ca (Mi (i+1) l)*Ca (Mi (i+1) l)*Ca (Ng i l)
 | []=>rfl
 | (b,e)::l=>by
  have h1:e/2^i=e/2^(i+1)+e/2^(i+1)+e/2^i%2:=by
   rw[Nat.pow_succ,<- Nat.div_div_eq_div_mul];omega
  have h2:b^(e/2^i)=b^(e/2^(i+1))*b^(e/2^(i+1))*b^(e/2^i%2):=by
   rw[<- Nat.pow_add,<- Nat.pow_add,<- h1]
  show b^(e/2^i)*Ca (Mi i l)=(b^(e/2^(i+1))*Ca (Mi (i+1) l))*(b^(e/2^(i+1))*Ca (Mi (i+1) l))*(b^(e/2^i%2)*Ca (Ng i l));rw[h2,Yy i l]
  ac_rfl
theorem Yx (i:Nat):∀l:List (Nat×Nat),(∀p∈l,p.2<2^i)->Ca (Mi i l)=1
 | [],_=>rfl
 | (b,e)::l,h=>by
  show b^(e/2^i)*Ca (Mi i l)=1;rw[Yx i l fun p hp=>h p (List.mem_cons_of_mem _ hp),Nat.div_eq_of_lt (h (b,e) List.mem_cons_self)];simp
theorem iQ {i:Nat}{l:List (Nat×Nat)}{k b e:Nat}(h:l[k]? = some (b,e)):Ng i (l.take (k+1))=Ng i (l.take k)++[(b,e/2^i%2)]:=by
 unfold Ng;rw[Fj h,List.map_append];rfl
def Gx:List Nat->Nat
 | []=>0
 | x::l=>max (Al x) (Gx l)
theorem Si:∀(l:List Nat) (x:Nat),Gx (l++[x])=max (Gx l) (Al x)
 | [],x=>by simp[Gx]
 | y::l,x=>by rw[List.cons_append,Gx,Si l,Gx];omega
theorem Zc:∀(l:List Nat) (x:Nat),x∈l->x<2^Gx l
 | y::l,x,h=>by
  rcases List.mem_cons.1 h with rfl|h
  .exact Nat.lt_of_lt_of_le (Dl x) (Nat.pow_le_pow_right (by omega) (Nat.le_max_left _ _))
  .exact Nat.lt_of_lt_of_le (Zc l x h) (Nat.pow_le_pow_right (by omega) (Nat.le_max_right _ _))
theorem Zd {m:Nat}:∀(l:List Nat),(∀x∈l,Al x<=m)->Gx l<=m
 | [],_=>Nat.zero_le _
 | y::l,h=>Nat.max_le.2 ⟨h y List.mem_cons_self,Zd l fun x hx=>h x (List.mem_cons_of_mem _ hx)⟩
theorem pB {P X Y s:Nat}:((X*(256^s%P))%P+Y)%P=(X*256^s+Y)%P:=by
 rw[Nat.mul_mod_mod,Nat.mod_add_mod]
theorem kU (seed:List Nat)(P c:Nat):∃bs:List Nat,(Gm (Lb [] seed) [104,c] ((8+Am P+31)/32)).take (8+Am P)=bs/\bs.length=8+Am P/\Aw bs/\be (bs.take 8)*256^Am P+be (bs.drop 8)=Fs seed P c:=by
 have hl:((Gm (Lb [] seed) [104,c] ((8+Am P+31)/32)).take (8+Am P)).length=8+Am P:=by
  rw[List.length_take,Ij];omega
 refine⟨_,rfl,hl,(Mz _ _ _).take _,?_⟩;obtain⟨bs,hb⟩:∃x,(Gm (Lb [] seed) [104,c] ((8+Am P+31)/32)).take (8+Am P)=x:=⟨_,rfl⟩
 have hh:Fs seed P c=be bs:=by rw[<- hb];unfold Fs;rw[Nat.add_comm (Am P) 8]
 rw[hb]at hl ⊢
 have h2:=Vq (bs.take 8) (bs.drop 8);rw[List.take_append_drop,List.length_drop,hl,show 8+Am P-8=Am P by omega]at h2
 rw[hh,h2];rfl
theorem oF (A t P:Nat):(A%P)^t%P=A^t%P:=(Nat.pow_mod A t P).symm
theorem dB {f:Nat->Nat}{k c:Nat}(h:1<f c):Fd f (k+1) c=some (f c):=by rw[Fd,if_pos h]
theorem Oe:∀i,i<3->Am (gP i)=rH i
 | 0,_=>by kernel_rfl
 | 1,_=>by kernel_rfl
 | 2,_=>by kernel_rfl
 | _+3,h=>by omega
theorem Su (key info:List Nat):Gm key info 1=Lb key (info++[1]):=by
 simp[Gm,Tq]
theorem kT:∀i,i<3->Fs [] (gP i) 0=cD (Ss i)
 | 0,h=>by
  rw[Wk];unfold Fs;rw[Oe 0 h,Wv];show be ((Gm _ _ 1).take 10)=_;rw[Su];show be ((Lb _ [104,0,1]).take 10)=_;rw[bF];rfl
 | 1,h=>by
  rw[Wk];unfold Fs;rw[Oe 1 h,Wv];show be ((Gm _ _ 1).take 11)=_;rw[Su];show be ((Lb _ [104,0,1]).take 11)=_;rw[bF];rfl
 | 2,h=>by
  rw[Wk];unfold Fs;rw[Oe 2 h,Wv];show be ((Gm _ _ 1).take 17)=_;rw[Su];show be ((Lb _ [104,0,1]).take 17)=_;rw[bF];rfl
 | _+3,h=>by omega
theorem cV:∀i,i<3->(gP i-1)/gQ i=My i
 | 0,_=>by decide
 | 1,_=>by decide
 | 2,_=>by decide
 | _+3,h=>by omega
theorem qM (i:Nat)(hi:i<3):Tj (gP i) (gQ i) (gG i):=by
 obtain⟨h1,h2,h3,_⟩:=Od i hi;exact⟨by rw[Vh i hi];exact Nat.mul_mod_right _ _,h1,h2,h3,Vi i hi⟩
theorem fW (i:Nat)(hi:i<3):newSpec (gP i) (gQ i) (gG i) [] (Ep i)=(0,gH i):=by
 have h1:Fs [] (gP i) 0^((gP i-1)/gQ i)%gP i=gH i:=by rw[kT i hi,cV i hi,rI i hi]
 have h2:=(Od i hi).2.2.2.1;unfold newSpec;rw[if_pos ⟨oT i hi,oS i hi⟩,if_pos (qM i hi)];have h3:Fd (fun c=>Fs [] (gP i) c^((gP i-1)/gQ i)%gP i) 256 0=some (gH i):=by
  rw[dB (by show 1<_;rw[h1];exact h2)];show some (Fs [] (gP i) 0^((gP i-1)/gQ i)%gP i)=_;rw[h1]
 rw[h3]
theorem dA:∀i,i<3->∀s∈Ep i,s.ps.length<=1000
 | 0,_=>by intro s hs;cases hs
 | 1,_=>by intro s hs;rcases List.mem_singleton.1 hs with rfl;simp
 | 2,_=>by
  intro s hs;rcases List.mem_cons.1 hs with rfl|hs
  .simp
  .rcases List.mem_singleton.1 hs with rfl;simp
 | _+3,h=>by omega
theorem oU (w:World):Fit 0 0 (.agg #[.slice none 0 0]) w:=Fit.of (Ah.nil w) (by decide)
theorem Qb (w:World) :
  Calls Tryz.prog 56 #[.pointer none] w fun en w'=>en=.returned (.agg #[.slice none 0 0])/\Below w.heap.size w w':=by
 have hb1:=Af.made w (.slice none 0 0);have c1:=hb1.cell;have f1:=hb1.free;have hbel:Below w.heap.size w (w.alloc (.cells #[.slice none 0 0] 36)):=Bt;go_enter Tryz.func56,Tryz.ntmps56;go_wp2;exact bodyPost_ret (v:=.agg #[.slice none 0 0]) (by simp[results,Tryz.results56,go_sem,c1]) rfl ⟨rfl,hbel⟩
theorem Ap.trans {B:Nat}{w1 w2 w3:World}(h:Ap B w1 w2)(k:Ap B w2 w3):Ap B w1 w3:=⟨h.bel.trans k.bel,fun p n c N x=>k.nat p n c N (h.nat p n c N x)⟩
theorem Ap.drew (B:Nat)(w:World):Ap B w w.drew:=⟨(Below.refl _ _).drew,fun _ _ _ _ k=>k.below ((Below.refl _ _).drew)⟩
structure RG (B:Nat) (wx:World) (l:List (Nat×Obj)) (w:World):Prop where
 keep:Ap B wx w
 base:B<=w.heap.size
 blk:∀x∈l,w.heap[x.1]? = some x.2
theorem RG.start {B:Nat}{wx:World}{l:List (Nat×Obj)}(hB:B<=wx.heap.size)(hl:∀x∈l,wx.heap[x.1]? = some x.2):RG B wx l wx.drew:=⟨Ap.drew _ _,hB,hl⟩
theorem RG.later {B:Nat}{wx:World}{l:List (Nat×Obj)}{w w':World}(h:RG B wx l w)(hb:Below w.heap.size w w'):RG B wx l w' :=
 ⟨h.keep.trans (Ap.of hb h.base),Nat.le_trans h.base hb.size,fun x hx=>by rw[hb.block x.1 (Array.getElem?_eq_some_iff.1 (h.blk x hx)).1];exact h.blk x hx⟩
theorem RG.store {B:Nat}{wx:World}{l:List (Nat×Obj)}{w:World}{b m d:Nat}{q:Option Addr}(h:RG B wx l w)(hb:Af w b (.slice q m d))(hB:B<=b)(hn:∀x∈l,x.1≠b)(v:Value):RG B wx l (w.setCell ⟨b,0,none⟩ v) :=
 ⟨h.keep.trans (Ap.store hb hB v),by simpa using h.base,fun x hx=>by
  have:=hn x hx;simp[World.setCell,Array.getElem?_modify,this.symm];exact h.blk x hx⟩
theorem RG.of {B:Nat}{wx:World}{l:List (Nat×Obj)}{w:World}(h:RG B wx l w){b:Nat}{o:Obj}(hm:(b,o)∈l):w.heap[b]? = some o:=h.blk _ hm
def Pm (d:Bool)(b N:Nat)(w:World):Prop:=∃p n c,Af w b (.slice p n c)/\(d=true->Ah w p n c N)
theorem Pm.fresh {w:World}{b N:Nat}{p:Option Addr}{n c:Nat}(h:Af w b (.slice p n c)):Pm false b N w:=⟨p,n,c,h,fun e=>by cases e⟩
theorem Pm.later {d:Bool}{b N:Nat}{w w':World}(h:Pm d b N w)(hb:Below w.heap.size w w'):Pm d b N w' :=
 let ⟨p,n,c,h1,h2⟩:=h
 ⟨p,n,c,h1.below hb h1.lt,fun e=>(h2 e).below hb⟩
theorem Pm.other {d:Bool}{b N b' m k:Nat}{q:Option Addr}{w:World}(h:Pm d b N w)(hb:Af w b' (.slice q m k))(hne:b≠b')(v:Value):Pm d b N (w.setCell ⟨b',0,none⟩ v) :=
 let ⟨p,n,c,h1,h2⟩:=h
 ⟨p,n,c,h1.other hne v,fun e=>(h2 e).store hb v⟩
theorem Pm.put {d:Bool}{b N:Nat}{w:World}(h:Pm d b N w){p:Option Addr}{n c:Nat}(hx:Ah w p n c N):∃q m k,Af w b (.slice q m k)/\Pm true b N (w.setCell ⟨b,0,none⟩ (.slice p n c)) :=
 let ⟨q,m,k,h1,_⟩:=h
 ⟨q,m,k,h1,p,n,c,h1.set _,fun _=>hx.store h1 _⟩
def Qv (d f:Bool)(v:Value)(B N:Nat)(w:World):Prop:=B<=w.heap.size/\(d=true->∃b,v=.pointer (some ⟨b,0,none⟩)/\B<=b/\Pm f b N w)
theorem Qv.start {v:Value}{B N:Nat}{w:World}(h:B<=w.heap.size):Qv false false v B N w:=⟨h,fun e=>by cases e⟩
theorem Qv.later {d f:Bool}{v:Value}{B N:Nat}{w w':World}(h:Qv d f v B N w)(hb:Below w.heap.size w w'):Qv d f v B N w' :=
 ⟨Nat.le_trans h.1 hb.size,fun e=>let ⟨b,h1,h2,h3⟩:=h.2 e;⟨b,h1,h2,h3.later hb⟩⟩
theorem Qv.made {v:Value}{B N:Nat}{w:World}(h:Qv false false v B N w):Qv true false (.pointer (some ⟨w.heap.size,0,none⟩)) B N (w.alloc (.cells #[.slice none 0 0] 36)) :=
 ⟨by simp;have:=h.1;omega,fun _=>⟨_,rfl,h.1,Pm.fresh (Af.made _ _)⟩⟩
theorem Qv.put {f:Bool}{v:Value}{B N:Nat}{w:World}(h:Qv true f v B N w){p:Option Addr}{n c:Nat}(hx:Ah w p n c N) :
  ∃b q m k,v=.pointer (some ⟨b,0,none⟩)/\B<=b/\Af w b (.slice q m k)/\Qv true true v B N (w.setCell ⟨b,0,none⟩ (.slice p n c)) :=
 let ⟨b,h1,h2,h3⟩:=h.2 rfl
 let ⟨q,m,k,h4,h5⟩:=h3.put hx
 ⟨b,q,m,k,h1,h2,h4,by simpa using h.1,fun _=>⟨b,h1,h2,h5⟩⟩
theorem RG.store_over {B B2:Nat}{wx:World}{l:List (Nat×Obj)}{w:World}{b m d:Nat}{q:Option Addr}(h:RG B wx l w)(hb:Af w b (.slice q m d))(hB:B<=B2)(hB2:B2<=b)(hl:∀x∈l,x.1<B2)(v:Value):RG B wx l (w.setCell ⟨b,0,none⟩ v) :=
 h.store hb (Nat.le_trans hB hB2) (fun x hx=>by have:=hl x hx;omega) v
def Fe (e N:Nat)(t v:Value)(w:World):Prop:=∃p n c,v=.tuple #[.agg #[.slice p n c],t]/\Ah w p n c N/\N<Aq e
theorem Fe.keep {e N B:Nat}{t v:Value}{w w':World}(h:Fe e N t v w)(k:Ap B w w'):Fe e N t v w' :=
 let ⟨p,n,c,h1,h2,h3⟩:=h
 ⟨p,n,c,h1,k.nat _ _ _ _ h2,h3⟩
theorem Ring.keep {B r M f:Nat}{w w':World}(h:Ring w r M f)(hr:r<B)(k:Ap B w w'):Ring w' r M f:=by
 obtain⟨p,n,c,h1,h2,h3⟩:=h.at_.ex
 exact⟨⟨p,n,c,by rw[k.bel.block r hr];exact h1,k.nat _ _ _ _ h2,h3⟩,h.two,h.lim,h.few⟩
structure Ax (w:World) (b P Q G H:Nat):Prop where
 ex:∃rp rq pg ng cg ph nh ch,w.heap[b]? = some (.cells #[.pointer (some ⟨rp,0,none⟩),.pointer (some ⟨rq,0,none⟩),.slice pg ng cg,.slice ph nh ch] 114 (0,0))/\Ring w rp P 33/\Ring w rq Q 33/\Ah w pg ng cg G/\G<Aq 33/\Ah w ph nh ch H/\H<Aq 33
theorem Ax.lt {w:World}{b P Q G H:Nat}(h:Ax w b P Q G H):b<w.heap.size:=by
 obtain⟨_,_,_,_,_,_,_,_,h1,_⟩:=h.ex;exact(Array.getElem?_eq_some_iff.1 h1).1
theorem Ax.below {w w':World}{b P Q G H:Nat}(h:Ax w b P Q G H)(hb:Below w.heap.size w w'):Ax w' b P Q G H:=by
 have hl:=h.lt;obtain⟨rp,rq,pg,ng,cg,ph,nh,ch,h1,h2,h3,h4,h5,h6,h7⟩:=h.ex;exact⟨rp,rq,pg,ng,cg,ph,nh,ch,by rw[hb.block b hl];exact h1,h2.below hb,h3.below hb,h4.below hb,h5,h6.below hb,h7⟩
theorem Ax.keep {B:Nat}{w w':World}{b P Q G H:Nat}(h:Ax w b P Q G H)(hB:w.heap.size<=B)(k:Ap B w w'):Ax w' b P Q G H:=by
 have hl:=h.lt;obtain⟨rp,rq,pg,ng,cg,ph,nh,ch,h1,h2,h3,h4,h5,h6,h7⟩:=h.ex;exact⟨rp,rq,pg,ng,cg,ph,nh,ch,by rw[k.bel.block b (by omega)];exact h1,h2.keep (by have:=h2.at_.lt;omega) k,h3.keep (by have:=h3.at_.lt;omega) k,k.nat _ _ _ _ h4,h5,k.nat _ _ _ _ h6,h7⟩
theorem Ax.lims {w:World}{b P Q G H:Nat}(h:Ax w b P Q G H):2<=P/\P<Aq 33/\2<=Q/\Q<Aq 33:=by
 obtain⟨_,_,_,_,_,_,_,_,_,h2,h3,_⟩:=h.ex;exact⟨h2.two,h2.lim,h3.two,h3.lim⟩
structure Kg (B:Nat) (w:World) (b P Q G H:Nat):Prop where
 ex:∃w0,Ax w0 b P Q G H/\w0.heap.size<=B/\Ap B w0 w
theorem Kg.of {B:Nat}{w w':World}{b P Q G H:Nat}(h:Ax w b P Q G H)(hB:w.heap.size<=B)(k:Below w.heap.size w w')(hB2:B<=w.heap.size:=by exact Nat.le_refl _):Kg B w' b P Q G H:=⟨w,h,hB,Ap.of k hB2⟩
theorem Kg.keep {B:Nat}{w w':World}{b P Q G H:Nat}(h:Kg B w b P Q G H)(k:Ap B w w'):Ax w' b P Q G H :=
 let ⟨_,h1,h2,h3⟩:=h.ex
 h1.keep h2 (h3.trans k)
theorem Cm {w:World}{b:Nat}{v0 v1 v2 v3:Value}(h:w.heap[b]? = some (.cells #[v0,v1,v2,v3] 114 (0,0))) :
  w.cell? ⟨b,0,none⟩=some v0/\w.cell? ⟨b,1,none⟩=some v1/\w.cell? ⟨b,2,none⟩=some v2/\w.cell? ⟨b,3,none⟩=some v3:=by
 simp[World.cell?,h]
end Go.Proofs.YthgoeiegdhphjaaGreatDoor
