/- A group's plain calls: its numbers, its field, its size; of no group. -/
import Derived.Test.YtnbmfaihlefgfaaGreatDoorGrpN
import Derived.Laws.OwnMore
import Derived.Lib.AppendZeros
import Derived.ArgAppend
set_option maxRecDepth 1000000
set_option maxHeartbeats 16000000
set_option linter.all false
namespace Go.Proofs.YtnbmfaihlefgfaaGreatDoor
def Rk (n:Nat):List Nat:=(List.range 8).map fun i=>n/256^i%256
theorem Ej (n:Nat):(Rk n).length=8:=by simp[Rk]
theorem Vb (n:Nat):Ay (Rk n):=fun x hx=>by
 simp only[Rk,List.mem_map]at hx;obtain⟨i,_,rfl⟩:=hx;exact Nat.mod_lt _ (by decide)
def Cb:List (List Nat)->List Nat
 | []=>[]
 | p::L=>Rk p.length++p++Cb L
theorem La:∀(L:List (List Nat)) (p:List Nat),Cb (L++[p])=Cb L++(Rk p.length++p)
 | [],p=>by simp[Cb]
 | a::L,p=>by simp[Cb,La L p]
def Lc (P:Nat):Nat->List (Nat×Nat)->Nat
 | x,[]=>x
 | x,(b,e)::l=>Lc P (x*(b^e%P)%P) l
theorem Sl {P:Nat}(hP:2<=P):∀(l:List (Nat×Nat)) (x:Nat),x<P->Lc P x l<P
 | [],_,h=>h
 | (_,_)::l,_,_=>Sl hP l _ (Nat.mod_lt _ (by omega))
open Go Go.RowKit Go.Proofs.YtnbmfaihlefgfaaGreatDoor.Flow
theorem oU {bs:List Nat}(h:Ay bs):Ax (be bs)<=8*bs.length:=by
 refine(Bo _ _).2 ?_;have:=h.reverse.lt;rw[Hb]at this
 simpa [be]using this
theorem Aj.grown {w w':World}{p:Option Addr}{n c N g:Nat}(h:Aj w p n c N)(hg:w.grownBy w' (some g))(hp:∀q,p=some q->q.block≠g):Aj w' p n c N :=
 let ⟨ws,h1,h2,h3,h4⟩:=h.ex
 ⟨ws,h1.grown hg hp,h2,h3,h4⟩
theorem kG (n:Nat){i:Nat}(hi:i<8):(Rk n).take (i+1)=(Rk n).take i++[n/256^i%256]:=by
 refine Fq ?_;unfold Rk;rw[List.getElem?_map,List.getElem?_range hi];rfl
theorem Yo {L:List Part}{k:Nat}{P:Part}(h:L[k]? = some P):Cb ((L.take (k+1)).map (·.bs))=Cb ((L.take k).map (·.bs))++(Rk P.bs.length++P.bs):=by
 rw[Fq h,List.map_append];exact La _ _
theorem eT (L:List Part)(k:Nat):(Cb ((L.take k).map (·.bs))).length<=(Cb (L.map (·.bs))).length:=by
 conv=>rhs;rw[<-List.take_append_drop k L,List.map_append]
 have:∀(a b:List (List Nat)),(Cb a).length<=(Cb (a++b)).length:=by
  intro a b
  induction a with
  | nil=>exact Nat.zero_le _
  | cons x a ih=>simp only[List.cons_append,Cb,List.length_append];omega
 exact this _ _
theorem Wb {L:List Part}(h:∀P∈L,Ay P.bs):Ay (Cb (L.map (·.bs))):=by
 induction L with
 | nil=>intro x hx;simp[Cb]at hx
 | cons P L ih=>
  intro x hx;simp only[List.map_cons,Cb,List.mem_append]at hx;rcases hx with (hx|hx)|hx
  .exact Vb _ x hx
  .exact h P (by simp) x hx
  .exact ih (fun P hP=>h P (by simp[hP])) x hx
theorem aD (w:World)(pP:Option Addr)(nP cP:Nat)(pQ:Option Addr)(nQ cQ Q:Nat)(pG:Option Addr)(nG cG:Nat)(pH:Option Addr)(nH cH:Nat)(hQ:Bn w pQ nQ cQ Q)(hQ0:0<Q)(lQ:Ax Q<=900000)(p:Option Addr)(n c:Nat)(L:List Part)(hL:Bv w p n c L)(hz:Iy L)(hmax:(Cb (L.map (·.bs))).length<=1000000) :
  Calls Tryz.prog 123 #[.agg #[.slice pP nP cP,.slice pQ nQ cQ,.slice pG nG cG,.slice pH nH cH],.slice p n c] w fun e w'=>∃x,e=.returned x/\Bj (be (Kx (Cb (L.map (·.bs))))%Q) x w'/\Below w.heap.size w w':=by
 obtain⟨XX,hXX⟩:∃XS,Cb (L.map (·.bs))=XS:=⟨_,rfl⟩
 have HXX:=Aa hXX;rw[hXX]at hmax
 rw[hXX];clear hXX;have hbx:Below w.heap.size w (w.alloc (.cells #[.slice pP nP cP,.slice pQ nQ cQ,.slice pG nG cG,.slice pH nH cH] 30)):=By;have HBX0:=Aa (Cm.made 30 w (.slice pP nP cP) (.slice pQ nQ cQ) (.slice pG nG cG) (.slice pH nH cH));obtain⟨wa,hwa⟩:∃wa,w.alloc (.cells #[.slice pP nP cP,.slice pQ nQ cQ,.slice pG nG cG,.slice pH nH cH] 30)=wa:=⟨_,rfl⟩
 rw[hwa]at hbx HBX0
 have HWA:=Aa hbx;have HQ0:=Aa (hQ.below hbx);have HP:Ad (Bv wa p n c L):=⟨hL.below hbx⟩
 have HZ:Ad (Iy L):=⟨hz⟩
 have hpl:Ad (n=L.length):=⟨hL.len⟩
 have HMx:=Aa hmax;have mp:=hL.max;have mcp:=hL.cap;clear hL hz hmax hQ hbx;have HO0:Ad (Own (wa.alloc (.cells #[] 5)) wa.heap.size (.slice (some ⟨wa.heap.size,0,none⟩) 0 0) []):=⟨Own.lit wa [] (by decide)⟩
 have HB0:Ad (Below wa.heap.size wa (wa.alloc (.cells #[] 5))):=⟨(Bd _ _).alloc (As _) _⟩
 go_enter Tryz.func123,Tryz.ntmps123;go_wp2
 go_loopw [5,7,8,9,13] (fun x _ _ _ i wr=>∃(k:Nat) (v:Value),k<=n/\i=.int .i64 k/\v=x/\Ad (Below wa.heap.size wa wr)/\Ad (Own wr wa.heap.size v (Cb ((L.take k).map (·.bs))))) (fun _ _ _ _ i _=>n-(intOf i).toNat)
 case atStart=>exact⟨0,_,by omega,rfl,rfl,HB0,HO0⟩
 case round=>
  obtain⟨k,v,hk,rfl,rfl,HB,HO⟩:=hrel;have hzr:=HB.out.size
  by_cases hkn:k<n
  .obtain⟨b,off,rfl,hb,hc⟩:=HP.out.cells (by omega);obtain⟨P,hP⟩:∃P,L[k]? = some P:=⟨_,List.getElem?_eq_getElem (by have:=hpl.out;omega)⟩
   have HOK:Ad (Au wr P):=⟨(HP.out.ok k P hP).below HB.out⟩
   have HZP:Ad (P.p=none->P.c=0):=⟨HZ.out P (List.mem_of_getElem? hP)⟩
   have hck:wr.cell? ⟨b,off+k,none⟩=some (.slice P.p P.n P.c):=by
    rw[(Bz HB.out).1 _ _ hb];exact hc k P hP
   have HPk:=Aa hP;have HTk:=Aa (Yo hP);have HLe:=Aa (eT L (k+1));have HPn:Ad (P.n=P.bs.length):=⟨HOK.out.row.len⟩
   clear hc hP;obtain⟨XS,hXS⟩:∃XS,Cb ((L.take k).map (·.bs))=XS:=⟨_,rfl⟩
   rw[hXS]at HO HTk
   have HXl:Ad (XS.length+8+P.n<=1000000):=⟨by
    have h1:=HLe.out;rw[HTk.out,List.length_append,List.length_append,Ej,HXX.out]at h1
    have:=HMx.out;have:=HPn.out;omega⟩
   clear hXS;obtain⟨wc,hwc⟩:∃x,x=wr:=⟨_,rfl⟩
   subst hwc;have hkn':(k:Int)<n:=by omega
   go_wp2
   go_loopw [5,8,9] (fun x nv i wr=>∃(j:Nat) (v:Value),j<=8/\i=.int .i64 j/\nv=.int .i64 ((P.n/256^j:Nat):Int)/\v=x/\Ad (Below wa.heap.size wa wr)/\Ad (Au wr P)/\Ad (Own wr wa.heap.size v (XS++(Rk P.n).take j))) (fun _ _ i _=>8-(intOf i).toNat)
   case atStart=>exact⟨0,v,by omega,rfl,by rw[Nat.pow_zero,Nat.div_one],rfl,HB,HOK,⟨by rw[List.take_zero,List.append_nil];exact HO.out⟩⟩
   case round=>
    obtain⟨j,v,hj,rfl,rfl,rfl,HBj,HKj,HOj⟩:=hrel
    by_cases hj8:j<8
    .obtain⟨M,hM⟩:∃M,P.n/256^j=M:=⟨_,rfl⟩
     have HM:Ad (P.n/256^(j+1)=M/256):=⟨by rw[Nat.pow_succ,<-Nat.div_div_eq_div_mul,hM]⟩
     have HT8:Ad ((Rk P.n).take (j+1)=(Rk P.n).take j++[M%256]):=⟨by rw[kG P.n hj8,hM]⟩
     have HMl:Ad (M<=P.n):=⟨by rw[<-hM];exact Nat.div_le_self _ _⟩
     rw[hM];obtain⟨R,hR⟩:∃R,M%256=R:=⟨_,rfl⟩
     have hmod:(M:Int).tmod 256=((R:Nat):Int):=by rw[Int.tmod_eq_emod_of_nonneg (by omega),<-hR];simp
     have hdiv:(M:Int).tdiv 256=((M/256:Nat):Int):=by rw[Int.tdiv_eq_ediv_of_nonneg (by omega)];simp
     have hR2:R<256:=by rw[<-hR];exact Nat.mod_lt _ (by decide)
     have hcv:IntKind.u8.wrap ((R:Nat):Int)=R:=IntWalk.u8_in _ (by omega);rw[hR]at HT8
     have hj8':(j:Int)<8:=by omega
     have HWr:Ad (wrap64 ((M:Int)/256)=((M/256:Nat):Int)):=⟨by
      have e:((M:Int)/256)=((M/256:Nat):Int):=by simp
      have h1:=HMl.out;have h2:=HXl.out;rw[e];exact IntWalk.wrap64_in ((M/256:Nat):Int) (by omega)⟩
     have hrow:=Jz wr [R] (by simp);have hb1:Below wr.heap.size wr (wr.alloc (.cells #[.int .u8 (R:Nat)] 5)):=By;have hrow':Bi (wr.alloc (.cells #[.int .u8 (R:Nat)] 5)) .u8 (some ⟨wr.heap.size,0,none⟩) 1 1 [R]:=hrow;obtain⟨wd,hwd⟩:∃wd,wr.alloc (.cells #[.int .u8 (R:Nat)] 5)=wd:=⟨_,rfl⟩
     rw[hwd]at hb1 hrow'
     have HOd:=Aa (HOj.out.belowS hb1);have HKd:=Aa (HKj.out.below hb1);have HRd:=Aa hrow';have HBd:=Aa (Ae HBj.out hb1);have HSz:=Aa HBd.out.size;have HLn:Ad ((XS++(Rk P.n).take j).length+1<=140737488355328):=⟨by
      rw[List.length_append,List.length_take,Ej];have:=HXl.out;omega⟩
     clear hM hR hrow hrow' hb1
     go_wp2_with (at_builtin;refine Dj rfl _ _ rfl rfl HOd.out rfl HRd.out (fun h=>by cases h) HLn.out HSz.out ?_;intro v1 w3 ho1 hg1;refine Fn.out ?_)
     refine⟨?_⟩;rw[List.append_assoc,<-HT8.out]at ho1
     have HO1:=Aa ho1;have HB3:=Aa (HBd.out.trans (grown_below hg1 HSz.out HOd.out.ge));have HK3:Ad (Au w3 P):=⟨(HP.out.ok k P HPk.out).below HB3.out⟩
     clear ho1 hg1;go_wp2;go_roundw
     case rel=>exact⟨j+1,_,by omega,by go_num,by rw[HM.out,HWr.out],rfl,HB3,HK3,HO1⟩
     case measure=>simp[intOf];omega
    .obtain rfl:j=8:=by omega
     have htk:(Rk P.n).take 8=Rk P.n:=List.take_of_length_le (by rw[Ej];exact As _);rw[htk]at HOj
     have hj8':¬(8:Int)<8:=by omega
     have HSz:=Aa HBj.out.size;have HLn:Ad ((XS++Rk P.n).length+P.n<=140737488355328):=⟨by
      rw[List.length_append,Ej];have:=HXl.out;omega⟩
     clear htk
     go_wp2_with (at_builtin;refine Dj rfl _ _ rfl rfl HOj.out rfl HKj.out.row HZP.out HLn.out HSz.out ?_;intro v1 w3 ho1 hg1;refine Fn.out ?_)
     refine⟨?_⟩;rw[List.append_assoc,HPn.out,<-HTk.out]at ho1
     have HO1:=Aa ho1;have HB3:=Aa (HBj.out.trans (grown_below hg1 HSz.out HOj.out.ge));clear ho1 hg1;go_wp2;go_roundw
     case rel=>exact⟨k+1,_,by omega,by go_num,rfl,HB3,HO1⟩
     case measure=>simp[intOf];omega
  .obtain rfl:k=n:=by omega
   have hkn':¬(k:Int)<k:=by omega
   obtain⟨XS,hXS⟩:∃XS,XX=XS:=⟨_,rfl⟩
   have HOf:Ad (Own wr wa.heap.size v XS):=⟨by
    have h:=HO.out;rw[List.take_of_length_le (by have:=hpl.out;omega),HXX.out,hXS]at h
    exact h⟩
   have HXn0:Ad (XS.length<=1000000):=⟨by rw[<-hXS];exact HMx.out⟩
   have H8:Ad (Ay XS):=⟨by
    rw[<-hXS,<-HXX.out];exact Wb fun P hP=>by
     obtain⟨i,hi⟩:=List.getElem?_of_mem hP;exact(HP.out.ok i P hi).bytes⟩
   subst hXS;obtain⟨nx,hnx⟩:∃nx,XX.length=nx:=⟨_,rfl⟩
   obtain⟨p5,c5,rfl,hr5,_,hz5,_⟩:=HOf.out.elim;rw[hnx]at hr5 HXn0
   rw[hnx];have HX:=Aa hr5;have HZ5:=Aa hz5;have HXn:Ad (nx<=1000000):=HXn0;have HBX:=Aa (HBX0.out.below HB.out HBX0.out.lt);have HQ:=Aa (HQ0.out.below HB.out);have HBT:=Aa (Ae HWA.out HB.out);have HS256:Ad (Ax (be (Kx XX))<=800000):=⟨by have:=oU (Ho XX);rw[Da]at this;omega⟩
   clear hr5 hz5 hnx;go_wp2;refine Ai (by kernel_rfl) (by kernel_rfl)
    [some (.slice p5 nx c5),none,none,some (.pointer (some ⟨w.heap.size,1,none⟩)),some (.slice pQ nQ cQ),none,none]
    [false,true,true,false,false,true,true] rfl
    (fun w1 w2=>Below w1.heap.size w1 w2)
    (fun _ w'=>Below wr.heap.size wr w')
    (fun i v w'=>match i with
     | 1=>Ci 0 (Kx XX) v w'
     | 2=>Bj (be (Kx XX)) v w'
     | 5=>Bj (be (Kx XX)%Q) v w'
     | 6=>Bj (be (Kx XX)%Q) v w'
     | _=>True)
    ?_ (Bd _ _).drew ?_ ?_
   .intro i v w1 w2 hf hb;split at hf
    .exact hf.below hb
    .exact hf.below hb
    .exact hf.below hb
    .exact hf.below hb
    .trivial
   .simp only[Ba,Nat.reduceAdd];refine⟨?_,?_,?_,?_,?_,?_,?_,trivial⟩
    all_goals intro D sp w' hD hW hdp hbx'
    case refine_2=>
     (with_reducible refine Ab (w1:=w') (f := 178) (args:=#[.slice p5 nx c5]) ?_ ?_ ?_)
     .simp[Region.wanted,yielded,Act.put,go_sem]
     .simp[Act.eval,Act.put,go_sem]
     .refine(We w' p5 nx c5 XX (HX.out.below hbx') H8.out HZ5.out HXn.out).mono ?_;rintro en w9 ⟨u,rfl,hu,hb⟩;have hu:=hu.zero;exact⟨u,rfl,hb,hu,Ae hbx' hb⟩
    case refine_3=>
     have k1:Ci 0 (Kx XX) (sp 1) w':=(hdp 1 (mq (by kernel_rfl))).2
     (with_reducible refine k1.elim (fun p1 c1 hv1 hr1 _ _=>?_))
     rw[Da]at hr1 hv1
     (with_reducible refine Ab (w1:=w') (f := 111) (args:=#[.slice p1 32 c1]) ?_ ?_ ?_)
     .simp only[Region.wanted]
     .simp[Act.eval,Act.put,go_sem,hv1]
     .refine(Yx w' p1 32 c1 (Kx XX) hr1 (Ho _) (by omega)).mono ?_;rintro en w9 ⟨q,m,d,rfl,hu,hb,_⟩;exact⟨_,rfl,hb,Bj.of hu,Ae hbx' hb⟩
    case refine_5=>
     have c0:=(HBX.out.below hbx' HBX.out.lt).cells.2.1
     with_reducible refine Ac ?_ ?_
     all_goals simp[Region.wanted,yielded,execOp,Act.eval,Act.put,go_sem,c0]
    case refine_6=>
     have k2:Bj (be (Kx XX)) (sp 2) w':=(hdp 2 (mq (by kernel_rfl))).2
     (with_reducible refine Ab (w1:=w') (f := 94) (args:=#[sp 2,.slice pQ nQ cQ]) ?_ ?_ ?_)
     .simp[Region.wanted,yielded,Act.put,go_sem]
     .simp[Act.eval,Act.put,go_sem]
     .refine(oL k2 (Bj.of (HQ.out.below hbx')) (by have:=HS256.out;omega) lQ hQ0).mono ?_;rintro en w9 ⟨u,rfl,hu,hb⟩;exact⟨u,rfl,hb,hu,Ae hbx' hb⟩
    case refine_7=>
     have k5:Bj (be (Kx XX)%Q) (sp 5) w':=(hdp 5 (mq (by kernel_rfl))).2
     (with_reducible refine Ag (w1:=w') (v:=sp 5) ?_ ?_ ?_)
     .simp[Region.wanted,yielded,Act.put,go_sem]
     .simp[execOp,Act.eval,Act.put,go_sem]
     .exact⟨Bd _ _,k5,hbx'⟩
    all_goals ((with_reducible refine Ac ?_ ?_);all_goals first|(simp only[Region.wanted];done)|simp[Region.wanted,yielded,execOp,Act.eval,Act.put,go_sem])
   .intro sp w7 hsp hbx';have k6:Bj (be (Kx XX)%Q) (sp 6) w7:=hsp 6 rfl;have HK:=Aa k6;have HBe:=Aa (Ae HBT.out hbx');clear hsp hbx' k6;simp only[Am,Nat.reduceAdd];generalize sp 1=y1,sp 2=y2,sp 5=y5,sp 6=y6 at *
    go_simp
    go_wp2;go_ret;exact⟨_,rfl,HK.out,HBe.out⟩
theorem mD (N:Nat):be (Ar N (Al N))=N:=by
 unfold be Ar;rw[List.reverse_reverse,Rj,Nat.mod_eq_of_lt (Fb N)]
theorem Cu {w:World}{v:Value}{e N:Nat}(h:Fit e N v w)(he:e<=200) :
  Calls Tryz.prog 46 #[v] w fun en w'=>∃x,en=.returned x/\Bj N x w'/\Below w.heap.size w w':=by
 obtain⟨p,n,c,rfl,h1,h2⟩:=h;have hbx:=Dg.mk1 w (.slice p n c) 36;have HF:=Aa ((Fit.of h1 h2).below hbx.bel);have HB:=Aa hbx.bel;have hl:Ad (Al N<=1000):=⟨by
  have:Ax N<=32*e:=(Bo N _).2 (by
   have:Ap e=2^(32*e):=by unfold Ap;rw[Nat.pow_mul]
   rw[<-this];exact h2)
  unfold Al;omega⟩
 clear h1 h2 hbx;go_enter Tryz.func46,Tryz.ntmps46
 go_wp2_with fail
 refine(gE HF.out (by omega)).mono ?_;rintro en w1 ⟨_,rfl,⟨q,m,d,rfl,hr⟩,b1⟩;have HR:Ad (Bi w1 .u8 q m d (Ar N (Al N))):=⟨⟨hr.len,hr.cap,hr.max,fun _=>hr⟩⟩
 have HM:Ad (m<=1000):=⟨by rw[hr.len,Bp];exact hl.out⟩
 have HB1:=Aa (Ae HB.out b1);clear hr b1
 go_wp2_with fail
 refine(Yx w1 q m d _ HR.out (Dx N _).reverse HM.out).mono ?_;rintro en w2 ⟨x,y,z,rfl,hb,b2,_⟩;rw[mD]at hb
 have HN:=Aa hb;have HB2:=Aa (Ae HB1.out b2);clear hb b2;go_wp2;go_ret;exact⟨_,rfl,Bj.of HN.out,HB2.out⟩
theorem gJ {t:TypeId}{w:World}{b:Nat}{x0 x1 x2 x3:Option Addr×Nat×Nat}(h:Cm t w b (.slice x0.1 x0.2.1 x0.2.2) (.slice x1.1 x1.2.1 x1.2.2) (.slice x2.1 x2.2.1 x2.2.2) (.slice x3.1 x3.2.1 x3.2.2))(u0 u1 u2 u3:Value) :
  Hd w ((((w.setCell ⟨b,0,none⟩ u0).setCell ⟨b,1,none⟩ u1).setCell ⟨b,2,none⟩ u2).setCell ⟨b,3,none⟩ u3):=by
 have h0:=h.at_
 have k0:=Hd.set h.cells.1 u0;have k1:Hd (w.setCell ⟨b,0,none⟩ u0) ((w.setCell ⟨b,0,none⟩ u0).setCell ⟨b,1,none⟩ u1):=Hd.set (p:=x1.1) (n:=x1.2.1) (c:=x1.2.2) (by simp[World.cell?,World.setCell,Array.getElem?_modify,h0]) u1;have k2:Hd ((w.setCell ⟨b,0,none⟩ u0).setCell ⟨b,1,none⟩ u1) (((w.setCell ⟨b,0,none⟩ u0).setCell ⟨b,1,none⟩ u1).setCell ⟨b,2,none⟩ u2):=Hd.set (p:=x2.1) (n:=x2.2.1) (c:=x2.2.2) (by simp[World.cell?,World.setCell,Array.getElem?_modify,h0]) u2;have k3:Hd (((w.setCell ⟨b,0,none⟩ u0).setCell ⟨b,1,none⟩ u1).setCell ⟨b,2,none⟩ u2) ((((w.setCell ⟨b,0,none⟩ u0).setCell ⟨b,1,none⟩ u1).setCell ⟨b,2,none⟩ u2).setCell ⟨b,3,none⟩ u3):=Hd.set (p:=x3.1) (n:=x3.2.1) (c:=x3.2.2) (by simp[World.cell?,World.setCell,Array.getElem?_modify,h0]) u3;exact((k0.trans k1).trans k2).trans k3
structure Er (P Q G H:Nat) (v:Value) (w:World):Prop where
 ex:∃p0 n0 c0 p1 n1 c1 p2 n2 c2 p3 n3 c3,v=.agg #[.slice p0 n0 c0,.slice p1 n1 c1,.slice p2 n2 c2,.slice p3 n3 c3]/\Bn w p0 n0 c0 P/\Bn w p1 n1 c1 Q/\Bn w p2 n2 c2 G/\Bn w p3 n3 c3 H
theorem Er.below {P Q G H:Nat}{v:Value}{w w':World}(h:Er P Q G H v w)(hb:Below w.heap.size w w'):Er P Q G H v w':=by
 obtain⟨p0,n0,c0,p1,n1,c1,p2,n2,c2,p3,n3,c3,h0,h1,h2,h3,h4⟩:=h.ex;exact⟨p0,n0,c0,p1,n1,c1,p2,n2,c2,p3,n3,c3,h0,h1.below hb,h2.below hb,h3.below hb,h4.below hb⟩
structure mS (Q:Nat) (v:Value) (w:World):Prop where
 ex:∃r,v=.pointer (some ⟨r,0,none⟩)/\Ring w r Q 33
section
variable {At:World->Nat->Nat->Nat->Nat->Nat->Prop} {ready:World->Prop}
end
theorem Tz (w:World)(pk:Option Addr)(nk ck:Nat)(salt:List Nat)(ps:Option Addr)(ns cs:Nat)(secret:List Nat)(hT:Tabs w)(hK:Au w ⟨pk,nk,ck,salt⟩)(hS:Au w ⟨ps,ns,cs,secret⟩) :
  Calls Tryz.prog 243 #[.slice pk nk ck,.slice ps ns cs] w (Lx (aY salt secret) w):=by
 have hb:Below w.heap.size w (w.alloc (.cells #[.slice ps ns cs] 60)):=By;have hz:=hb.size;have HC:=Aa (Wo (w.alloc (.cells #[.slice ps ns cs] 60)) pk nk ck salt _ _ _ [⟨ps,ns,cs,secret⟩] (hT.below hb hT.size) (hK.below hb).row hK.bytes (jQ w ⟨ps,ns,cs,secret⟩ hS));have HB:=Aa hb;clear hT hK hS hb;go_enter Tryz.func243,Tryz.ntmps243
 go_wp2_with fail
 refine HC.out.mono ?_;rintro e w1 ⟨q,rfl,hq,hb1,hk⟩;rw[Uk]at hk
 go_wp2;go_ret;exact⟨q,rfl,by omega,Ds HB.out hb1,hk⟩
theorem Xj (w:World)(pk:Option Addr)(nk ck:Nat)(salt:List Nat)(ps:Option Addr)(ns cs:Nat)(secret:List Nat)(pi:Option Addr)(ni ci:Nat)(info:List Nat)(n:Nat)(hT:Tabs w)(hK:Au w ⟨pk,nk,ck,salt⟩)(hS:Au w ⟨ps,ns,cs,secret⟩)(hI:Au w ⟨pi,ni,ci,info⟩)(hn:n<=8160) :
  Calls Tryz.prog 223 #[.slice pk nk ck,.slice ps ns cs,.slice pi ni ci,.int .i64 n] w (aS n ((Gt (Lk salt secret) info ((n+31)/32)).take n) w):=by
 have HC:=Aa (Tz w pk nk ck salt ps ns cs secret hT hK hS);have HI:Ad (Au w ⟨pi,ni,ci,info⟩):=⟨hI⟩
 have HT:Ad (Tabs w):=⟨hT⟩
 clear hT hK hS hI;go_enter Tryz.func223,Tryz.ntmps223
 go_wp2_with fail
 refine HC.out.mono ?_;rintro e w1 ⟨q,rfl,hq,hb1,hk⟩;have hr:Bi w1 .u8 (some ⟨q,0,none⟩) 32 32 (Lk salt secret):=⟨(Lj _ _).symm,As _,by omega,fun _=>hk.row (Lj _ _).symm (As _) (by omega)⟩
 go_wp2_with fail
 refine(Oo w1 _ _ _ (Lk salt secret) pi ni ci info n (HT.out.below hb1 HT.out.size) hr (Su _ _) (HI.out.below hb1) hn).mono ?_;rintro e w2 ⟨p,rfl,hr2,hn2,hb2,hz2⟩;have hz:=hb1.size;have HE:=Aa hr2;have HN:Ad (Fh w.heap.size p/\(p=none->n=0)):=⟨hn2.mono hz,hz2⟩
 clear hr2 hn2 hz2 hr hk;go_wp2;exact bodyPost_ret (v:=.tuple #[.slice p n n,.int .i64 0]) (by simp[results,Tryz.results223,go_sem]) rfl ⟨p,rfl,HE.out,HN.out.1,Ds hb1 hb2,HN.out.2⟩
theorem Ru {N:Nat}{l:List Bx}(h:Told N l):Cs N:=by
 rcases h with h|⟨h,s,hs,rfl⟩
 .exact h.prime
 .exact Lt l [] (fun x hx=>by cases hx) h s hs
def Fz (seed:List Nat)(P c:Nat):Nat:=be ((Gt (Lk [] seed) [104,c] ((Al P+8+31)/32)).take (Al P+8))
def Fl (f:Nat->Nat):Nat->Nat->Option Nat
 | 0,_=>none
 | k+1,c=>if 1<f c then some (f c) else Fl f k (c+1)
def Tj (P Q G:Nat):Prop:=(P-1)%Q=0/\64<Q/\1<G/\G<P/\G^Q%P=1
open Classical in
noncomputable def newSpec (P Q G:Nat) (seed:List Nat) (l:List Bx):Nat×Nat :=
 if Told P l/\Told Q l then
  if Tj P Q G then
   match Fl (fun c=>Fz seed P c^((P-1)/Q)%P) 256 0 with
   | some h=>(0,h)
   | none=>(6,0)
  else (1,0)
 else (8,0)
theorem Zs {w:World}{v:Value}{P Q G H:Nat}(h:Er P Q G H v w)(hl:Ax P<=100000) :
  Calls Tryz.prog 179 #[v] w fun e w'=>e=.returned (.int .i64 (Al P:Nat))/\Below w.heap.size w w':=by
 obtain⟨p0,n0,c0,p1,n1,c1,p2,n2,c2,p3,n3,c3,rfl,h0,_⟩:=h.ex;have hn:=Gv h0;have hbx:Below w.heap.size w (w.alloc (.cells #[.slice p0 n0 c0,.slice p1 n1 c1,.slice p2 n2 c2,.slice p3 n3 c3] 30)):=By;have HBX:=Aa (Cm.made 30 w (.slice p0 n0 c0) (.slice p1 n1 c1) (.slice p2 n2 c2) (.slice p3 n3 c3));obtain⟨wa,hwa⟩:∃wa,w.alloc (.cells #[.slice p0 n0 c0,.slice p1 n1 c1,.slice p2 n2 c2,.slice p3 n3 c3] 30)=wa:=⟨_,rfl⟩
 rw[hwa]at hbx HBX
 have HB:=Aa hbx;have HS:Ad (Al P=(n0+7)/8):=⟨by unfold Al;rw[hn]⟩
 have hn0:n0<=100000:=by omega
 have hdiv:((n0:Int)+7).tdiv 8=(((n0+7)/8:Nat):Int):=by rw[Int.tdiv_eq_ediv_of_nonneg (by omega)];omega
 have c0':=HBX.out.cells.1;clear h h0 hn hbx hl;go_enter Tryz.func179,Tryz.ntmps179;go_wp2;go_ret;exact⟨by rw[HS.out];simp,HB.out⟩
theorem Vn (xs ys:List Nat):be (xs++ys)=be xs*B8 ys.length+be ys:=by
 unfold be;rw[List.reverse_append,Va,List.length_reverse,Nat.mul_comm (B8 _),Nat.add_comm]
theorem Zp:∀(bs:List Nat) (a:Nat),bs.foldl (fun n x=>n*256+x) a=a*B8 bs.length+be bs
 | [],a=>by simp[be,le,Io]
 | x::xs,a=>by
  rw[List.foldl_cons,Zp xs,show x::xs=[x]++xs from rfl,Vn,List.length_append,List.length_singleton,Nat.add_comm 1,Gp];have h1:be [x]=x:=by simp[be,le]
  rw[h1,Nat.add_mul,Nat.mul_assoc,Nat.add_assoc]
theorem Wj (bs:List Nat):bT bs=be bs:=by
 unfold bT;rw[Zp];simp
def Ce:List (Nat×Nat)->Nat
 | []=>1
 | (b,e)::l=>b^e*Ce l
theorem Uv (P:Nat):∀(l:List (Nat×Nat)) (x:Nat),Lc P x l%P=x*Ce l%P
 | [],x=>by simp[Lc,Ce]
 | (b,e)::l,x=>by
  rw[Lc,Uv P l,Ce,Nat.mod_mul_mod,Nat.mul_assoc x (b^e%P),<-Nat.mul_mod_mod x (b^e%P*Ce l),Nat.mod_mul_mod,Nat.mul_mod_mod]
theorem fP {P:Nat}(hP:2<=P)(l:List (Nat×Nat)):Lc P 1 l=Ce l%P:=by
 have:=Uv P l 1;rw[Nat.mod_eq_of_lt (Sl hP l 1 (by omega)),Nat.one_mul]at this
 exact this
theorem Na:∀(l:List (Nat×Nat)) (b e:Nat),Ce (l++[(b,e)])=Ce l*b^e
 | [],b,e=>by simp[Ce]
 | (c,d)::l,b,e=>by rw[List.cons_append,Ce,Na l,Ce,Nat.mul_assoc]
def Ms (i:Nat)(l:List (Nat×Nat)):List (Nat×Nat):=l.map fun p=>(p.1,p.2/2^i)
def Np (i:Nat)(l:List (Nat×Nat)):List (Nat×Nat):=l.map fun p=>(p.1,p.2/2^i%2)
theorem gV (l:List (Nat×Nat)):Ms 0 l=l:=by simp[Ms]
theorem Yv (i:Nat):∀l:List (Nat×Nat),Ce (Ms i l)=Ce (Ms (i+1) l)*Ce (Ms (i+1) l)*Ce (Np i l)
 | []=>rfl
 | (b,e)::l=>by
  have h1:e/2^i=e/2^(i+1)+e/2^(i+1)+e/2^i%2:=by
   rw[Nat.pow_succ,<-Nat.div_div_eq_div_mul];omega
  have h2:b^(e/2^i)=b^(e/2^(i+1))*b^(e/2^(i+1))*b^(e/2^i%2):=by
   rw[<-Nat.pow_add,<-Nat.pow_add,<-h1]
  show b^(e/2^i)*Ce (Ms i l)=(b^(e/2^(i+1))*Ce (Ms (i+1) l))*(b^(e/2^(i+1))*Ce (Ms (i+1) l))*(b^(e/2^i%2)*Ce (Np i l));rw[h2,Yv i l]
  ac_rfl
theorem Yu (i:Nat):∀l:List (Nat×Nat),(∀p∈l,p.2<2^i)->Ce (Ms i l)=1
 | [],_=>rfl
 | (b,e)::l,h=>by
  show b^(e/2^i)*Ce (Ms i l)=1;rw[Yu i l fun p hp=>h p (List.mem_cons_of_mem _ hp),Nat.div_eq_of_lt (h (b,e) List.mem_cons_self)];simp
theorem iI {i:Nat}{l:List (Nat×Nat)}{k b e:Nat}(h:l[k]? = some (b,e)):Np i (l.take (k+1))=Np i (l.take k)++[(b,e/2^i%2)]:=by
 unfold Np;rw[Fq h,List.map_append];rfl
def Hc:List Nat->Nat
 | []=>0
 | x::l=>max (Ax x) (Hc l)
theorem Sm:∀(l:List Nat) (x:Nat),Hc (l++[x])=max (Hc l) (Ax x)
 | [],x=>by simp[Hc]
 | y::l,x=>by rw[List.cons_append,Hc,Sm l,Hc];omega
theorem Za:∀(l:List Nat) (x:Nat),x∈l->x<2^Hc l
 | y::l,x,h=>by
  rcases List.mem_cons.1 h with rfl|h
  .exact De (Gl x) (Nat.pow_le_pow_right (by omega) (Nat.le_max_left _ _))
  .exact De (Za l x h) (Nat.pow_le_pow_right (by omega) (Nat.le_max_right _ _))
theorem Zb {m:Nat}:∀(l:List Nat),(∀x∈l,Ax x<=m)->Hc l<=m
 | [],_=>Nat.zero_le _
 | y::l,h=>Nat.max_le.2 ⟨h y List.mem_cons_self,Zb l fun x hx=>h x (List.mem_cons_of_mem _ hx)⟩
theorem oO {P X Y s:Nat}:((X*(256^s%P))%P+Y)%P=(X*256^s+Y)%P:=by
 rw[Nat.mul_mod_mod,Nat.mod_add_mod]
theorem kK (seed:List Nat)(P c:Nat):∃bs:List Nat,(Gt (Lk [] seed) [104,c] ((8+Al P+31)/32)).take (8+Al P)=bs/\bs.length=8+Al P/\Ay bs/\be (bs.take 8)*256^Al P+be (bs.drop 8)=Fz seed P c:=by
 have hl:((Gt (Lk [] seed) [104,c] ((8+Al P+31)/32)).take (8+Al P)).length=8+Al P:=by
  rw[List.length_take,Im];omega
 refine⟨_,rfl,hl,(Ng _ _ _).take _,?_⟩;obtain⟨bs,hb⟩:∃x,(Gt (Lk [] seed) [104,c] ((8+Al P+31)/32)).take (8+Al P)=x:=⟨_,rfl⟩
 have hh:Fz seed P c=be bs:=by rw[<-hb];unfold Fz;rw[Nat.add_comm (Al P) 8]
 rw[hb]at hl ⊢
 have h2:=Vn (bs.take 8) (bs.drop 8);rw[List.take_append_drop,List.length_drop,hl,show 8+Al P-8=Al P by omega]at h2
 rw[hh,h2];rfl
theorem nT (A t P:Nat):(A%P)^t%P=A^t%P:=(Nat.pow_mod A t P).symm
theorem cR {f:Nat->Nat}{k c:Nat}(h:1<f c):Fl f (k+1) c=some (f c):=by rw[Fl,if_pos h]
theorem Om:∀i,i<3->Al (gP i)=qV i
 | 0,_=>by kernel_rfl
 | 1,_=>by kernel_rfl
 | 2,_=>by kernel_rfl
 | _+3,h=>by omega
theorem Sx (key info:List Nat):Gt key info 1=Lk key (info++[1]):=by
 simp[Gt,Tq]
theorem kJ:∀i,i<3->Fz [] (gP i) 0=bT (Sw i)
 | 0,h=>by
  rw[Wj];unfold Fz;rw[Om 0 h,Ws];show be ((Gt _ _ 1).take 10)=_;rw[Sx];show be ((Lk _ [104,0,1]).take 10)=_;rw[aW];rfl
 | 1,h=>by
  rw[Wj];unfold Fz;rw[Om 1 h,Ws];show be ((Gt _ _ 1).take 11)=_;rw[Sx];show be ((Lk _ [104,0,1]).take 11)=_;rw[aW];rfl
 | 2,h=>by
  rw[Wj];unfold Fz;rw[Om 2 h,Ws];show be ((Gt _ _ 1).take 17)=_;rw[Sx];show be ((Lk _ [104,0,1]).take 17)=_;rw[aW];rfl
 | _+3,h=>by omega
theorem cL:∀i,i<3->(gP i-1)/gQ i=Nf i
 | 0,_=>by decide
 | 1,_=>by decide
 | 2,_=>by decide
 | _+3,h=>by omega
theorem qC (i:Nat)(hi:i<3):Tj (gP i) (gQ i) (gG i):=by
 obtain⟨h1,h2,h3,_⟩:=Ol i hi;exact⟨by rw[Vf i hi];exact Nat.mul_mod_right _ _,h1,h2,h3,Pn i hi⟩
theorem fM (i:Nat)(hi:i<3):newSpec (gP i) (gQ i) (gG i) [] (Ex i)=(0,gH i):=by
 have h1:Fz [] (gP i) 0^((gP i-1)/gQ i)%gP i=gH i:=by rw[kJ i hi,cL i hi,qW i hi]
 have h2:=(Ol i hi).2.2.2.1;unfold newSpec;rw[if_pos ⟨oG i hi,dX i hi⟩,if_pos (qC i hi)];have h3:Fl (fun c=>Fz [] (gP i) c^((gP i-1)/gQ i)%gP i) 256 0=some (gH i):=by
  rw[cR (by show 1<_;rw[h1];exact h2)];show some (Fz [] (gP i) 0^((gP i-1)/gQ i)%gP i)=_;rw[h1]
 rw[h3]
theorem cO:∀i,i<3->∀s∈Ex i,s.ps.length<=1000
 | 0,_=>by intro s hs;cases hs
 | 1,_=>by intro s hs;rcases List.mem_singleton.1 hs with rfl;simp
 | 2,_=>by
  intro s hs;rcases List.mem_cons.1 hs with rfl|hs
  .simp
  .rcases List.mem_singleton.1 hs with rfl;simp
 | _+3,h=>by omega
theorem oH (w:World):Fit 0 0 (.agg #[.slice none 0 0]) w:=Fit.of (Aj.nil w) (by decide)
theorem Ql (w:World) :
  Calls Tryz.prog 83 #[.pointer none] w fun en w'=>en=.returned (.agg #[.slice none 0 0])/\Below w.heap.size w w':=by
 have hb1:=Af.made w (.slice none 0 0);have c1:=hb1.cell;have f1:=hb1.free;have hbel:Below w.heap.size w (w.alloc (.cells #[.slice none 0 0] 36)):=By;go_enter Tryz.func83,Tryz.ntmps83;go_wp2;exact bodyPost_ret (v:=.agg #[.slice none 0 0]) (by simp[results,Tryz.results83,go_sem,c1]) rfl ⟨rfl,hbel⟩
theorem Ao.trans {B:Nat}{w1 w2 w3:World}(h:Ao B w1 w2)(k:Ao B w2 w3):Ao B w1 w3:=⟨h.bel.trans k.bel,fun p n c N x=>k.nat p n c N (h.nat p n c N x)⟩
theorem Ao.drew (B:Nat)(w:World):Ao B w w.drew:=⟨(Bd _ _).drew,fun _ _ _ _ k=>k.below ((Bd _ _).drew)⟩
structure RG (B:Nat) (wx:World) (l:List (Nat×Obj)) (w:World):Prop where
 keep:Ao B wx w
 base:B<=w.heap.size
 blk:∀x∈l,w.heap[x.1]? = some x.2
theorem RG.start {B:Nat}{wx:World}{l:List (Nat×Obj)}(hB:B<=wx.heap.size)(hl:∀x∈l,wx.heap[x.1]? = some x.2):RG B wx l wx.drew:=⟨Ao.drew _ _,hB,hl⟩
theorem RG.later {B:Nat}{wx:World}{l:List (Nat×Obj)}{w w':World}(h:RG B wx l w)(hb:Below w.heap.size w w'):RG B wx l w' :=
 ⟨h.keep.trans (Ao.of hb h.base),Ec h.base hb.size,fun x hx=>by rw[hb.block x.1 (Gn (h.blk x hx)).1];exact h.blk x hx⟩
theorem RG.store {B:Nat}{wx:World}{l:List (Nat×Obj)}{w:World}{b m d:Nat}{q:Option Addr}(h:RG B wx l w)(hb:Af w b (.slice q m d))(hB:B<=b)(hn:∀x∈l,x.1≠b)(v:Value):RG B wx l (w.setCell ⟨b,0,none⟩ v) :=
 ⟨h.keep.trans (Ao.store hb hB v),by simpa using h.base,fun x hx=>by
  have:=hn x hx;simp[World.setCell,Array.getElem?_modify,this.symm];exact h.blk x hx⟩
theorem RG.of {B:Nat}{wx:World}{l:List (Nat×Obj)}{w:World}(h:RG B wx l w){b:Nat}{o:Obj}(hm:(b,o)∈l):w.heap[b]? = some o:=h.blk _ hm
def Pu (d:Bool)(b N:Nat)(w:World):Prop:=∃p n c,Af w b (.slice p n c)/\(d=true->Aj w p n c N)
theorem Pu.fresh {w:World}{b N:Nat}{p:Option Addr}{n c:Nat}(h:Af w b (.slice p n c)):Pu false b N w:=⟨p,n,c,h,fun e=>by cases e⟩
theorem Pu.later {d:Bool}{b N:Nat}{w w':World}(h:Pu d b N w)(hb:Below w.heap.size w w'):Pu d b N w' :=
 let ⟨p,n,c,h1,h2⟩:=h
 ⟨p,n,c,h1.below hb h1.lt,fun e=>(h2 e).below hb⟩
theorem Pu.other {d:Bool}{b N b' m k:Nat}{q:Option Addr}{w:World}(h:Pu d b N w)(hb:Af w b' (.slice q m k))(hne:b≠b')(v:Value):Pu d b N (w.setCell ⟨b',0,none⟩ v) :=
 let ⟨p,n,c,h1,h2⟩:=h
 ⟨p,n,c,h1.other hne v,fun e=>(h2 e).store hb v⟩
theorem Pu.put {d:Bool}{b N:Nat}{w:World}(h:Pu d b N w){p:Option Addr}{n c:Nat}(hx:Aj w p n c N):∃q m k,Af w b (.slice q m k)/\Pu true b N (w.setCell ⟨b,0,none⟩ (.slice p n c)) :=
 let ⟨q,m,k,h1,_⟩:=h
 ⟨q,m,k,h1,p,n,c,h1.set _,fun _=>hx.store h1 _⟩
def Pa (d f:Bool)(v:Value)(B N:Nat)(w:World):Prop:=B<=w.heap.size/\(d=true->∃b,v=.pointer (some ⟨b,0,none⟩)/\B<=b/\Pu f b N w)
theorem Pa.start {v:Value}{B N:Nat}{w:World}(h:B<=w.heap.size):Pa false false v B N w:=⟨h,fun e=>by cases e⟩
theorem Pa.later {d f:Bool}{v:Value}{B N:Nat}{w w':World}(h:Pa d f v B N w)(hb:Below w.heap.size w w'):Pa d f v B N w' :=
 ⟨Ec h.1 hb.size,fun e=>let ⟨b,h1,h2,h3⟩:=h.2 e;⟨b,h1,h2,h3.later hb⟩⟩
theorem Pa.made {v:Value}{B N:Nat}{w:World}(h:Pa false false v B N w):Pa true false (.pointer (some ⟨w.heap.size,0,none⟩)) B N (w.alloc (.cells #[.slice none 0 0] 36)) :=
 ⟨by simp;have:=h.1;omega,fun _=>⟨_,rfl,h.1,Pu.fresh (Af.made _ _)⟩⟩
theorem Pa.put {f:Bool}{v:Value}{B N:Nat}{w:World}(h:Pa true f v B N w){p:Option Addr}{n c:Nat}(hx:Aj w p n c N) :
  ∃b q m k,v=.pointer (some ⟨b,0,none⟩)/\B<=b/\Af w b (.slice q m k)/\Pa true true v B N (w.setCell ⟨b,0,none⟩ (.slice p n c)) :=
 let ⟨b,h1,h2,h3⟩:=h.2 rfl
 let ⟨q,m,k,h4,h5⟩:=h3.put hx
 ⟨b,q,m,k,h1,h2,h4,by simpa using h.1,fun _=>⟨b,h1,h2,h5⟩⟩
theorem RG.store_over {B B2:Nat}{wx:World}{l:List (Nat×Obj)}{w:World}{b m d:Nat}{q:Option Addr}(h:RG B wx l w)(hb:Af w b (.slice q m d))(hB:B<=B2)(hB2:B2<=b)(hl:∀x∈l,x.1<B2)(v:Value):RG B wx l (w.setCell ⟨b,0,none⟩ v) :=
 h.store hb (Ec hB hB2) (fun x hx=>by have:=hl x hx;omega) v
def Fm (e N:Nat)(t v:Value)(w:World):Prop:=∃p n c,v=.tuple #[.agg #[.slice p n c],t]/\Aj w p n c N/\N<Ap e
theorem Fm.keep {e N B:Nat}{t v:Value}{w w':World}(h:Fm e N t v w)(k:Ao B w w'):Fm e N t v w' :=
 let ⟨p,n,c,h1,h2,h3⟩:=h
 ⟨p,n,c,h1,k.nat _ _ _ _ h2,h3⟩
theorem Ring.keep {B r M f:Nat}{w w':World}(h:Ring w r M f)(hr:r<B)(k:Ao B w w'):Ring w' r M f:=by
 obtain⟨p,n,c,h1,h2,h3⟩:=h.at_.ex
 exact⟨⟨p,n,c,by rw[k.bel.block r hr];exact h1,k.nat _ _ _ _ h2,h3⟩,h.two,h.lim,h.few⟩
structure Bb (w:World) (b P Q G H:Nat):Prop where
 ex:∃rp rq pg ng cg ph nh ch,w.heap[b]? = some (.cells #[.pointer (some ⟨rp,0,none⟩),.pointer (some ⟨rq,0,none⟩),.slice pg ng cg,.slice ph nh ch] 127 (0,0))/\Ring w rp P 33/\Ring w rq Q 33/\Aj w pg ng cg G/\G<Ap 33/\Aj w ph nh ch H/\H<Ap 33
theorem Bb.lt {w:World}{b P Q G H:Nat}(h:Bb w b P Q G H):b<w.heap.size:=by
 obtain⟨_,_,_,_,_,_,_,_,h1,_⟩:=h.ex;exact(Gn h1).1
theorem Bb.below {w w':World}{b P Q G H:Nat}(h:Bb w b P Q G H)(hb:Below w.heap.size w w'):Bb w' b P Q G H:=by
 have hl:=h.lt;obtain⟨rp,rq,pg,ng,cg,ph,nh,ch,h1,h2,h3,h4,h5,h6,h7⟩:=h.ex;exact⟨rp,rq,pg,ng,cg,ph,nh,ch,by rw[hb.block b hl];exact h1,h2.below hb,h3.below hb,h4.below hb,h5,h6.below hb,h7⟩
theorem Bb.keep {B:Nat}{w w':World}{b P Q G H:Nat}(h:Bb w b P Q G H)(hB:w.heap.size<=B)(k:Ao B w w'):Bb w' b P Q G H:=by
 have hl:=h.lt;obtain⟨rp,rq,pg,ng,cg,ph,nh,ch,h1,h2,h3,h4,h5,h6,h7⟩:=h.ex;exact⟨rp,rq,pg,ng,cg,ph,nh,ch,by rw[k.bel.block b (by omega)];exact h1,h2.keep (by have:=h2.at_.lt;omega) k,h3.keep (by have:=h3.at_.lt;omega) k,k.nat _ _ _ _ h4,h5,k.nat _ _ _ _ h6,h7⟩
theorem Bb.lims {w:World}{b P Q G H:Nat}(h:Bb w b P Q G H):2<=P/\P<Ap 33/\2<=Q/\Q<Ap 33:=by
 obtain⟨_,_,_,_,_,_,_,_,_,h2,h3,_⟩:=h.ex;exact⟨h2.two,h2.lim,h3.two,h3.lim⟩
structure Kp (B:Nat) (w:World) (b P Q G H:Nat):Prop where
 ex:∃w0,Bb w0 b P Q G H/\w0.heap.size<=B/\Ao B w0 w
theorem Kp.of {B:Nat}{w w':World}{b P Q G H:Nat}(h:Bb w b P Q G H)(hB:w.heap.size<=B)(k:Below w.heap.size w w')(hB2:B<=w.heap.size:=by exact As _):Kp B w' b P Q G H:=⟨w,h,hB,Ao.of k hB2⟩
theorem Kp.keep {B:Nat}{w w':World}{b P Q G H:Nat}(h:Kp B w b P Q G H)(k:Ao B w w'):Bb w' b P Q G H :=
 let ⟨_,h1,h2,h3⟩:=h.ex
 h1.keep h2 (h3.trans k)
theorem Cp {w:World}{b:Nat}{v0 v1 v2 v3:Value}(h:w.heap[b]? = some (.cells #[v0,v1,v2,v3] 127 (0,0))) :
  w.cell? ⟨b,0,none⟩=some v0/\w.cell? ⟨b,1,none⟩=some v1/\w.cell? ⟨b,2,none⟩=some v2/\w.cell? ⟨b,3,none⟩=some v3:=by
 simp[World.cell?,h]
theorem Dw (w:World)(b:Nat):Calls Tryz.prog 87 #[.pointer (some ⟨b,0,none⟩)] w fun e w'=>e=.returned (.pointer (some ⟨b,0,none⟩))/\w'=w:=by
 go_enter Tryz.func87,Tryz.ntmps87;go_wp2;go_ret;exact⟨rfl,rfl⟩
def Xy (w:World)(b:Nat):Prop:=w.heap[b]? = some (.cells #[.pointer none,.pointer none,.slice none 0 0,.slice none 0 0] 127 (0,0))
theorem Xy.cells {w:World}{b:Nat}(h:Xy w b):w.cell? ⟨b,0,none⟩=some (.pointer none)/\w.cell? ⟨b,1,none⟩=some (.pointer none):=by
 obtain⟨h0,h1,_⟩:=Cp h;exact⟨h0,h1⟩
theorem bQ (w:World):Calls Tryz.prog 87 #[.pointer none] w fun e w'=>∃b,e=.returned (.pointer (some ⟨b,0,none⟩))/\Xy w' b/\Below w.heap.size w w':=by
 have hn:Xy (w.alloc (.cells #[.pointer none,.pointer none,.slice none 0 0,.slice none 0 0] 127)) w.heap.size:=heap_alloc_new w _;have hb:Below w.heap.size w (w.alloc (.cells #[.pointer none,.pointer none,.slice none 0 0,.slice none 0 0] 127)):=By;have HN:=Aa hn;have HB:=Aa hb;clear hn hb;go_enter Tryz.func87,Tryz.ntmps87;go_wp2;go_ret;exact⟨_,rfl,HN.out,HB.out⟩
theorem Qr {w:World}{e N:Nat}{v:Value}(h:Fit e N v w)(he:e<=300000) :
  Calls Tryz.prog 115 #[v] w fun en w'=>∃x,en=.returned x/\Fit e N x w'/\Below w.heap.size w w':=by
 obtain⟨pa,na,ca,rfl,h1,h2⟩:=Aw h;have hbx:=eF.mk2 w (.slice pa na ca) (.slice none 0 0);have hz:∀w',Fit 0 0 (.agg #[.slice none 0 0]) w':=fun w'=>Fit.of (Aj.nil w') (by decide)
 have HZ:=Ah hz;clear hz;go_enter Tryz.func115,Tryz.ntmps115
 go_wp2_with fail
 refine(Kj (h.below hbx.bel) (HZ.out _) (by omega) (by omega)).mono ?_;rintro en w1 ⟨x,rfl,hx,hb⟩;replace hbx:=hbx.later hb;obtain⟨pc,nc,cc,rfl,y1,_⟩:=hx;have c1:=hbx.b1.cell;have f1:=hbx.b1.free;have z1:=hbx.b1.lt;go_wp2;exact bodyPost_ret (v:=.agg #[.slice pc nc cc]) (by simp[results,Tryz.results115,go_sem,c1]) rfl ⟨_,rfl,Fit.of (y1.store hbx.b1 _) h2,hbx.bel.setCell (by simp) _⟩
theorem Lu {w:World}{e N:Nat}{v:Value}(h:Fit e N v w)(he:e<=900000) :
  Calls Tryz.prog 189 #[v] w fun en w'=>en=.returned (.int .i64 (Al N:Nat))/\Below w.heap.size w w':=by
 obtain⟨p,n,c,rfl,h1,h2⟩:=h;have hn:n<1000000:=by have:=h1.len_le h2;omega
 have hl:Ax N<=30000000:=by have:=Fa h2;omega
 have hbx:=Dg.mk1 w (.slice p n c) 36;have H1:=Aa (h1.below hbx.bel);have HBX:=Aa hbx.bel;have HS:Ad (Al N=(Ax N+7)/8):=⟨rfl⟩
 clear h1 h2 hbx;go_enter Tryz.func189,Tryz.ntmps189
 go_wp2_with fail
 refine(En _ p n c N H1.out hn).mono ?_;rintro en w1 ⟨rfl,hb1⟩;have HB1:=Aa (Ae HBX.out hb1);clear hb1;obtain⟨L,hL⟩:∃L,Ax N=L:=⟨_,rfl⟩
 rw[hL]at hl HS
 simp only[hL];clear hL;go_wp2;go_ret;refine⟨?_,HB1.out⟩;rw[HS.out];exact congrArg (fun z=>Ending.returned (.int .i64 z)) (by omega)
theorem Wy {w:World}{b P Q G H:Nat}(h:Bb w b P Q G H) :
  Calls Tryz.prog 82 #[.pointer (some ⟨b,0,none⟩)] w fun e w'=>∃x,e=.returned x/\Fit 33 P x w'/\Below w.heap.size w w':=by
 have hb1:=Af.made w (.slice none 0 0);have hbel:Below w.heap.size w (w.alloc (.cells #[.slice none 0 0] 36)):=By;obtain⟨wa,hwa⟩:∃wa,w.alloc (.cells #[.slice none 0 0] 36)=wa:=⟨_,rfl⟩
 rw[hwa]at hb1 hbel
 obtain⟨rp,rq,pg,ng,cg,ph,nh,ch,h1,h2,h3,h4,h5,h6,h7⟩:=(h.below hbel).ex;obtain⟨c0,cq,c2,c3⟩:=Cp h1;have HR:=Aa h2;have HBX:=Aa hb1;have HB:=Aa hbel;clear h h1 h2 h3 h4 h5 h6 h7 hb1 hbel;go_enter Tryz.func82,Tryz.ntmps82
 go_wp2_with fail
 refine(Dw wa b).mono ?_;rintro en w1 ⟨rfl,rfl⟩
 go_wp2_with fail
 refine(Ei HR.out).mono ?_;rintro en w2 ⟨x,rfl,hx,hb2⟩;obtain⟨pc,nc,cc,rfl,y1,y2⟩:=hx;have hbn:=HBX.out.below hb2 HBX.out.lt;have k1:=hbn.cell;have f1:=hbn.free;have z1:=hbn.lt;clear c0 cq c2 c3;go_wp2;exact bodyPost_ret (v:=.agg #[.slice pc nc cc]) (by simp[results,Tryz.results82,go_sem,k1]) rfl ⟨_,rfl,Fit.of (y1.store hbn _) y2,(Ae HB.out hb2).setCell (by simp) _⟩
theorem Xa {w:World}{b P Q G H:Nat}(h:Bb w b P Q G H) :
  Calls Tryz.prog 43 #[.pointer (some ⟨b,0,none⟩)] w fun e w'=>∃x,e=.returned x/\Fit 33 G x w'/\Below w.heap.size w w':=by
 have hb1:=Af.made w (.slice none 0 0);have hbel:Below w.heap.size w (w.alloc (.cells #[.slice none 0 0] 36)):=By;obtain⟨wa,hwa⟩:∃wa,w.alloc (.cells #[.slice none 0 0] 36)=wa:=⟨_,rfl⟩
 rw[hwa]at hb1 hbel
 obtain⟨rp,rq,pg,ng,cg,ph,nh,ch,h1,h2,h3,h4,h5,h6,h7⟩:=(h.below hbel).ex;obtain⟨c0,cq,c2,c3⟩:=Cp h1;have HR:=Aa (Fit.of h4 h5);have HBX:=Aa hb1;have HB:=Aa hbel;clear h h1 h2 h3 h4 h5 h6 h7 hb1 hbel;go_enter Tryz.func43,Tryz.ntmps43
 go_wp2_with fail
 refine(Dw wa b).mono ?_;rintro en w1 ⟨rfl,rfl⟩
 go_wp2_with fail
 refine(Qr HR.out (by decide)).mono ?_;rintro en w2 ⟨x,rfl,hx,hb2⟩;obtain⟨pc,nc,cc,rfl,y1,y2⟩:=hx;have hbn:=HBX.out.below hb2 HBX.out.lt;have k1:=hbn.cell;have f1:=hbn.free;have z1:=hbn.lt;clear c0 cq c2 c3;go_wp2;exact bodyPost_ret (v:=.agg #[.slice pc nc cc]) (by simp[results,Tryz.results43,go_sem,k1]) rfl ⟨_,rfl,Fit.of (y1.store hbn _) y2,(Ae HB.out hb2).setCell (by simp) _⟩
theorem kR {w:World}{b P Q G H:Nat}(h:Bb w b P Q G H) :
  Calls Tryz.prog 77 #[.pointer (some ⟨b,0,none⟩)] w fun e w'=>∃x,e=.returned x/\Fit 33 H x w'/\Below w.heap.size w w':=by
 have hb1:=Af.made w (.slice none 0 0);have hbel:Below w.heap.size w (w.alloc (.cells #[.slice none 0 0] 36)):=By;obtain⟨wa,hwa⟩:∃wa,w.alloc (.cells #[.slice none 0 0] 36)=wa:=⟨_,rfl⟩
 rw[hwa]at hb1 hbel
 obtain⟨rp,rq,pg,ng,cg,ph,nh,ch,h1,h2,h3,h4,h5,h6,h7⟩:=(h.below hbel).ex;obtain⟨c0,cq,c2,c3⟩:=Cp h1;have HR:=Aa (Fit.of h6 h7);have HBX:=Aa hb1;have HB:=Aa hbel;clear h h1 h2 h3 h4 h5 h6 h7 hb1 hbel;go_enter Tryz.func77,Tryz.ntmps77
 go_wp2_with fail
 refine(Dw wa b).mono ?_;rintro en w1 ⟨rfl,rfl⟩
 go_wp2_with fail
 refine(Qr HR.out (by decide)).mono ?_;rintro en w2 ⟨x,rfl,hx,hb2⟩;obtain⟨pc,nc,cc,rfl,y1,y2⟩:=hx;have hbn:=HBX.out.below hb2 HBX.out.lt;have k1:=hbn.cell;have f1:=hbn.free;have z1:=hbn.lt;clear c0 cq c2 c3;go_wp2;exact bodyPost_ret (v:=.agg #[.slice pc nc cc]) (by simp[results,Tryz.results77,go_sem,k1]) rfl ⟨_,rfl,Fit.of (y1.store hbn _) y2,(Ae HB.out hb2).setCell (by simp) _⟩
theorem Kd {w:World}{b P Q G H:Nat}(h:Bb w b P Q G H) :
  Calls Tryz.prog 20 #[.pointer (some ⟨b,0,none⟩)] w fun e w'=>∃r,e=.returned (.pointer (some ⟨r,0,none⟩))/\Ring w' r Q 33/\Below w.heap.size w w':=by
 have hq:=h.lims.2.2.1;obtain⟨rp,rq,pg,ng,cg,ph,nh,ch,h1,h2,h3,h4,h5,h6,h7⟩:=h.ex;obtain⟨c0,cq,c2,c3⟩:=Cp h1;have HR:=Aa h3;clear h h1 h2 h3 h4 h5 h6 h7;go_enter Tryz.func20,Tryz.ntmps20
 go_wp2_with fail
 refine(Dw w b).mono ?_;rintro en w1 ⟨rfl,rfl⟩
 go_wp2_with fail
 refine(Ei HR.out).mono ?_;rintro en w2 ⟨x,rfl,hx,hb2⟩;have HX:=Aa hx;have HB2:=Aa hb2;clear hx hb2 c0 cq c2 c3
 go_wp2_with fail
 refine(Hu HX.out (by decide)).mono ?_;rintro en w3 ⟨hb3,hh⟩;rcases hh with ⟨hl,_⟩|⟨_,r,rfl,hr,_⟩
 .omega
 have HR3:=Aa hr;have HB3:=Aa (Ae HB2.out hb3);clear hr hb3;go_wp2;go_ret;exact⟨r,rfl,HR3.out,HB3.out⟩
theorem gL {w:World}{b P Q G H:Nat}(h:Bb w b P Q G H) :
  Calls Tryz.prog 215 #[.pointer (some ⟨b,0,none⟩)] w fun e w'=>e=.returned (.int .i64 (Al P:Nat))/\Below w.heap.size w w':=by
 have HG:=Aa h;clear h;go_enter Tryz.func215,Tryz.ntmps215
 go_wp2_with fail
 refine(Wy HG.out).mono ?_;rintro en w1 ⟨x,rfl,hx,hb1⟩;have HX:=Aa hx;have HB1:=Aa hb1;clear hx hb1
 go_wp2_with fail
 refine(Lu HX.out (by decide)).mono ?_;rintro en w2 ⟨rfl,hb2⟩;have HB2:=Aa (Ae HB1.out hb2);clear hb2;go_wp2;go_ret;exact⟨rfl,HB2.out⟩
theorem cK (w:World):Calls Tryz.prog 20 #[.pointer none] w fun e w'=>e=.returned (.pointer none)/\Below w.heap.size w w':=by
 go_enter Tryz.func20,Tryz.ntmps20
 go_wp2_with fail
 refine(bQ w).mono ?_;rintro en w1 ⟨b,rfl,hn,hb1⟩;obtain⟨c0,c1⟩:=hn.cells;have HB1:=Aa hb1;clear hn hb1
 go_wp2_with fail
 refine(Ql w1).mono ?_;rintro en w2 ⟨rfl,hb2⟩;have HB2:=Aa (Ae HB1.out hb2);have HF:=Aa (oH w2);clear hb2 c0 c1
 go_wp2_with fail
 refine(Hu HF.out (by decide)).mono ?_;rintro en w3 ⟨hb3,hh⟩;rcases hh with ⟨_,rfl⟩|⟨hl,_⟩
 .have HB3:Ad _:=⟨Ae HB2.out hb3⟩
  clear hb3;go_wp2;go_ret;exact⟨rfl,HB3.out⟩
 .omega
end Go.Proofs.YtnbmfaihlefgfaaGreatDoor
