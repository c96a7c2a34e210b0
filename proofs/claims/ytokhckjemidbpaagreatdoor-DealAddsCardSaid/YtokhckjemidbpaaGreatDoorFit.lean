/- Contracts as the laws use them. -/
import Derived.Test.YtokhckjemidbpaaGreatDoorNatD
import Derived.Deep.QuietTactic
import Derived.BigQuiet
import Derived.Lib.Tables
import Derived.Lib.BitFns
import Derived.RangeFuncNested
import Derived.Test.YtokhckjemidbpaaGreatDoorFlowR
import Derived.Laws.BytesArg
import Derived.Laws.BytesString
import Derived.WideShapes
set_option maxRecDepth 1000000
set_option maxHeartbeats 16000000
set_option linter.all false
namespace Go.Proofs.YtokhckjemidbpaaGreatDoor
open Go Go.RowKit Go.Proofs.YtokhckjemidbpaaGreatDoor.Flow
theorem Nl (h l:Nat)(hh:h<4294967296)(hl:l<4294967296):bits BinOp.or IntKind.u64 ((h:Int)*4294967296) (l:Int)=((h*4294967296+l:Nat):Int):=by
 have e:(h:Int)*4294967296=((h*4294967296:Nat):Int):=by omega
 rw[e,u64_or_nat _ _ (by omega) (by omega),nat_join 32 (h*4294967296) l (by omega) (by omega)]
theorem aN (hi lo y:Nat)(w:World)(h1:hi<y)(h2:lo<4294967296)(h3:y<4294967296) :
  Calls Tryz.prog 200 #[.int .u32 hi,.int .u32 lo,.int .u32 y] w fun e w'=>
   e=.returned (.tuple #[.int .u32 ((hi*4294967296+lo)/y:Nat),.int .u32 ((hi*4294967296+lo)%y:Nat)])/\Below w.heap.size w w':=by
 have hy0:((y:Int)==0)=false:=by rw[beq_eq_false_iff_ne];omega
 have hy1:((y:Int)!=0)=true:=by rw[bne_iff_ne];omega
 have hlt:decide ((y:Int)<=hi)=false:=by simp;omega
 go_enter Tryz.func200,Tryz.ntmps200;go_wp2;rw[Nl hi lo (by omega) h2];obtain⟨z,hz⟩:∃z,hi*4294967296+lo=z:=⟨_,rfl⟩
 rw[hz];have hz1:z<18446744073709551616:=by omega
 have hz2:z<4294967296*y:=by
  have:=Nat.mul_le_mul_left 4294967296 (Nat.succ_le_of_lt h1);omega
 have hq:z/y<4294967296:=(Nat.div_lt_iff_lt_mul (by omega)).2 hz2;have hr:z%y<y:=Nat.mod_lt _ (by omega);have hq':(z:Int)/y<4294967296:=by rw[<-Int.natCast_ediv];omega
 have hr':(z:Int)%y<y:=by rw[<-Int.natCast_emod];omega
 have hq0:0<=(z:Int)/y:=by rw[<-Int.natCast_ediv];exact Int.natCast_nonneg _
 have hr0:0<=(z:Int)%y:=by rw[<-Int.natCast_emod];exact Int.natCast_nonneg _
 have HZ:=Ai hz;clear hz
 go_quiet (fail)
 go_wp2
 go_ret2
 refine⟨?_,below_drewN (Ba _ _) _⟩;rw[HZ.out];simp[Int.natCast_ediv,Int.natCast_emod]
def Dk (ws:List Nat)(y:Nat):Nat->List Nat×Nat
 | 0=>([],0)
 | k+1=>((((Dk ws y k).2*4294967296+ws.getD (ws.length-1-k) 0)/y)::(Dk ws y k).1,((Dk ws y k).2*4294967296+ws.getD (ws.length-1-k) 0)%y)
theorem Mz (ws:List Nat)(y:Nat)(hw:Words ws)(hy:0<y):∀k,k<=ws.length->(Dk ws y k).1.length=k/\Words (Dk ws y k).1/\(Dk ws y k).2<y /\
  val (ws.drop (ws.length-k))=val (Dk ws y k).1*y+(Dk ws y k).2
 | 0,_=>by simp[Dk,Words.nil,val,hy]
 | k+1,hk=>by
  obtain⟨h1,h2,h3,h4⟩:=Mz ws y hw hy k (by omega);have hx:=hw.get (ws.length-1-k);have hd:ws.drop (ws.length-(k+1))=ws.getD (ws.length-1-k) 0::ws.drop (ws.length-k):=by
   rw[List.drop_eq_getElem_cons (by omega),Dn];have e:ws.length-(k+1)=ws.length-1-k:=by omega
   simp only[e,List.getElem?_eq_getElem (show ws.length-1-k<ws.length by omega),Option.getD_some]
   congr 2;omega
  simp only[Dk];rw[hd];generalize ws.getD (ws.length-1-k) 0=x at *;generalize (Dk ws y k).1=Q at *;generalize (Dk ws y k).2=r at *;have hdm:=Nat.div_add_mod (r*4294967296+x) y;have hm:=Nat.mod_lt (r*4294967296+x) hy;have hq:(r*4294967296+x)/y<4294967296:=by
   rw[Nat.div_lt_iff_lt_mul hy];have:=Nat.mul_le_mul_left 4294967296 (Nat.succ_le_of_lt h3);omega
  generalize (r*4294967296+x)/y=q at *;generalize (r*4294967296+x)%y=s at *;refine⟨by simp[h1],?_,hm,?_⟩
  .intro z hz;rcases List.mem_cons.1 hz with rfl|hz
   .exact hq
   .exact h2 z hz
  .simp only[val];rw[h4,Nat.add_mul];have e1:4294967296*val Q*y=4294967296*(val Q*y):=Nat.mul_assoc _ _ _;have e2:y*q=q*y:=Nat.mul_comm _ _;omega
theorem Tv (w:World)(p:Option Addr)(n c:Nat)(ws:List Nat)(y:Nat)(h:Row w .u32 p n c ws)(hw:Words ws)(hn:n<1000000)(hy0:0<y)(hy:y<4294967296) :
  Calls Tryz.prog 154 #[.slice p n c,.int .u32 y] w fun e w'=>∃q d,e=.returned (.tuple #[.slice q n d,.int .u32 (val ws%y:Nat)]) /\
   Row w' .u32 q n d (Dk ws y n).1/\Below w.heap.size w w'/\Gw w.heap.size q:=by
 have HL:=Ai h.len;have hmk:=Hf n (by omega);go_enter Tryz.func154,Tryz.ntmps154;go_wp2
 go_loopw [7,8] (fun r i wr=>∃k m:Nat,k+m<=n/\n<=k+m/\i=.int .i64 ((m:Int)-1)/\r=.int .u32 ((Dk ws y k).2:Nat)/\Below w.heap.size w wr/\Bp wr w.heap.size 129 .u32 (List.replicate m 0++(Dk ws y k).1)) (fun _ i _=>(intOf i+1).toNat)
 case atStart=>
  refine⟨0,n,by omega,by omega,rfl,rfl,(Ba _ _).alloc (Aw _) _,?_⟩;simp only[Dk,List.append_nil];exact Bp.zeros _ _ _ _
 case round=>
  obtain⟨k,m,hkm,hkm2,rfl,rfl,hbw,hblk⟩:=hrel;have hk:k<=ws.length:=by have:=HL.out;omega
  obtain⟨g1,g2,g3,g4⟩:=Mz ws y hw hy0 k hk
  cases m with
  | succ j=>
   have hrow:=h.below hbw;obtain⟨b,off,rfl,hb,hc⟩:=hrow.pos (by omega);obtain⟨x,hx⟩:∃x,ws.getD j 0=x:=⟨_,rfl⟩
   have hcx:wr.cell? ⟨b,off+j,none⟩=some (.int .u32 (x:Nat)):=hc _ _ (by
    rw[<-hx,Dn];simp[show j<ws.length by have:=HL.out;omega])
   have hx1:x<4294967296:=by rw[<-hx];exact hw.get _
   have hstep:Hid ((Dk ws y (k+1))=(((Dk ws y k).2*4294967296+x)/y::(Dk ws y k).1,((Dk ws y k).2*4294967296+x)%y)):=by
    have e:ws.length-1-k=j:=by have:=HL.out;omega
    show Dk ws y (k+1)=_;rw[Dk,e,hx]
   clear hc hx g4;generalize hQ:(Dk ws y k).1=Q at *;generalize hR:(Dk ws y k).2=r at *;have hcl:wr.cell? ⟨w.heap.size,j,none⟩=some (.int .u32 (0:Nat)):=hblk.cell (by rw[List.getElem?_append_left (by simp)];simp);have hfr:=hblk.free j;have hset:Hid (∀v,Bp (wr.setCell ⟨w.heap.size,j,none⟩ (.int .u32 ((v:Nat)))) w.heap.size 129 .u32 (List.replicate j 0++(v::Q))):=fun v=>by
    have h5:=hblk.set j v;rw[List.set_append_left _ _ (by simp),List.replicate_succ',List.set_append_right _ _ (by simp)]at h5
    simpa using h5
   have e1:(((j+1:Nat):Int)-1)=(j:Int):=by omega
   simp only[e1];clear e1 hQ hR;have hgl:=hblk.lt
   go_wp2_with fail
   refine(aN r x y _ g3 hx1 hy).mono ?_;rintro e w2 ⟨rfl,hb2⟩;have hcl2:=((Cp hb2).1 _ j hgl).trans hcl;have hfr2:=((Cp hb2).2 _ j hgl).trans hfr;go_wp2;go_roundw
   case rel=>
    have ed:((r:Int)*4294967296+x)/y=(((r*4294967296+x)/y:Nat):Int):=by simp[Int.natCast_ediv]
    have em:((r:Int)*4294967296+x)%y=(((r*4294967296+x)%y:Nat):Int):=by simp[Int.natCast_emod]
    rw[ed,em];refine⟨k+1,j,by omega,by omega,rfl,by rw[hstep.out],(hbw.trans (hb2.mono hbw.size)).setCell (Aw _) _,?_⟩;rw[hstep.out];have h6:=(hset.out ((r*4294967296+x)/y))
    have h7:=h6;unfold Bp at h7 ⊢;have h8:(w2.setCell ⟨w.heap.size,j,none⟩ (.int .u32 (((r*4294967296+x)/y:Nat)))).heap[w.heap.size]? = (wr.setCell ⟨w.heap.size,j,none⟩ (.int .u32 (((r*4294967296+x)/y:Nat)))).heap[w.heap.size]? := by
     simp only[World.setCell,Array.getElem?_modify,if_true];rw[hb2.block _ hgl]
    rw[h8];exact h7
   case measure=>simp[intOf]
  | zero=>
   have hkn:k=n:=by omega
   have HK:=Ai hkn;rw[hkn,List.replicate_zero,List.nil_append]at hblk
   have hrow:=hblk.row (n:=n) (c:=n) (by rw[<-hkn];exact g1.symm) (Aw _) (by omega);have hv:(Dk ws y k).2=val ws%y:=by
    have e0:ws.length-k=0:=by have:=HL.out;omega
    rw[e0,List.drop_zero]at g4
    rw[g4,Nat.mul_comm,Nat.mul_add_mod,Nat.mod_eq_of_lt g3]
   have HV:=Ai hv;clear hv hkn g1 g2 g3 g4;go_wp2
   go_ret2
   refine⟨_,_,?_,hrow,hbw,fun q hq=>by cases hq;exact Aw _⟩;rw[<-HV.out];rfl
structure Hj (w wr:World) (u0 u1 u2 u3:Value):Prop where
 bel:Below w.heap.size w wr
 size:w.heap.size+4<=wr.heap.size
 c0:wr.cell? ⟨w.heap.size,0,none⟩=some u0
 c1:wr.cell? ⟨w.heap.size+1,0,none⟩=some u1
 c2:wr.cell? ⟨w.heap.size+1+1,0,none⟩=some u2
 c3:wr.cell? ⟨w.heap.size+1+1+1,0,none⟩=some u3
 f0:wr.frozen? ⟨w.heap.size,0,none⟩=false
 f1:wr.frozen? ⟨w.heap.size+1,0,none⟩=false
 f2:wr.frozen? ⟨w.heap.size+1+1,0,none⟩=false
 f3:wr.frozen? ⟨w.heap.size+1+1+1,0,none⟩=false
theorem Hj.below {w wr w1:World}{u0 u1 u2 u3:Value}(h:Hj w wr u0 u1 u2 u3){B:Nat}(hb:Below B wr w1)(hB:w.heap.size+4<=B):Hj w w1 u0 u1 u2 u3:=by
 obtain⟨hc,hf⟩:=Cp hb;refine⟨h.bel.trans (hb.mono (by omega)),Er h.size hb.size,?_,?_,?_,?_,?_,?_,?_,?_⟩
 .rw[hc _ _ (by omega)];exact h.c0
 .rw[hc _ _ (by omega)];exact h.c1
 .rw[hc _ _ (by omega)];exact h.c2
 .rw[hc _ _ (by omega)];exact h.c3
 .rw[hf _ _ (by omega)];exact h.f0
 .rw[hf _ _ (by omega)];exact h.f1
 .rw[hf _ _ (by omega)];exact h.f2
 .rw[hf _ _ (by omega)];exact h.f3
theorem Hj.later {w wr w1:World}{u0 u1 u2 u3:Value}(h:Hj w wr u0 u1 u2 u3)(hb:Below wr.heap.size wr w1):Hj w w1 u0 u1 u2 u3:=h.below hb h.size
theorem Hj.mk4 (w:World)(u0 u1 u2 u3:Value)(t0 t1 t2 t3:TypeId) :
  Hj w ((((w.alloc (.cells #[u0] t0)).alloc (.cells #[u1] t1)).alloc (.cells #[u2] t2)).alloc (.cells #[u3] t3)) u0 u1 u2 u3:=by
 refine⟨?_,by simp,by simp[go_sem],by simp[go_sem],by simp[go_sem],by simp[go_sem],by simp[go_sem],by simp[go_sem],by simp[go_sem],by simp[go_sem]⟩;exact((((Ba _ _).alloc (Aw _) _).alloc (by simp) _).alloc (by simp;omega) _).alloc (by simp;omega) _
def Et (Q:List Nat)(B:Nat)(v:Value)(w:World):Prop:=∃q n d,v=.slice q n d/\Row w .u32 q n d Q/\Gw B q
theorem Et.below {bs:List Nat}{B:Nat}{v:Value}{w w':World}(h:Et bs B v w)(hb:Below w.heap.size w w'):Et bs B v w' :=
 let ⟨q,n,d,h1,h2,h3⟩:=h
 ⟨q,n,d,h1,h2.below hb,h3⟩
def Th (N M:Nat)(w:World)(e:Ending)(w':World):Prop:=∃p n c q m d,e=.returned (.tuple #[.agg #[.slice p n c],.agg #[.slice q m d],.int .i64 (if M=0 then 5 else 0)]) /\
 Ag w' p n c (N/M)/\Ag w' q m d (if M=0 then 0 else N%M)/\Below w.heap.size w w'/\Gw w.heap.size p/\Gw w.heap.size q
theorem Ag.nil (w:World):Ag w none 0 0 0:=⟨[],Row.nil _ _,Words.nil,by simp,by simp[val]⟩
theorem Vm (w:World)(pa:Option Addr)(na ca N:Nat)(pb:Option Addr)(nb cb M:Nat)(hA:Ag w pa na ca N)(hB:Ag w pb nb cb M)(hs:na<1000000)(hsb:nb<1000000)(hone:nb<=1 ∨ N<M) :
  Calls Tryz.prog 93 #[.agg #[.slice pa na ca],.agg #[.slice pb nb cb]] w (Th N M w):=by
 have hbx:=Hj.mk4 w (.slice pa na ca) (.slice pb nb cb) (.slice none 0 0) (.slice none 0 0) 37 37 37 37
 by_cases hz:nb=0
 .have hM:M=0:=hB.zero.1 hz;have HM:=Ai hM;have hdz:decide (nb=0)=true:=by simp[hz]
  clear hz hM;go_enter Tryz.func93,Tryz.ntmps93
  go_wp2_with fail
  refine(Dp _ pb nb cb).mono ?_;rintro e w1 ⟨rfl,hb1⟩;have hbx1:=hbx.later hb1;have c0:=hbx1.c0;have c1:=hbx1.c1;have c2:=hbx1.c2;have c3:=hbx1.c3;have f2:=hbx1.f2;have f3:=hbx1.f3;rw[hdz];have hz1:=hbx1.size;go_wp2;refine bodyPost_ret (v:=.tuple #[.agg #[.slice none 0 0],.agg #[.slice none 0 0],.int .i64 5]) (by simp[results,Tryz.results93,go_sem,c2,c3]) rfl ⟨none,0,0,none,0,0,by simp[HM.out],?_,?_,?_,Gw.none _,Gw.none _⟩
  .rw[HM.out,Nat.div_zero];exact Ag.nil _
  .rw[if_pos HM.out];exact Ag.nil _
  .exact(hbx1.bel.setCell (by simp;omega) _).setCell (by simp;omega) _
 .have hM:M≠0:=fun h=>hz (hB.zero.2 h)
  have HM:=Ai hM;have HZ:=Ai hz;have hdz:decide (nb=0)=false:=by simp[hz]
  clear hz hM
  by_cases hlt:N<M
  .have hcm:Bm N M = -1:=Eb hlt;have HLT:=Ai hlt;clear hlt;go_enter Tryz.func93,Tryz.ntmps93
   go_wp2_with fail
   refine(Dp _ pb nb cb).mono ?_;rintro e w1 ⟨rfl,hb1⟩;have hbx1:=hbx.later hb1;have c0:=hbx1.c0;have c1:=hbx1.c1;rw[hdz]
   go_wp2_with fail
   refine(Gy _ pa pb na ca N nb cb M (hA.below hbx1.bel) (hB.below hbx1.bel) hs hsb).mono ?_;rintro e w2 ⟨rfl,hb2⟩;rw[hcm];have hbx2:=hbx1.later hb2;clear c0 c1;have c0:=hbx2.c0;have c1:=hbx2.c1
   go_wp2_with fail
   refine(Qn _ pa na ca N (hA.below hbx2.bel) hs).mono ?_;rintro e w3 ⟨p,n,c,rfl,hn,hb3,hp⟩;have hbx3:=hbx2.later hb3;clear c0 c1;have c2:=hbx3.c2;have c3:=hbx3.c3;have f2:=hbx3.f2;have f3:=hbx3.f3;have hz3:=hbx3.size;have hz2:=hbx2.size;go_wp2;refine bodyPost_ret (v:=.tuple #[.agg #[.slice none 0 0],.agg #[.slice p n c],.int .i64 0]) (by simp[results,Tryz.results93,go_sem,c2,c3]) rfl ⟨none,0,0,p,n,c,by simp[HM.out],?_,?_,?_,Gw.none _,hp.mono (by omega)⟩
   .rw[Nat.div_eq_of_lt HLT.out];exact Ag.nil _
   .rw[if_neg HM.out,Nat.mod_eq_of_lt HLT.out];exact(hn.setCell (a:=⟨w.heap.size+1+1,0,none⟩) (hp.ne (show w.heap.size+1+1<w2.heap.size by omega)) _).setCell (a:=⟨w.heap.size+1+1+1,0,none⟩) (hp.ne (show w.heap.size+1+1+1<w2.heap.size by omega)) _
   .exact(hbx3.bel.setCell (by simp;omega) _).setCell (by simp;omega) _
  .have hcm:decide (Bm N M<0)=false:=by
    have:¬Bm N M<0:=by unfold Bm;rw[if_neg hlt];split<;>omega
    simpa using this
   have HCM:=Ai hcm;have hn1:nb=1:=by
    have:=HZ.out;rcases hone with h|h
    .omega
    .exact absurd h hlt
   clear hcm hlt hone;subst hn1;obtain⟨A,a1,a2,a3,rfl⟩:=hA.ex;obtain⟨B,b1,b2,b3,rfl⟩:=hB.ex;obtain⟨y,rfl⟩:∃y,B=[y]:=List.length_eq_one_iff.1 b1.len.symm;have hv:val [y]=y:=by simp[val]
   have hy:y<4294967296:=b2 y (by simp);have hy0:0<y:=by have:=HM.out;rw[hv]at this;omega
   have HV:=Ai hv;clear hv;obtain⟨b,off,rfl,hbl,hcell⟩:=b1.pos (by omega);go_enter Tryz.func93,Tryz.ntmps93
   go_wp2_with fail
   refine(Dp _ _ _ _).mono ?_;rintro e w1 ⟨rfl,hb1⟩;have hbx1:=hbx.later hb1;have c0:=hbx1.c0;have c1:=hbx1.c1;rw[hdz]
   go_wp2_with fail
   refine(Gy _ pa _ na ca _ _ cb _ (hA.below hbx1.bel) (hB.below hbx1.bel) hs hsb).mono ?_;rintro e w2 ⟨rfl,hb2⟩;have hbx2:=hbx1.later hb2;have hcm:=HCM.out;clear c0 c1;have c0:=hbx2.c0;have c1:=hbx2.c1;have cy:w2.cell? ⟨b,off,none⟩=some (.int .u32 (y:Nat)):=by
    rw[(Cp hbx2.bel).1 _ _ hbl];simpa using hcell 0 y rfl
   go_wp2;obtain⟨rr,hrr⟩:∃r,val A%y=r:=⟨_,rfl⟩
   have hr:rr<y:=by rw[<-hrr];exact Nat.mod_lt _ hy0
   have HR:=Ai hrr;clear hrr;obtain⟨g1,g2,g3,g4⟩:=Mz A y a2 hy0 na (by have:=a1.len;omega);have hq1:val (Dk A y na).1=val A/val [y]:=by
    have e0:A.length-na=0:=by have:=a1.len;omega
    rw[e0,List.drop_zero]at g4
    rw[HV.out,g4,Nat.mul_comm,Nat.mul_add_div hy0,Nat.div_eq_of_lt g3,Nat.add_zero]
   have HQ:=Ai hq1;clear hq1 g1 g3 g4;generalize hQ:(Dk A y na).1=Q at *;have HQQ:=Ai hQ;clear hQ;refine Ak (by kernel_rfl) (by kernel_rfl)
    [some (.pointer (some ⟨w.heap.size,0,none⟩)),some (.slice pa na ca),some (.pointer (some ⟨w.heap.size+1,0,none⟩)),some (.slice (some ⟨b,off,none⟩) 1 cb),some (.pointer (some ⟨b,off,none⟩)),some (.int .u32 y),none,none,none,none,none,none]
    [false,false,false,false,false,false,true,true,true,true,true,true] rfl
    (fun w1 w2=>Below w1.heap.size w1 w2)
    (fun _ w'=>Hj w w' (.slice pa na ca) (.slice (some ⟨b,off,none⟩) 1 cb) (.slice none 0 0) (.slice none 0 0))
    (fun i v w'=>match i with
     | 6|7=>∃u,v=.tuple #[u,.int .u32 (rr:Nat)]/\Et Q (w.heap.size+4) u w'
     | 8|10=>Et Q (w.heap.size+4) v w'
     | _=>v=.int .u32 (rr:Nat))
    ?_ (hbx2.below (Ba _ _).drew (Aw _)) ?_ ?_
   .intro i v w1 w2 hf hb;split at hf
    .exact hf.imp fun u h=>⟨h.1,h.2.below hb⟩
    .exact hf.imp fun u h=>⟨h.1,h.2.below hb⟩
    .exact hf.below hb
    .exact hf.below hb
    .exact hf
   .simp only[Bb,Nat.reduceAdd];refine⟨?_,?_,?_,?_,?_,?_,?_,?_,?_,?_,?_,?_,trivial⟩
    case refine_7=>
     intro D sp w' hD hW hdp hbx'
     (with_reducible refine Ac (w1:=w') (f := 154) (args:=#[.slice pa na ca,.int .u32 y]) ?_ ?_ ?_)
     .simp only[Region.wanted]
     .simp[Act.eval,Act.put,go_sem]
     .refine(Tv w' pa na ca A y (a1.below hbx'.bel) a2 hs hy0 hy).mono ?_;rintro e w3 ⟨q,d,rfl,hrow,hb,hq⟩;rw[HQQ.out]at hrow
      rw[HR.out];exact⟨_,rfl,hb,⟨_,rfl,q,na,d,rfl,hrow,hq.mono (by have:=hbx'.size;omega)⟩,hbx'.later hb⟩
    case refine_8=>
     intro D sp w' hD hW hdp hbx';have hx:∃u,sp 6=.tuple #[u,.int .u32 (rr:Nat)]/\Et Q (w.heap.size+4) u w':=(hdp 6 (mq (by kernel_rfl))).2
     (with_reducible refine Av hx fun u hu=>?_)
     have h1:=hu.1;have h2:=hu.2
     (with_reducible refine Ah (w1:=w') (v:=.tuple #[u,.int .u32 (rr:Nat)]) ?_ ?_ ?_)
     .simp only[Region.wanted]
     .simp[execOp,Act.eval,Act.put,go_sem,h1]
     .exact⟨Ba _ _,⟨u,rfl,h2⟩,hbx'⟩
    case refine_9=>
     intro D sp w' hD hW hdp hbx';have hx:∃u,sp 7=.tuple #[u,.int .u32 (rr:Nat)]/\Et Q (w.heap.size+4) u w':=(hdp 7 (mq (by kernel_rfl))).2
     (with_reducible refine Av hx fun u hu=>?_)
     have h1:=hu.1;have h2:=hu.2
     (with_reducible refine Ah (w1:=w') (v:=u) ?_ ?_ ?_)
     .simp only[Region.wanted]
     .simp[execOp,Act.eval,Act.put,go_sem,h1]
     .exact⟨Ba _ _,h2,hbx'⟩
    case refine_10=>
     intro D sp w' hD hW hdp hbx';have hx:∃u,sp 7=.tuple #[u,.int .u32 (rr:Nat)]/\Et Q (w.heap.size+4) u w':=(hdp 7 (mq (by kernel_rfl))).2
     (with_reducible refine Av hx fun u hu=>?_)
     have h1:=hu.1
     (with_reducible refine Ah (w1:=w') (v:=.int .u32 (rr:Nat)) ?_ ?_ ?_)
     .simp only[Region.wanted]
     .simp[execOp,Act.eval,Act.put,go_sem,h1]
     .exact⟨Ba _ _,rfl,hbx'⟩
    case refine_11=>
     intro D sp w' hD hW hdp hbx';have h2:Et Q (w.heap.size+4) (sp 8) w':=(hdp 8 (mq (by kernel_rfl))).2
     (with_reducible refine Ah (w1:=w') (v:=sp 8) ?_ ?_ ?_)
     .simp only[Region.wanted]
     .simp[execOp,Act.eval,Act.put,go_sem]
     .exact⟨Ba _ _,h2,hbx'⟩
    case refine_12=>
     intro D sp w' hD hW hdp hbx';have h2:sp 9=.int .u32 (rr:Nat):=(hdp 9 (mq (by kernel_rfl))).2
     (with_reducible refine Ah (w1:=w') (v:=.int .u32 (rr:Nat)) ?_ ?_ ?_)
     .simp only[Region.wanted]
     .simp[execOp,Act.eval,Act.put,go_sem,h2]
     .exact⟨Ba _ _,rfl,hbx'⟩
    all_goals
     intro D sp w' hD hW hdp hbx';have c0:=hbx'.c0;have c1:=hbx'.c1;have cy:w'.cell? ⟨b,off,none⟩=some (.int .u32 (y:Nat)):=by
      rw[(Cp hbx'.bel).1 _ _ hbl];simpa using hcell 0 y rfl
     simp[asked,Region.wanted,Oper.gives,execOp,Act.eval,Act.put,go_sem,c0,c1,cy]
   .intro sp w' hsp hbx';have h10:Et Q (w.heap.size+4) (sp 10) w':=hsp 10 rfl;have h11:sp 11=.int .u32 (rr:Nat):=hsp 11 rfl;clear hsp;simp only[Al,Nat.reduceAdd];rw[h11];obtain⟨q,n,d,h1,hq,hqn⟩:=h10;rw[h1];generalize sp 6=u6,sp 7=u7,sp 8=u8,sp 9=u9 at *
    go_simp
    have h4:=hbx'.size;have f2:=hbx'.f2;have f3:=hbx'.f3
    go_wp2_with fail
    refine(Ce _ _ _ _ _ hq g2).mono ?_;rintro e w3 ⟨p,n1,c1,rfl,hn,hb3,hp⟩;rw[HQ.out]at hn
    have hbx3:=hbx'.later hb3
    go_wp2_with fail
    refine(Cd rr w3 (by omega)).mono ?_;rintro e w4 ⟨p2,n2,d2,rfl,hn2,hb4,hp2⟩;have hbx4:=hbx3.later hb4;have hnn:=hn.below hb4;have hpn:Gw (w.heap.size+4) p:=by
     rcases hp with rfl|rfl
     .exact Gw.none _
     .exact hqn
    have hp2n:Gw (w.heap.size+4) p2:=hp2.mono hbx3.size;clear f2 f3 h4;have c2:=hbx4.c2;have c3:=hbx4.c3;have f2:=hbx4.f2;have f3:=hbx4.f3;have h4:=hbx4.size;go_wp2;refine bodyPost_ret (v:=.tuple #[.agg #[.slice p n1 c1],.agg #[.slice p2 n2 d2],.int .i64 0]) (by simp[results,Tryz.results93,go_sem,c2,c3]) rfl ⟨p,n1,c1,p2,n2,d2,by simp[HM.out],?_,?_,?_,hpn.mono (by omega),hp2n.mono (by omega)⟩
    .exact(hnn.setCell (a:=⟨w.heap.size+1+1,0,none⟩) (hpn.ne (show w.heap.size+1+1<w.heap.size+4 by omega)) _).setCell (a:=⟨w.heap.size+1+1+1,0,none⟩) (hpn.ne (show w.heap.size+1+1+1<w.heap.size+4 by omega)) _
    .rw[if_neg HM.out,HV.out,HR.out];exact(hn2.setCell (a:=⟨w.heap.size+1+1,0,none⟩) (hp2n.ne (show w.heap.size+1+1<w.heap.size+4 by omega)) _).setCell (a:=⟨w.heap.size+1+1+1,0,none⟩) (hp2n.ne (show w.heap.size+1+1+1<w.heap.size+4 by omega)) _
    .exact(hbx4.bel.setCell (by simp;omega) _).setCell (by simp;omega) _
open Go Go.RowKit
structure Tg (W X:List Nat) (t k:Nat) (S:List Nat) (cy:Nat):Prop where
 len:S.length=k
 words:Words S
 carry:cy<4294967296
 eq:val S+An k*cy=val (W.take k)*t+val (X.take k)
theorem Tg.start (W X:List Nat)(t:Nat):Tg W X t 0 [] 0:=⟨rfl,Words.nil,by omega,by simp[val]⟩
theorem Lu {x t:Nat}(hx:x<4294967296)(ht:t<4294967296):x*t<=18446744065119617025:=by
 have:=Nat.mul_le_mul (Nat.le_of_lt_succ (show x<4294967295+1 by omega)) (Nat.le_of_lt_succ (show t<4294967295+1 by omega));omega
theorem Tg.step {W X:List Nat}{t k:Nat}{S:List Nat}{cy:Nat}(h:Tg W X t k S cy)(hW:Words W)(hX:Words X)(ht:t<4294967296) :
  Tg W X t (k+1) (S++[(cy+(W.getD k 0*t+X.getD k 0))%4294967296]) ((cy+(W.getD k 0*t+X.getD k 0))/4294967296):=by
 have h1:=hW.get k;have h2:=hX.get k;have h3:=h.carry;have h4:=Lu h1 ht;refine⟨by simp[h.len],h.words.snoc (Nat.mod_lt _ (by omega)),by omega,?_⟩;rw[Dt,h.len,Ay,Ay,Bk];have e:=h.eq;generalize W.getD k 0=x at *;generalize X.getD k 0=y at *;have hd:=Nat.div_add_mod (cy+(x*t+y)) 4294967296;generalize (cy+(x*t+y))/4294967296=q at *;generalize (cy+(x*t+y))%4294967296=r at *;generalize An k=b at *;have e2:b*r+4294967296*b*q=b*(cy+(x*t+y)):=by
  rw[<-hd,Nat.mul_add,Nat.mul_comm 4294967296 b,Nat.mul_assoc,Nat.add_comm]
 have e3:(val (W.take k)+b*x)*t=val (W.take k)*t+b*(x*t):=by rw[Nat.add_mul,Nat.mul_assoc]
 simp only[Nat.mul_add]at e2;omega
def Im (W X:List Nat)(t:Nat):Nat->List Nat×Nat
 | 0=>([],0)
 | k+1=>((Im W X t k).1++[((Im W X t k).2+(W.getD k 0*t+X.getD k 0))%4294967296],((Im W X t k).2+(W.getD k 0*t+X.getD k 0))/4294967296)
theorem Nr {W X:List Nat}{t:Nat}(hW:Words W)(hX:Words X)(ht:t<4294967296):∀k,Tg W X t k (Im W X t k).1 (Im W X t k).2
 | 0=>Tg.start W X t
 | k+1=>(Nr hW hX ht k).step hW hX ht
theorem Bp.mid {w:World}{g:Nat}{e:TypeId}{k:IntKind}{xs S:List Nat}{o i:Nat}(h:Bp w g e k (xs.take o++S++xs.drop (o+i)))(hs:S.length=i)(ho:o+i<xs.length)(x:Nat) :
  w.cell? ⟨g,o+i,none⟩=some (.int k (xs.getD (o+i) 0:Nat))/\Bp (w.setCell ⟨g,o+i,none⟩ (.int k x)) g e k (xs.take o++(S++[x])++xs.drop (o+(i+1))):=by
 have hl:(xs.take o++S).length=o+i:=by simp;omega
 have hd:xs.drop (o+i)=xs.getD (o+i) 0::xs.drop (o+(i+1)):=by
  rw[List.drop_eq_getElem_cons ho,Dn];simp[ho,Nat.add_assoc]
 rw[hd]at h
 constructor
 .refine h.cell ?_;rw[List.getElem?_append_right (by omega),hl];simp
 .have:=h.set (o+i) x;rw[List.set_append_right _ _ (by omega),hl,Nat.sub_self,List.set_cons_zero]at this
  rw[show xs.take o++(S++[x])++xs.drop (o+(i+1))=xs.take o++S++x::xs.drop (o+(i+1)) by simp];exact this
theorem grownBy_refl (w:World)(r:Option Nat):w.grownBy w r:=⟨rfl,rfl,rfl,Aw _,fun _ _ _=>rfl⟩
theorem grownBy_trans {a b c:World}{r:Option Nat}(h:a.grownBy b r)(k:b.grownBy c r):a.grownBy c r :=
 ⟨k.os.trans h.os,k.tape.trans h.tape,k.output.trans h.output,Er h.size k.size,fun i hi hr=>(k.block i (Da hi h.size) hr).trans (h.block i hi hr)⟩
theorem grownBy_setCell (w:World)(g i:Nat)(u:Value):w.grownBy (w.setCell ⟨g,i,none⟩ u) (some g) :=
 ⟨rfl,rfl,rfl,by simp,fun k _ hk=>heap_setCell_other w ⟨g,i,none⟩ k u (fun e=>hk (by simp[e]))⟩
theorem Row.grown {w w':World}{k:IntKind}{p:Option Addr}{n c:Nat}{xs:List Nat}{g:Nat}(h:Row w k p n c xs)(hg:w.grownBy w' (some g))(hp:∀q,p=some q->q.block≠g):Row w' k p n c xs:=by
 refine⟨h.len,h.cap,h.max,?_⟩;rcases h.at_ with h1|⟨b,off,h1,h2,h3⟩
 .exact .inl h1
 .have hne:=hp _ h1;refine .inr ⟨b,off,h1,Da h2 hg.size,fun i x hx=>?_⟩;exact hg.cell (h3 i x hx) (fun e=>hne (Option.some.inj e))
def iZ (W xs:List Nat)(t o g:Nat)(e:TypeId)(w:World)(en:Ending)(w':World):Prop :=
 en=.returned (.int .u32 ((Im W (xs.drop o) t W.length).2:Nat))/\Bp w' g e .u32 (xs.take o++(Im W (xs.drop o) t W.length).1++xs.drop (o+W.length))/\w.grownBy w' (some g)/\w'.heap.size=w.heap.size
theorem Pl (w:World)(g o n c:Nat)(xs:List Nat)(q:Option Addr)(m d:Nat)(W:List Nat)(t:Nat)(hg:Bp w g 129 .u32 xs)(hx:Words xs)(hW:Row w .u32 q m d W)(wW:Words W)(ht:t<4294967296)(hq:∀a,q=some a->a.block≠g)(hm:m<1000000)(ho:o+m<=xs.length)(hn:m<=n)(hc:n<=c)(hc2:c<9223372036854775807) :
  Calls Tryz.prog 158 #[.slice (some ⟨g,o,none⟩) n c,.slice q m d,.int .u32 t] w (iZ W xs t o g 129 w):=by
 have HW:=Ai hW.len;go_enter Tryz.func158,Tryz.ntmps158;go_wp2
 go_loopw [7,12] (fun cy i wr=>∃k y:Nat,∃S,k<=m/\i=.int .i64 k/\cy=.int .u64 y/\Im W (xs.drop o) t k=(S,y)/\Bp wr g 129 .u32 (xs.take o++S++xs.drop (o+k))/\w.grownBy wr (some g)/\wr.heap.size<=w.heap.size) (fun _ i _=>m-(intOf i).toNat)
 case atStart=>exact⟨0,0,[],by omega,rfl,rfl,rfl,by rw[List.append_nil,Nat.add_zero,List.take_append_drop];exact hg,grownBy_refl _ _,Aw _⟩
 case round=>
  obtain⟨k,y,S,hk,rfl,rfl,hS,hblk,hgr,hsz⟩:=hrel;have hst:=Nr wW (hx.drop o) ht k;rw[hS]at hst
  have hy:=hst.carry;have hsl:=hst.len;simp only at hy hsl;have HS:=Ai hS;have HSL:=Ai hsl;clear hS hst hsl
  by_cases hkm:k<m
  .obtain⟨b,off,rfl,hb,hcell⟩:=(hW.grown hgr hq).pos (by omega);obtain⟨x,hxk⟩:∃x,W.getD k 0=x:=⟨_,rfl⟩
   obtain⟨z,hz⟩:∃z,xs.getD (o+k) 0=z:=⟨_,rfl⟩
   have hci:wr.cell? ⟨b,off+k,none⟩=some (.int .u32 (x:Nat)):=hcell k x (by rw[<-hxk,Dn];simp[show k<W.length by have:=HW.out;omega]);have hmid:=fun u=>Bp.mid hblk HSL.out (by omega) u
   have hcz:=(hmid 0).1;rw[hz]at hcz
   have hfz:=hblk.free (o+k);have hx1:x<4294967296:=by rw[<-hxk];exact wW.get k
   have hz1:z<4294967296:=by rw[<-hz];exact hx.get _
   have hp:=Lu hx1 ht;have hp':(x:Int)*t<=18446744065119617025:=by rw[<-Int.natCast_mul];omega
   have hp0:0<=(x:Int)*t:=by rw[<-Int.natCast_mul];omega
   have HX:=Ai hxk;have HZ:=Ai hz;have HM:=Ai (fun u=>(hmid u).2);clear hcell hxk hz hmid hp;go_wp2;go_roundw
   case rel=>
    have hzd:(xs.drop o).getD k 0=z:=by rw[Dn,List.getElem?_drop,<-Dn];exact HZ.out
    refine⟨k+1,(y+(x*t+z))/4294967296,S++[(y+(x*t+z))%4294967296],by omega,by go_num,?_,by rw[Im,HS.out,HX.out,hzd],?_,?_,by simpa using hsz⟩
    .exact congrArg (Value.int .u64) (by rw[<-Int.natCast_mul];omega)
    .have:=HM.out ((y+(x*t+z))%4294967296);have e:(((y+(x*t+z))%4294967296:Nat):Int)=((y:Int)+((x:Int)*t+z))%4294967296:=by rw[<-Int.natCast_mul];omega
     rw[e]at this
     exact this
    .exact grownBy_trans hgr (grownBy_setCell _ _ _ _)
   case measure=>simp[intOf];omega
  .have hkm':m<=k:=by omega
   have hkl:k=W.length:=by have:=HW.out;omega
   have HK:=Ai hkl;clear hkl;go_wp2;go_ret;refine⟨?_,by rw[<-HK.out,HS.out];exact hblk,hgr,Nat.le_antisymm hsz hgr.size⟩;rw[<-HK.out,HS.out];exact congrArg (fun z=>Ending.returned (.int .u32 z)) (by omega)
structure Ng (A B:List Nat) (k:Nat) (X:List Nat):Prop where
 len:X.length=A.length+B.length
 words:Words X
 eq:val X=val (A.take k)*val B
 rest:X.drop (k+B.length)=List.replicate (A.length-k) 0
theorem Ng.start (A B:List Nat):Ng A B 0 (List.replicate (A.length+B.length) 0) :=
 ⟨by simp,Words.zeros _,by rw[Ig];simp[val],by simp⟩
def Gc (A B X:List Nat)(k:Nat):List Nat:=X.take k++(Im B (X.drop k) (A.getD k 0) B.length).1++X.drop (k+B.length)
def Mq (A B X:List Nat)(k:Nat):Nat:=(Im B (X.drop k) (A.getD k 0) B.length).2
theorem Ng.step {A B X:List Nat}{k:Nat}(h:Ng A B k X)(hA:Words A)(hB:Words B)(hk:k<A.length):Ng A B (k+1) ((Gc A B X k).set (k+B.length) (Mq A B X k)):=by
 have hs:=Nr hB (h.words.drop k) (hA.get k) B.length;unfold Gc Mq;generalize (Im B (X.drop k) (A.getD k 0) B.length).1=S at *;generalize (Im B (X.drop k) (A.getD k 0) B.length).2=c at *;have hl:=h.len;have hx:X=X.take k++(X.drop k).take B.length++X.drop (k+B.length):=by
  rw[List.append_assoc,<-List.drop_drop,List.take_append_drop,List.take_append_drop]
 have hpl:(X.take k).length=k:=by simp;omega
 have hml:((X.drop k).take B.length).length=B.length:=by simp;omega
 have e1:val X=val (X.take k)+An k*val ((X.drop k).take B.length):=by
  conv=>lhs;rw[hx]
  rw[val_append,val_append,h.rest,Ig,hpl];simp
 have e2:=hs.eq;rw[List.take_of_length_le (Aw _)]at e2
 have e3:X.take k++S++X.drop (k+B.length)=(X.take k++S)++List.replicate (A.length-k-1+1) 0:=by
  rw[h.rest];congr 2;omega
 have hsl:(X.take k++S).length=k+B.length:=by simp[hs.len];omega
 have e4:(X.take k++S++X.drop (k+B.length)).set (k+B.length) c=X.take k++S++[c]++List.replicate (A.length-k-1) 0:=by
  rw[e3,<-hsl,Pa]
 rw[e4];refine⟨?_,?_,?_,?_⟩
 .simp[hs.len];omega
 .exact(((h.words.take k).append hs.words).snoc hs.carry).append (Words.zeros _)
 .rw[val_append,Ig,Dt,hsl,val_append,hpl,Ay,Nat.add_mul,<-h.eq,e1];have hb:An (k+B.length)=An k*An B.length:=by unfold An;rw[Nat.pow_add]
  rw[hb];generalize An k=b at *;generalize An B.length=b2 at *;generalize A.getD k 0=x at *;have e5:b*(val S+b2*c)=b*(val B*x+val ((X.drop k).take B.length)):=by rw[e2]
  rw[Nat.mul_add,Nat.mul_add]at e5
  have e6:b*x*val B=b*(val B*x):=by rw[Nat.mul_assoc,Nat.mul_comm x]
  have e7:b*b2*c=b*(b2*c):=Nat.mul_assoc _ _ _;omega
 .rw[List.drop_append_of_le_length (by simp[hs.len];omega),List.drop_of_length_le (by simp[hs.len];omega)];simp;omega
theorem nU (w:World)(pa:Option Addr)(na ca:Nat)(A:List Nat)(pb:Option Addr)(nb cb:Nat)(B:List Nat)(hA:Row w .u32 pa na ca A)(wA:Words A)(hB:Row w .u32 pb nb cb B)(wB:Words B)(hs:na<1000000)(hsb:nb<1000000) :
  Calls Tryz.prog 95 #[.agg #[.slice pa na ca],.agg #[.slice pb nb cb]] w (Gj (val A*val B) w):=by
 have HA:=Ai hA.len;have HB:=Ai hB.len;have hmk:∀w,(Instr.makeSlice 35 (.int .i64 ((na:Int)+nb)) (.int .i64 ((na:Int)+nb))).run Tryz.prog w=.ok (.slice (some ⟨w.heap.size,0,none⟩) (na+nb) (na+nb)) (w.alloc (.cells (zeros .u32 (na+nb)) 129)) :=
  fun w=>Hf (na+nb) (by omega) w
 go_enter Tryz.func95,Tryz.ntmps95;go_wp2
 go_loopw [19] (fun i wr=>∃k:Nat,∃X,k<=na/\i=.int .i64 k/\Cl w wr (.slice pa na ca) (.slice pb nb cb) (.slice none 0 0)/\Ng A B k X/\Bp wr (w.heap.size+1+1+1) 129 .u32 X) (fun i _=>na-(intOf i).toNat)
 case atStart=>
  refine⟨0,_,by omega,rfl,Cl.mk' _ _ _ _ _ _ _ _ _,Ng.start A B,?_⟩;have:=Bp.zeros (((w.alloc (.cells #[.slice pa na ca] 37)).alloc (.cells #[.slice pb nb cb] 37)).alloc (.cells #[.slice none 0 0] 37)) 129 .u32 (na+nb);rw[<-HA.out,<-HB.out];simpa using this
 case round=>
  obtain⟨k,X,hk,rfl,hbx,hX,hblk⟩:=hrel;have c0:=hbx.c0;have c1:=hbx.c1;have c2:=hbx.c2;have f2:=hbx.f2
  by_cases hkn:k<na
  .obtain⟨b,off,rfl,hb,hc⟩:=hA.pos (by omega);obtain⟨x,hx⟩:∃x,A.getD k 0=x:=⟨_,rfl⟩
   have hci:wr.cell? ⟨b,off+k,none⟩=some (.int .u32 (x:Nat)):=by
    rw[(Cp hbx.bel).1 _ _ hb];exact hc k x (by rw[<-hx,Dn];simp[show k<A.length by have:=HA.out;omega])
   have HX:=Ai hx;clear hc hx;go_wp2;refine Ak (by kernel_rfl) (by kernel_rfl)
    [some (.slice (some ⟨w.heap.size+1+1+1,0,none⟩) (na+nb) (na+nb)),some (.int .i64 k),some (.pointer (some ⟨w.heap.size+1,0,none⟩)),some (.slice pb nb cb),some (.int .i64 nb),some (.int .i64 ((k:Int)+nb)),
     some (.slice (some ⟨w.heap.size+1+1+1,0,none⟩) (na+nb) (na+nb)),some (.int .i64 k),some (.slice (some ⟨w.heap.size+1+1+1,k,none⟩) (na+nb-k) (na+nb-k)),some (.pointer (some ⟨w.heap.size+1,0,none⟩)),
     some (.slice pb nb cb),some (.int .u32 x),none,some (.pointer (some ⟨w.heap.size+1+1+1,k+nb,none⟩)),none]
    [false,false,false,false,false,false,false,false,false,false,false,false,true,false,true] rfl
    (fun _ _=>True)
    (fun D w'=>Cl w w' (.slice (some ⟨b,off,none⟩) na ca) (.slice pb nb cb) (.slice none 0 0)/\Bp w' (w.heap.size+1+1+1) 129 .u32 (if D 14 then (Gc A B X k).set (k+B.length) (Mq A B X k) else if D 12 then Gc A B X k else X))
    (fun i v _=>i=12->v=.int .u32 (Mq A B X k:Nat))
    (fun _ _ _ _ h _=>h) ⟨hbx.below (Ba _ _).drew (Aw _),hblk⟩ ?_ ?_
   .have hk1:(k:Int)<=(na:Int)+nb:=by omega
    have hk2:¬na+nb=k:=by omega
    have hk3:(k:Int)+nb<(na:Int)+nb:=by omega
    have hk4:IntKind.i64.wrap ((k:Int)+nb)=(k:Int)+nb:=IntWalk.i64_in _ (by omega);have hk5:0<=(k:Int)+nb:=by omega
    have hk6:((k:Int)+nb).toNat=k+nb:=by omega
    have hx4:x<4294967296:=by rw[<-HX.out];exact wA.get k
    have hml:(Gc A B X k).length=na+nb:=by
     have h1:=(Nr wB (hX.words.drop k) (wA.get k) B.length).len;have h2:=hX.len;have h3:=HA.out;have h4:=HB.out;rw[Gc,List.length_append,List.length_append,h1,List.length_take,List.length_drop];omega
    simp only[Bb,Nat.reduceAdd];refine⟨?_,?_,?_,?_,?_,?_,?_,?_,?_,?_,?_,?_,?_,?_,?_,trivial⟩
    case refine_13=>
     intro D sp w' hD hW hdp ⟨hbx',hblk'⟩;have h14:D 14=false:=hW 14 (mq (by kernel_rfl));rw[h14,hD]at hblk'
     simp only[Bool.false_eq_true,if_false]at hblk';refine Ac (w1:=w') (f := 158) (args:=#[.slice (some ⟨w.heap.size+1+1+1,k,none⟩) (na+nb-k) (na+nb-k),.slice pb nb cb,.int .u32 x]) rfl (by simp[Act.eval,Act.put,go_sem]) ?_;refine(Pl w' _ k _ _ X pb nb cb B x hblk' hX.words (hB.below hbx'.bel) wB hx4 (fun a ha=>by have:=hB.lt a ha;omega) hsb (by have:=hX.len;have:=HA.out;have:=HB.out;omega) (by omega) (Aw _) (by omega)).mono ?_;rintro e w2 ⟨he,hb2,hg2,hs2⟩;refine⟨_,he,trivial,fun _=>?_,hbx'.grown hg2 (by omega),?_⟩
     .rw[Mq,HX.out]
     .simp only[h14,Bool.false_or,decide_true,Bool.or_true,if_true];rw[Gc,HX.out];exact hb2
    case refine_15=>
     intro D sp w' hD hW hdp ⟨hbx',hblk'⟩;have hdp12:=hdp 12 (mq (by kernel_rfl));have h12:=hdp12.1;have hs12':=hdp12.2 rfl;rw[h12,hD]at hblk'
     simp only[Bool.false_eq_true,if_false,if_true]at hblk';have hcl:w'.cell? ⟨w.heap.size+1+1+1,k+nb,none⟩=some (.int .u32 ((Gc A B X k).getD (k+nb) 0:Nat)):=hblk'.cell (by rw[Dn];simp[show k+nb<(Gc A B X k).length by omega]);have hfr:=hblk'.free (k+nb)
     (with_reducible refine Ap (w1:=w'.setCell ⟨w.heap.size+1+1+1,k+nb,none⟩ (.int .u32 (Mq A B X k:Nat))) ?_ ?_ ?_)
     .simp only[Region.wanted]
     .simp[execOp,Act.eval,Act.put,go_sem,hs12',hcl,hfr]
     .refine⟨trivial,fun h=>by simp at h,hbx'.below (B:=w.heap.size+3) ((Ba _ _).setCell (by simp) _) (Aw _),?_⟩;simp only[decide_true,Bool.or_true,if_true];rw[<-HB.out];exact hblk'.set _ _
    all_goals
     clear c0 c1 c2 f2;intro D sp w' hD hW hdp ⟨hbx',hblk'⟩;have c1:=hbx'.c1;simp[asked,Region.wanted,Oper.gives,execOp,Act.eval,Act.put,go_sem,c1,hk1,hk2,hk3,hk4,hk5,hk6]
   .intro sp w' hsp ⟨hbx',hblk'⟩;simp only[Al,Nat.reduceAdd];have hblk2:Bp w' (w.heap.size+1+1+1) 129 .u32 ((Gc A B X k).set (k+B.length) (Mq A B X k)):=hblk';clear hblk' hsp
    go_simp
    go_wp2;go_roundw
    case rel=>
     refine⟨k+1,_,by omega,by go_num,hbx',hX.step wA wB (by have:=HA.out;omega),hblk2⟩
    case measure=>simp[intOf];omega
  .have hkn':na<=k:=by omega
   have hrow:=hblk.row (n:=na+nb) (c:=na+nb) (by have:=hX.len;have:=HA.out;have:=HB.out;omega) (Aw _) (by omega)
   go_wp2_with fail
   refine(Ce _ _ _ _ _ hrow hX.words).mono ?_;rintro e w2 ⟨p,n,c,rfl,hn,hb2,hp⟩;have hbx3:=hbx.later hb2;have k2:=hbx3.c2;have e2:=hbx3.f2;have hn':Gw (w.heap.size+3) p:=by
    intro q hq;rcases hp with rfl|rfl
    .cases hq
    .cases hq;simp
   have hv:val X=val A*val B:=by
    rw[hX.eq,List.take_of_length_le (by have:=HA.out;omega)]
   have HV:=Ai hv;clear hv;go_wp2;refine bodyPost_ret (v:=.agg #[.slice p n c]) (by simp[results,Tryz.results95,go_sem,k2]) rfl ⟨p,n,c,rfl,?_,?_,hn'.mono (by omega)⟩
   .rw[<-HV.out];exact hn.setCell (a:=⟨w.heap.size+1+1,0,none⟩) (hn'.ne (show w.heap.size+1+1<w.heap.size+3 by omega)) (.slice p n c)
   .exact hbx3.bel.setCell (by simp;omega) _
theorem gA (w:World)(pa:Option Addr)(na ca N:Nat)(pb:Option Addr)(nb cb M:Nat)(hA:Ag w pa na ca N)(hB:Ag w pb nb cb M)(ha:na<1000000)(hb:nb<1000000) :
  Calls Tryz.prog 95 #[.agg #[.slice pa na ca],.agg #[.slice pb nb cb]] w (Gj (N*M) w):=by
 obtain⟨A,h1,h2,_,rfl⟩:=hA.ex;obtain⟨B,k1,k2,_,rfl⟩:=hB.ex;exact nU w pa na ca A pb nb cb B h1 h2 k1 k2 ha hb
def lZ (x y c:Nat):Nat:=if x<y+c then 1 else 0
theorem pU (x y c:Nat):lZ x y c<=1:=by unfold lZ;split<;>omega
theorem Nk (n:Nat)(h:n<4294967296):n.testBit 31=decide (2147483648<=n):=by
 rw[Nat.testBit_eq_decide_div_mod_eq];simp only[Nat.reducePow];rw[decide_eq_decide];omega
theorem nC (n:Nat)(h:n<4294967296):n/2147483648=(n.testBit 31).toNat:=by
 rw[Nk n h]
 by_cases h1:2147483648<=n
 .simp[h1];omega
 .simp[h1];omega
theorem Lz {a b:Nat}(h:b<4294967296):a &&& b<4294967296:=Nat.lt_of_le_of_lt Nat.and_le_right h
theorem Ln {a b:Nat}(ha:a<4294967296)(hb:b<4294967296):a ^^^ b<4294967296:=Nat.xor_lt_two_pow (n:=32) ha hb
theorem kB {a b:Nat}(ha:a<4294967296)(hb:b<4294967296):a ||| b<4294967296:=Nat.or_lt_two_pow (n:=32) ha hb
theorem fJ (x y c d:Nat)(hx:x<4294967296)(hy:y<4294967296)(hc:c<=1)(hd:d=(x+8589934592-y-c)%4294967296) :
  (((4294967295 ^^^ x) &&& y) ||| ((4294967295 ^^^ (x ^^^ y)) &&& d))/2147483648=lZ x y c:=by
 have hdl:d<4294967296:=by rw[hd];exact Nat.mod_lt _ (by omega)
 rw[nC _ (kB (Lz hy) (Lz hdl))];simp only[Nat.testBit_or,Nat.testBit_and,Nat.testBit_xor];rw[Nk x hx,Nk y hy,Nk d hdl,Nk 4294967295 (by omega)];unfold lZ
 by_cases h1:2147483648<=x<;>by_cases h2:2147483648<=y<;>by_cases h3:2147483648<=d<;>by_cases h4:x<y+c<;>simp[h1,h2,h3,h4]<;>omega
theorem bV (x y c:Nat)(hx:x<4294967296)(hy:y<4294967296)(hc:c<=1) :
  bits BinOp.or IntKind.u32 (bits BinOp.and IntKind.u32 (bits BinOp.xor IntKind.u32 IntKind.u32.max ↑x) ↑y)
        (bits BinOp.and IntKind.u32
         (bits BinOp.xor IntKind.u32 IntKind.u32.max (bits BinOp.xor IntKind.u32 ↑x ↑y))
         (((x:Int)-y-c)%4294967296))/2147483648=(lZ x y c:Nat):=by
 have hm:IntKind.u32.max=((4294967295:Nat):Int):=rfl;obtain⟨d,hd⟩:∃d,d=(x+8589934592-y-c)%4294967296:=⟨_,rfl⟩
 have hd':((x:Int)-y-c)%4294967296=(d:Nat):=by omega
 have hdl:d<4294967296:=by omega
 rw[hm,hd',u32_xor_nat _ _ (by omega) hx,u32_xor_nat _ _ hx hy,u32_xor_nat _ _ (by omega) (Ln hx hy),u32_and_nat _ _ (Ln (by omega) hx) hy,
  u32_and_nat _ _ (Ln (by omega) (Ln hx hy)) hdl,u32_or_nat _ _ (Lz hy) (Lz hdl)]
 have:=fJ x y c d hx hy hc hd;omega
theorem Yo (x y c:Nat)(w:World)(hx:x<4294967296)(hy:y<4294967296)(hc:c<=1) :
  Calls Tryz.prog 172 #[.int .u32 x,.int .u32 y,.int .u32 c] w fun e w'=>
   e=.returned (.tuple #[.int .u32 (((x:Int)-y-c)%4294967296),.int .u32 (lZ x y c:Nat)])/\w=w':=by
 have hs:IntKind.u32.signed=false:=rfl;have hq:=Ai (bV x y c hx hy hc);go_enter Tryz.func172,Tryz.ntmps172;go_wp2
 go_ret2
 have e6:(((x:Int)-y)%4294967296-c)%4294967296=((x:Int)-y-c)%4294967296:=by omega
 exact⟨by rw[hq.out];exact congrArg (fun z=>Ending.returned (.tuple #[.int .u32 z,.int .u32 (lZ x y c:Nat)])) e6,rfl⟩
structure On (A B:List Nat) (k:Nat) (S:List Nat) (bw:Nat):Prop where
 len:S.length=k
 words:Words S
 carry:bw<=1
 eq:val S+val (B.take k)=val (A.take k)+An k*bw
theorem On.start (A B:List Nat):On A B 0 [] 0:=⟨rfl,Words.nil,by omega,by simp[val]⟩
theorem On.step {A B:List Nat}{k:Nat}{S:List Nat}{bw d:Nat}(h:On A B k S bw)(hA:Words A)(hB:Words B)(hd:(d:Int)=(((A.getD k 0:Nat):Int)-(B.getD k 0:Nat)-bw)%4294967296) :
  On A B (k+1) (S++[d]) (lZ (A.getD k 0) (B.getD k 0) bw):=by
 have h1:=hA.get k;have h2:=hB.get k;have h3:=h.carry;refine⟨by simp[h.len],h.words.snoc (by omega),pU _ _ _,?_⟩;rw[Dt,h.len,Ay,Ay,Bk];have e:=h.eq;have hb:d+B.getD k 0+bw=A.getD k 0+4294967296*lZ (A.getD k 0) (B.getD k 0) bw:=by
  unfold lZ;split<;>omega
 generalize A.getD k 0=x at *;generalize B.getD k 0=y at *;generalize lZ x y bw=q at *;generalize An k=b at *;have e2:b*(d+y+bw)=b*(x+4294967296*q):=by rw[hb]
 have e3:b*(4294967296*q)=4294967296*b*q:=by rw[<-Nat.mul_assoc,Nat.mul_comm b]
 rw[Nat.mul_add,Nat.mul_add,Nat.mul_add,e3]at e2
 omega
theorem On.last {A B:List Nat}{k:Nat}{S:List Nat}{bw:Nat}(h:On A B k S bw)(hA:A.length=k)(hB:B.length<=k)(hle:val B<=val A):val S=val A-val B:=by
 have e:=h.eq;rw[List.take_of_length_le (l:=A) (by omega),List.take_of_length_le hB]at e
 have h1:=h.words.lt;rw[h.len]at h1
 have h2:=h.carry;rcases Nat.lt_or_ge bw 1 with h3|h3
 .obtain rfl:bw=0:=by omega
  omega
 .obtain rfl:bw=1:=by omega
  omega
def mS (N M:Nat)(w:World)(e:Ending)(w':World):Prop:=∃p n c,e=.returned (.tuple #[.agg #[.slice p n c],.bool (decide (M<=N))])/\Ag w' p n c (N-M)/\Below w.heap.size w w'/\Gw w.heap.size p
theorem fI (w:World)(pa:Option Addr)(na ca N:Nat)(pb:Option Addr)(nb cb M:Nat)(hA:Ag w pa na ca N)(hB:Ag w pb nb cb M)(hs:na<1000000)(hsb:nb<1000000) :
  Calls Tryz.prog 113 #[.agg #[.slice pa na ca],.agg #[.slice pb nb cb]] w (mS N M w):=by
 have hb0:Below w.heap.size w (((w.alloc (.cells #[.slice pa na ca] 37)).alloc (.cells #[.slice pb nb cb] 37)).alloc (.cells #[.slice none 0 0] 37)) :=
  (((Ba _ w).alloc (Aw _) _).alloc (by simp) _).alloc (by simp;omega) _
 by_cases hlt:N<M
 .have hcm:Bm N M = -1:=Eb hlt;go_enter Tryz.func113,Tryz.ntmps113
  go_wp2_with fail
  refine(Gy _ pa pb na ca N nb cb M (hA.below hb0) (hB.below hb0) hs hsb).mono ?_;rintro e w1 ⟨rfl,hb1⟩;obtain⟨hc,hf⟩:=Cp hb1;have hz:=hb1.size;simp only[World.size_alloc]at hz;go_wp2;refine bodyPost_ret (v:=.tuple #[.agg #[.slice none 0 0],.bool false]) (by simp[results,Tryz.results113,go_sem,hc]) rfl ⟨none,0,0,by simp[show ¬M<=N by omega],?_,?_,Gw.none _⟩
  .exact⟨[],Row.nil _ _,Words.nil,by simp,by simp[val];omega⟩
  .exact(hb0.trans (hb1.mono (by simp;omega))).setCell (by simp;omega) _
 .have hcm:¬Bm N M<0:=by
   unfold Bm;rw[if_neg hlt];split<;>omega
  obtain⟨A,a1,a2,a3,rfl⟩:=hA.ex;obtain⟨B,b1,b2,b3,rfl⟩:=hB.ex;have HA:=Ai a1.len;have HB:=Ai b1.len;have hle:nb<=na:=by
   rcases Nat.lt_or_ge na nb with h|h
   .exact absurd (hA.len_lt hB h) hlt
   .exact h
  have hmk:=Hf na (by omega);go_enter Tryz.func113,Tryz.ntmps113
  go_wp2_with fail
  refine(Gy _ pa pb na ca _ nb cb _ (hA.below hb0) (hB.below hb0) hs hsb).mono ?_;rintro e w1 ⟨rfl,hb1⟩;have hbx:=(Cl.mk3 w (.slice pa na ca) (.slice pb nb cb) (.slice none 0 0) 37 37 37).later hb1;have c0:=hbx.c0;have c1:=hbx.c1;have c2:=hbx.c2;have f2:=hbx.f2;have hz0:w.heap.size<w1.heap.size:=by have:=hbx.size;omega
  have hz1:w.heap.size+1<w1.heap.size:=by have:=hbx.size;omega
  have hz2:w.heap.size+1+1<w1.heap.size:=by have:=hbx.size;omega
  have HC:=Ai (show decide (Bm (val A) (val B)<0)=false by simpa using hcm);go_wp2
  go_loopw [7,22] (fun cy i wr=>∃k c:Nat,∃S,k<=na/\i=.int .i64 k/\cy=.int .u32 c/\Cl w wr (.slice pa na ca) (.slice pb nb cb) (.slice none 0 0)/\w1.heap.size<wr.heap.size/\Below w1.heap.size w1 wr/\On A B k S c/\Bp wr w1.heap.size 129 .u32 (S++List.replicate (na-k) 0)) (fun _ i _=>na-(intOf i).toNat)
  case atStart=>
   refine⟨0,0,[],by omega,rfl,rfl,hbx.alloc _,by simp,(Ba _ _).alloc (Aw _) _,On.start A B,?_⟩;exact Bp.zeros _ _ _ _
  case round=>
   obtain⟨k,bw,S,hk,rfl,rfl,hbr,hsr,hbw,hS,hblk⟩:=hrel;clear c0 c1 c2 f2;have d0:=hbr.c0;have d1:=hbr.c1;have d2:=hbr.c2;have g2:=hbr.f2
   by_cases hkn:k<na
   .obtain⟨b,off,rfl,hb,hc⟩:=a1.pos (by omega);obtain⟨x,hx⟩:∃x,A.getD k 0=x:=⟨_,rfl⟩
    obtain⟨y,hy⟩:∃y,B.getD k 0=y:=⟨_,rfl⟩
    have hci:wr.cell? ⟨b,off+k,none⟩=some (.int .u32 (x:Nat)):=by
     rw[(Cp hbr.bel).1 _ _ hb];exact hc k x (by rw[<-hx,Dn];simp[show k<A.length by have:=HA.out;omega])
    have HX:=Ai hx;have HY:=Ai hy;have HSk:=Ai hS.len;clear hc hx hy;have hg0:=hblk.zero_cell HSk.out (by omega);have hgf:=hblk.free k
    go_wp2_with fail
    refine(Ft wr pb nb cb B k y (b1.below hbr.bel) (by omega) HY.out).mono ?_;rintro e w2 ⟨rfl,hb2⟩;have hy:y<4294967296:=by rw[<-HY.out];exact b2.get k
    have hx':x<4294967296:=by rw[<-HX.out];exact a2.get k
    have hcy:=hS.carry;have hg0':=((Cp hb2).1 _ k hblk.lt).trans hg0;have hgf':=((Cp hb2).2 _ k hblk.lt).trans hgf;obtain⟨d,hd⟩:∃d:Nat,(d:Int)=((x:Int)-y-bw)%4294967296:=⟨(((x:Int)-y-bw)%4294967296).toNat,by omega⟩
    have HD:=Ai hd;clear hd
    go_wp2_with fail
    refine(Yo x y bw _ hx' hy hcy).mono ?_;rintro e w3 ⟨rfl,rfl⟩;rw[<-HD.out];go_wp2;go_roundw
    case rel=>
     refine⟨k+1,_,S++[d],by omega,by go_num,rfl,(hbr.later hb2).below (B:=w.heap.size+3) ((Ba _ _).setCell (by simp;omega) _) (Aw _),by have:=hb2.size;simp;omega,(hbw.trans (hb2.mono (by omega))).setCell (by simp) _,?_,?_⟩
     .have:=hS.step (d:=d) a2 b2 (by rw[HX.out,HY.out];exact HD.out);rw[HX.out,HY.out]at this
      exact this
     .exact(hblk.below hb2 hblk.lt).next HSk.out (by omega) d
    case measure=>clear HD;simp[intOf];omega
   .have hkn':na<=k:=by omega
    have hrow:=(hblk.row (n:=na) (c:=na) (by have:=hS.len;simp;omega) (Aw _) (by omega))
    have hw2:Words (S++List.replicate (na-k) 0):=hS.words.append (Words.zeros _)
    go_wp2_with fail
    refine(Ce _ _ _ _ _ hrow hw2).mono ?_;rintro e w2 ⟨p,n,c,rfl,hn,hb2,hp⟩;have hbx3:=hbr.later hb2;have k2:=hbx3.c2;have e2:=hbx3.f2;have hn':Gw w1.heap.size p:=by
     intro q hq;rcases hp with rfl|rfl
     .cases hq
     .cases hq;simp
    have hv:val (S++List.replicate (na-k) 0)=val A-val B:=by
     rw[val_append,Ig,Nat.mul_zero,Nat.add_zero];exact hS.last (by have:=HA.out;omega) (by have:=HB.out;omega) (by omega)
    have HV:=Ai hv;clear hv;go_wp2;refine bodyPost_ret (v:=.tuple #[.agg #[.slice p n c],.bool true]) (by simp[results,Tryz.results113,go_sem,k2]) rfl ⟨p,n,c,by simp[show val B<=val A by omega],?_,?_,hn'.mono (by omega)⟩
    .rw[<-HV.out];exact hn.setCell (a:=⟨w.heap.size+1+1,0,none⟩) (hn'.ne hz2) (.slice p n c)
    .exact hbx3.bel.setCell (by simp;omega) _
def be (bs:List Nat):Nat:=le bs.reverse
theorem kY {bs:List Nat}{k:Nat}(h:k<bs.length):bs.reverse.getD k 0=bs.getD (bs.length-1-k) 0:=by
 rw[Dn,Dn,List.getElem?_reverse h]
theorem pE {x r:Nat}(hx:x<256)(hr:r<4) :
  IntKind.u32.wrap ((x:Int)*2^(min (((r:Int)*8).toNat) 32))=((x*B8 r:Nat):Int)/\x*B8 r<4294967296:=by
 have e1:((r:Int)*8).toNat=8*r:=by omega
 have e2:min (8*r) 32=8*r:=by omega
 have e3:(2:Int)^(8*r)=((B8 r:Nat):Int):=by rw[Tj];simp
 have h4:x*B8 r<4294967296:=by
  have h1:B8 (r+1)<=B8 4:=Mb (by omega);rw[Oo]at h1
  have h2:x*B8 r<256*B8 r:=(Nat.mul_lt_mul_right (mW r)).2 hx;have h3:B8 4=4294967296:=rfl;omega
 rw[e1,e2,e3,<-Int.natCast_mul];exact⟨IntWalk.u32_in _ (by omega),h4⟩
theorem qG {W x r:Nat}(hW:W<B8 r)(h4:x*B8 r<4294967296)(hr:r<4):bits BinOp.or IntKind.u32 (W:Int) ((x*B8 r:Nat):Int)=((W+x*B8 r:Nat):Int):=by
 have hW4:W<4294967296:=by
  have h1:B8 r<=B8 4:=Mb (by omega);have h3:B8 4=4294967296:=rfl;omega
 rw[u32_or_nat _ _ hW4 h4,Nat.or_comm];rw[nat_join (8*r) (x*B8 r) W (by rw[<-Tj];exact Nat.mul_mod_left _ _) (by rw[<-Tj];exact hW),Nat.add_comm]
theorem Kc (w:World)(p:Option Addr)(n c:Nat)(bs:List Nat)(h:Bq w .u8 p n c bs)(hb8:Bc bs)(hn:n<=128) :
  Calls Tryz.prog 123 #[.slice p n c] w fun e w'=>∃q m d,e=.returned (.tuple #[.agg #[.slice q m d],.int .i64 0])/\Ag w' q m d (be bs)/\Below w.heap.size w w'/\Gw w.heap.size q:=by
 have HL:=Ai h.len;obtain⟨m,hm1,hm2⟩:∃m:Nat,n<=4*m/\4*m<=n+3:=⟨(n+3)/4,by omega,by omega⟩
 have hmk:=Pe (i:=((n:Int)+4-1)/4) m (by omega) (by omega);go_enter Tryz.func123,Tryz.ntmps123;go_wp2
 go_loopw [18] (fun i wr=>∃k:Nat,k<=n/\i=.int .i64 k/\Dw w wr (.slice none 0 0)/\w.heap.size+1<wr.heap.size/\Bp wr (w.heap.size+1) 129 .u32 (wordsOf (le (bs.reverse.take k)) m)) (fun i _=>n-(intOf i).toNat)
 case atStart=>
  refine⟨0,by omega,rfl,(Dw.mk1 _ _ _).alloc _,by simp,?_⟩;have:=Bp.zeros (w.alloc (.cells #[.slice none 0 0] 37)) 129 .u32 m;rw[List.take_zero,le,Gu];simpa using this
 case round=>
  obtain⟨k,hk,rfl,hbx,hsz,hblk⟩:=hrel
  by_cases hkn:k<n
  .obtain⟨b,off,rfl,hb,hc⟩:=(h.row (by omega)).pos (by omega);obtain⟨j,hj⟩:∃j,n-1-k=j:=⟨_,rfl⟩
   obtain⟨x,hx⟩:∃x,bs.getD j 0=x:=⟨_,rfl⟩
   have hci:∀w',Dw w w' (.slice none 0 0)->w'.cell? ⟨b,off+j,none⟩=some (.int .u8 (x:Nat)):=fun w' hb'=>by
    rw[(Cp hb'.bel).1 _ _ hb];exact hc j x (by rw[<-hx,Dn];simp[show j<bs.length by have:=HL.out;omega])
   have hx8:x<256:=by rw[<-hx];exact hb8.get j
   have HJ:=Ai hj;have HX:=Ai hx;clear hc hj hx;go_wp2;obtain⟨V,hV⟩:∃V,le (bs.reverse.take k)=V:=⟨_,rfl⟩
   obtain⟨q,hq⟩:∃q,k/4=q:=⟨_,rfl⟩
   obtain⟨r,hr⟩:∃r,k%4=r:=⟨_,rfl⟩
   obtain⟨d,hd⟩:∃d,V/An q%4294967296=d:=⟨_,rfl⟩
   rw[hV]at hblk
   have hVlt:V<B8 k:=by
    have:=(hb8.reverse.take k).lt;rw[hV]at this
    have hl:(bs.reverse.take k).length=k:=by simp;have:=HL.out;omega
    rwa [hl]at this
   have hor:=bP (n:=m) hVlt hx8;rw[hq,hr,hd]at hor
   obtain⟨ho1,ho2,ho3⟩:=hor;have hr4:r<4:=by omega
   obtain⟨hs1,hs2⟩:=pE hx8 hr4;have hs3:=qG ho2 hs2 hr4;have t1:IntKind.i64.wrap ((k:Int)/4)=(q:Int):=by rw[IntWalk.i64_in _ (by omega)];omega
   have t2:(k:Int).tmod 4=(r:Int):=by rw[Int.tmod_eq_emod_of_nonneg (by omega)];omega
   have ty:IntKind.u32.wrap (x:Int)=x:=IntWalk.u32_in _ (by omega);have hs1':IntKind.u32.wrap ((x:Int)*2^(((r:Int)*8).toNat))=(x:Int)*(B8 r:Nat):=by
    have e:min (((r:Int)*8).toNat) 32=((r:Int)*8).toNat:=by omega
    rw[e]at hs1;rw[hs1,Int.natCast_mul]
   have hs3':bits BinOp.or IntKind.u32 (d:Int) ((x:Int)*(B8 r:Nat))=(d:Int)+(x:Int)*(B8 r:Nat):=by
    rw[<-Int.natCast_mul,hs3,Int.natCast_add]
   have t3:IntKind.i64.wrap ((r:Int)*8)=(r:Int)*8:=IntWalk.i64_in _ (by omega);have t4:IntKind.i64.wrap ((n:Int)-1)=(n:Int)-1:=IntWalk.i64_in _ (by omega);have t5:IntKind.i64.wrap ((n:Int)-1-k)=(j:Nat):=by
    rw[IntWalk.i64_in _ (by omega)];have:=HJ.out;omega
   have t6:(j:Int)<n:=by have:=HJ.out;omega
   have t7:(q:Int)<m:=by omega
   have t9:q<m:=by omega
   refine Ak (by kernel_rfl) (by kernel_rfl)
    [some (.slice (some ⟨w.heap.size+1,0,none⟩) m m),some (.int .i64 k),some (.int .i64 (q:Nat)),some (.pointer (some ⟨w.heap.size+1,q,none⟩)),some (.int .u32 (d:Nat)),some (.slice (some ⟨b,off,none⟩) n c),some (.slice (some ⟨b,off,none⟩) n c),
     some (.int .i64 n),some (.int .i64 ((n:Int)-1)),some (.int .i64 k),some (.int .i64 (j:Nat)),some (.pointer (some ⟨b,off+j,none⟩)),some (.int .u8 (x:Nat)),some (.int .u32 (x:Nat)),some (.int .i64 k),some (.int .i64 (r:Nat)),some (.int .i64 ((r:Int)*8)),
     some (.int .u32 (x*B8 r:Nat)),some (.int .u32 (d+x*B8 r:Nat)),some (.pointer (some ⟨w.heap.size+1,q,none⟩)),none]
    [false,false,false,false,false,false,false,false,false,false,false,false,false,false,false,false,false,false,false,false,true] rfl
    (fun _ _=>True)
    (fun D w'=>Dw w w' (.slice none 0 0)/\w.heap.size+1<w'.heap.size/\Bp w' (w.heap.size+1) 129 .u32 (if D 20 then wordsOf (V+B8 k*x) m else wordsOf V m))
    (fun _ _ _=>True)
    (fun _ _ _ _ h _=>h) ⟨hbx.below (Ba _ _).drew (Aw _),hsz,hblk⟩ ?_ ?_
   .simp only[Bb,Nat.reduceAdd];refine⟨?_,?_,?_,?_,?_,?_,?_,?_,?_,?_,?_,?_,?_,?_,?_,?_,?_,?_,?_,?_,?_,trivial⟩
    case refine_5=>
     intro D sp w' hD hW hdp ⟨hbx',hsz',hblk'⟩;have h20:D 20=false:=hW 20 (mq (by kernel_rfl));rw[h20]at hblk'
     simp only[Bool.false_eq_true,if_false]at hblk';have hcl:w'.cell? ⟨w.heap.size+1,q,none⟩=some (.int .u32 (d:Nat)):=hblk'.cell (by rw[Dm t9,hd]);simp[asked,Region.wanted,Oper.gives,execOp,Act.eval,Act.put,go_sem,hcl]
    case refine_21=>
     intro D sp w' hD hW hdp ⟨hbx',hsz',hblk'⟩;rw[hD]at hblk'
     simp only[Bool.false_eq_true,if_false]at hblk';have hcl:w'.cell? ⟨w.heap.size+1,q,none⟩=some (.int .u32 (d:Nat)):=hblk'.cell (by rw[Dm t9,hd]);have hfr:=hblk'.free q
     (with_reducible refine Ap (w1:=w'.setCell ⟨w.heap.size+1,q,none⟩ (.int .u32 (d+x*B8 r:Nat))) ?_ ?_ ?_)
     .simp only[Region.wanted]
     .simp[execOp,Act.eval,Act.put,go_sem,hcl,hfr]
     .refine⟨trivial,trivial,hbx'.below (B:=w.heap.size+1) ((Ba _ _).setCell (by simp) _) (Aw _),by simpa using hsz',?_⟩;simp only[decide_true,Bool.or_true,if_true];rw[<-ho1];exact hblk'.set _ _
    all_goals
     intro D sp w' hD hW hdp ⟨hbx',hsz',hblk'⟩;have c1:=hci w' hbx';simp[asked,Region.wanted,Oper.gives,execOp,Act.eval,Act.put,go_sem,c1,t1,t2,t3,t4,t5,t6,t7,ty,hs1',hs3']
   .intro sp w' hsp ⟨hbx',hsz',hblk'⟩;have hblk2:Bp w' (w.heap.size+1) 129 .u32 (wordsOf (V+B8 k*x) m):=hblk';clear hblk' hsp;have HV:Hid (le (bs.reverse.take (k+1))=V+B8 k*x):=by
     have e:=Wz bs.reverse k (by simp;have:=HL.out;omega);rw[hV,kY (by have:=HL.out;omega),<-HL.out,HJ.out,HX.out]at e
     exact e
    clear hV hq hr hd t1 t2 t3 t4 t5 hs1 hs1' hs3 hs3' ty ho1;simp only[Al,Nat.reduceAdd]
    go_simp
    go_wp2;go_roundw
    case rel=>exact⟨k+1,by omega,by go_num,hbx',hsz',by rw[HV.out];exact hblk2⟩
    case measure=>simp[intOf];omega
  .have hkn':n<=k:=by omega
   have hkl:k=bs.length:=by have:=HL.out;omega
   have hrow:=hblk.row (n:=m) (c:=m) (by rw[Ar]) (Aw _) (by omega);have hv:val (wordsOf (le (bs.reverse.take k)) m)=be bs:=by
    rw[List.take_of_length_le (by simp;omega)];refine Cf (Da hb8.reverse.lt ?_);rw[<-Rj];exact Mb (by simp;omega)
   have HV:=Ai hv;clear hv hkl
   go_wp2_with fail
   refine(Ce _ _ _ _ _ hrow (Co _ _)).mono ?_;rintro e w2 ⟨q,l,d,rfl,hn2,hb2,hp⟩;have hbx2:=hbx.later hb2;have c0:=hbx2.c0;have f0:=hbx2.f0;have hn':Gw (w.heap.size+1) q:=by
    intro a ha;rcases hp with rfl|rfl
    .cases ha
    .cases ha;simp
   go_wp2;refine bodyPost_ret (v:=.tuple #[.agg #[.slice q l d],.int .i64 0]) (by simp[results,Tryz.results123,go_sem,c0]) rfl ⟨q,l,d,rfl,?_,?_,hn'.mono (by omega)⟩
   .have:=hn2.setCell (a:=⟨w.heap.size,0,none⟩) (hn'.ne (show w.heap.size<w.heap.size+1 by omega)) (.slice q l d);rw[HV.out]at this
    exact this
   .exact hbx2.bel.setCell (Aw _) _
theorem Qf:(⟨((([0,1,2,2,3,3,3,3,4,4,4,4,4,4,4,4,5,5,5,5,5,5,5,5,5,5,5,5,5,5,5,5,6,6,6,6,6,6,6,6,6,6,6,6,6,6,6,6,6,6,6,6,6,6,6,6,6,6,6,6,6,6,6,6]:List UInt8).append [7,7,7,7,7,7,7,7,7,7,7,7,7,7,7,7,7,7,7,7,7,7,7,7,7,7,7,7,7,7,7,7,7,7,7,7,7,7,7,7,7,7,7,7,7,7,7,7,7,7,7,7,7,7,7,7,7,7,7,7,7,7,7,7]).append (([8,8,8,8,8,8,8,8,8,8,8,8,8,8,8,8,8,8,8,8,8,8,8,8,8,8,8,8,8,8,8,8,8,8,8,8,8,8,8,8,8,8,8,8,8,8,8,8,8,8,8,8,8,8,8,8,8,8,8,8,8,8,8,8]:List UInt8).append [8,8,8,8,8,8,8,8,8,8,8,8,8,8,8,8,8,8,8,8,8,8,8,8,8,8,8,8,8,8,8,8,8,8,8,8,8,8,8,8,8,8,8,8,8,8,8,8,8,8,8,8,8,8,8,8,8,8,8,8,8,8,8,8])).toArray⟩:ByteArray)=Lib.len8tab:=by kernel_rfl
theorem gN:∀n:Fin 256,Lib.len8 (n.val:Int)=(Bh n.val:Int):=by decide +kernel
theorem Re (y:Int)(h0:0<=y)(h1:y<=255)(h:y.toNat<Lib.len8tab.size):((Lib.len8tab[y.toNat]'h).toNat:Int)=(Bh y.toNat:Nat):=by
 have e:=gN ⟨y.toNat,by omega⟩;simp only[Int.toNat_of_nonneg h0]at e;rw[<-e];unfold Lib.len8;rw[getElem?_pos Lib.len8tab y.toNat h];rfl
theorem Ou (k:Nat)(m n:Nat)(hk:k<=24)(hm:Bh m<=64)(e:Bh n=k+Bh m):wrap64 ((k:Int)+wrap64 (Bh m:Nat))=(Bh n:Nat):=by
 rw[e,IntWalk.wrap64_in (Bh m:Nat) ⟨by omega,by omega⟩,IntWalk.wrap64_in _ ⟨by omega,by omega⟩];omega
theorem bN (m:Nat)(hm:Bh m<=64):wrap64 (wrap64 (Bh m:Nat))=(Bh m:Nat):=by
 rw[IntWalk.wrap64_in (Bh m:Nat) ⟨by omega,by omega⟩,IntWalk.wrap64_in _ ⟨by omega,by omega⟩]
theorem gR (x:Int)(w:World)(h0:0<=x)(hx:x<=4294967295) :
  Calls Tryz.prog 220 #[.int .u32 x] w fun e w'=>e=.returned (.int .i64 (Bh x.toNat:Nat))/\w=w':=by
 have hs:Lib.len8tab.size=256:=Lib.len8tab_size;go_enter Tryz.func220,Tryz.ntmps220;rw[Qf];go_wp2
 all_goals first
  | (go_ret;refine⟨congrArg Ending.returned (congrArg (Value.int IntKind.i64) ?_),rfl⟩)
  | (exfalso;omega)
 all_goals first
  | (rw[Re (x/65536/256) (by omega) (by omega)];exact Ou 24 _ _ (by omega) (Ly (by omega)) (by rw[show (x/65536/256).toNat=x.toNat/2^24 by omega];exact Js _ _ (by omega)))
  | (rw[Re (x/65536) (by omega) (by omega)];exact Ou 16 _ _ (by omega) (Ly (by omega)) (by rw[show (x/65536).toNat=x.toNat/2^16 by omega];exact Js _ _ (by omega)))
  | (rw[Re (x/256) (by omega) (by omega)];exact Ou 8 _ _ (by omega) (Ly (by omega)) (by rw[show (x/256).toNat=x.toNat/2^8 by omega];exact Js _ _ (by omega)))
  | (rw[Re x (by omega) (by omega)];exact bN _ (Ly (by omega)))
theorem Qg (x:Nat)(w:World)(hx:x<4294967296) :
  Calls Tryz.prog 220 #[.int .u32 x] w fun e w'=>e=.returned (.int .i64 (Bh x:Nat))/\w=w':=by
 have:=gR x w (by omega) (by omega);simpa using this
theorem dX {ws:List Nat}{x:Nat}(hw:Words (ws++[x]))(hx:x≠0):Bh (val (ws++[x]))=32*ws.length+Bh x:=by
 rw[Dt];have hb:An ws.length=2^(32*ws.length):=by unfold An;rw[show (4294967296:Nat)=2^32 from rfl,<-Nat.pow_mul]
 have h1:val ws<An ws.length:=Words.lt fun y hy=>hw y (by simp[hy])
 have hd:(val ws+An ws.length*x)/2^(32*ws.length)=x:=by
  rw[<-hb,Nat.add_mul_div_left _ _ (Fo _),Nat.div_eq_of_lt h1,Nat.zero_add]
 have:=Js (val ws+An ws.length*x) (32*ws.length) (by rw[hd];omega);rw[hd]at this
 exact this
theorem Fx (w:World)(p:Option Addr)(n c N:Nat)(h:Ag w p n c N)(hn:n<1000000) :
  Calls Tryz.prog 184 #[.agg #[.slice p n c]] w fun e w'=>e=.returned (.int .i64 (Bh N:Nat))/\Below w.heap.size w w':=by
 have hbx:=Dw.mk1 w (.slice p n c) 37
 by_cases h0:n=0
 .have hN:N=0:=h.zero.1 h0;subst hN;have hd:decide (n=0)=true:=by simpa using h0
  clear h0;go_enter Tryz.func184,Tryz.ntmps184
  go_wp2_with fail
  refine(Dp _ p n c).mono ?_;rintro e w1 ⟨rfl,hb1⟩;go_wp2;go_ret;exact⟨rfl,(hbx.later hb1).bel⟩
 .obtain⟨m,rfl⟩:∃m,n=m+1:=⟨n-1,by omega⟩
  obtain⟨ws,h1,h2,h3,h4⟩:=h.ex;have hl:=h1.len;obtain⟨xs,x,rfl⟩:∃xs x,ws=xs++[x]:=by
   rcases List.eq_nil_or_concat ws with rfl|⟨xs,x,h⟩
   .simp at hl
   .exact⟨xs,x,by simpa using h⟩
  have hxm:xs.length=m:=by simp at hl;omega
  have hx0:x≠0:=by simpa using h3
  have hx1:x<4294967296:=h2 x (by simp);have hbl:=dX h2 hx0;rw[h4,hxm]at hbl
  have HBL:=Ai hbl;have hxb:Bh x<=32:=by rw[Ec];exact hx1
  obtain⟨b,off,rfl,hb,hc⟩:=h1.pos (by omega);have hci:∀w',Below w.heap.size w w'->w'.cell? ⟨b,off+m,none⟩=some (.int .u32 (x:Nat)):=fun w' hb'=>by
   rw[(Cp hb').1 _ _ hb];exact hc m x (by rw[<-hxm];simp)
  have hd:decide (m+1=0)=false:=by simp
  clear hc hl h4 hbl hxm;go_enter Tryz.func184,Tryz.ntmps184
  go_wp2_with fail
  refine(Dp _ _ (m+1) c).mono ?_;rintro e w1 ⟨rfl,hb1⟩;have hbx1:=hbx.later hb1;have c0:=hbx1.c0;have hcx:=hci w1 hbx1.bel;clear hci
  go_wp2_with fail
  refine(Qg x _ hx1).mono ?_;rintro e w2 ⟨rfl,rfl⟩;go_wp2;go_ret;refine⟨?_,hbx1.bel⟩;rw[HBL.out];exact congrArg (fun z=>Ending.returned (.int .i64 z)) (by omega)
def bit (N i:Nat):Bool:=decide (N/2^i%2=1)
theorem nV (N k:Nat):N%2^(k+1)=N%2^k+(if bit N k then 2^k else 0):=by
 rw[Nat.pow_succ,Nat.mod_mul];unfold bit;have:N/2^k%2<2:=Nat.mod_lt _ (by omega)
 by_cases h:N/2^k%2=1
 .simp[h]
 .have:N/2^k%2=0:=by omega
  simp[this]
theorem Qp (N i:Nat):bit N i=N.testBit i:=by
 unfold bit;rw[Nat.testBit_eq_decide_div_mod_eq]
def carry (N M k:Nat):Nat:=(N%2^k+M%2^k)/2^k
theorem kK (N k:Nat):N%2^(k+1)=N%2^k+2^k*(bit N k).toNat:=by
 rw[nV];cases bit N k<;>simp
def Dl (N:Nat):Nat:=(Bh N+7)/8
theorem lV (N:Nat):N<B8 (Dl N):=by
 rw[Tj];refine(Ec N _).1 ?_;unfold Dl;omega
theorem lY {N n:Nat}:Dl N<=n ↔ N<B8 n:=by
 rw[Tj,<-Ec];unfold Dl;omega
def Fit (e N:Nat)(v:Value)(w:World):Prop:=∃p n c,v=.agg #[.slice p n c]/\Ag w p n c N/\N<An e
theorem Fit.below {e N:Nat}{v:Value}{w w':World}(h:Fit e N v w)(hb:Below w.heap.size w w'):Fit e N v w' :=
 let ⟨p,n,c,h1,h2,h3⟩:=h
 ⟨p,n,c,h1,h2.below hb,h3⟩
theorem Fit.of {e N p n c}{w:World}(h:Ag w p n c N)(hN:N<An e):Fit e N (.agg #[.slice p n c]) w:=⟨p,n,c,rfl,h,hN⟩
theorem Fit.lim {e N:Nat}{v:Value}{w:World}(h:Fit e N v w):N<An e:=let ⟨_,_,_,_,_,h3⟩:=h;h3
theorem nY {e f N M:Nat}(h:N<An e)(k:M<An f):N+M<An (e+f+1):=by
 have h1:An e<=An (e+f):=Cc (by omega);have h2:An f<=An (e+f):=Cc (by omega);rw[Bk];omega
theorem nX {e f N M:Nat}(h:N<An e)(k:M<An f):N*M<An (e+f):=by
 rw[Rk];exact Nat.mul_lt_mul'' h k
theorem Ma {w:World}{v u:Value}{e f N M:Nat}(h:Fit e N v w)(k:Fit f M u w)(he:e<=900000)(hf:f<=900000) :
  Calls Tryz.prog 94 #[v,u] w fun en w'=>∃x,en=.returned x/\Fit (e+f+1) (N+M) x w'/\Below w.heap.size w w':=by
 obtain⟨p,n,c,rfl,h1,h2⟩:=h;obtain⟨q,m,d,rfl,k1,k2⟩:=k;have l1:=h1.len_le h2;have l2:=k1.len_le k2;refine(Wc w p n c N q m d M h1 k1 (by omega) (by omega)).mono ?_;rintro en w' ⟨r,l,g,rfl,hr,hb,_⟩;exact⟨_,rfl,Fit.of hr (nY h2 k2),hb⟩
theorem Lt {w:World}{v u:Value}{e f N M:Nat}(h:Fit e N v w)(k:Fit f M u w)(he:e<=900000)(hf:f<=900000) :
  Calls Tryz.prog 95 #[v,u] w fun en w'=>∃x,en=.returned x/\Fit (e+f) (N*M) x w'/\Below w.heap.size w w':=by
 obtain⟨p,n,c,rfl,h1,h2⟩:=h;obtain⟨q,m,d,rfl,k1,k2⟩:=k;have l1:=h1.len_le h2;have l2:=k1.len_le k2;refine(gA w p n c N q m d M h1 k1 (by omega) (by omega)).mono ?_;rintro en w' ⟨r,l,g,rfl,hr,hb,_⟩;exact⟨_,rfl,Fit.of hr (nX h2 k2),hb⟩
theorem Hs {w:World}{v u:Value}{e f N M:Nat}(h:Fit e N v w)(k:Fit f M u w)(he:e<=900000)(hf:f<=900000) :
  Calls Tryz.prog 24 #[v,u] w fun en w'=>∃x,en=.returned x/\x=.int .i64 (Bm N M)/\Below w.heap.size w w':=by
 obtain⟨p,n,c,rfl,h1,h2⟩:=h;obtain⟨q,m,d,rfl,k1,k2⟩:=k;have l1:=h1.len_le h2;have l2:=k1.len_le k2;refine(Gy w p q n c N m d M h1 k1 (by omega) (by omega)).mono ?_;rintro en w' ⟨rfl,hb⟩;exact⟨_,rfl,rfl,hb⟩
theorem Wi {w:World}{v u:Value}{e f N M:Nat}(h:Fit e N v w)(k:Fit f M u w)(he:e<=900000)(hf:f<=900000) :
  Calls Tryz.prog 113 #[v,u] w fun en w'=>∃x,en=.returned (.tuple #[x,.bool (decide (M<=N))])/\Fit e (N-M) x w'/\Below w.heap.size w w':=by
 obtain⟨p,n,c,rfl,h1,h2⟩:=h;obtain⟨q,m,d,rfl,k1,k2⟩:=k;have l1:=h1.len_le h2;have l2:=k1.len_le k2;refine(fI w p n c N q m d M h1 k1 (by omega) (by omega)).mono ?_;rintro en w' ⟨r,l,g,rfl,hr,hb,_⟩;exact⟨_,rfl,Fit.of hr (by omega),hb⟩
theorem Iu (N:Nat):Bm N N=0:=by simp[Bm]
structure Am (B:Nat) (w w':World):Prop where
 bel:Below B w w'
 nat:∀p n c N,Ag w p n c N->Ag w' p n c N
theorem Am.of {B:Nat}{w w':World}(h:Below w.heap.size w w')(hB:B<=w.heap.size):Am B w w':=⟨h.mono hB,fun _ _ _ _ k=>k.below h⟩
theorem Fit.keep {e N B:Nat}{v:Value}{w w':World}(h:Fit e N v w)(k:Am B w w'):Fit e N v w' :=
 let ⟨p,n,c,h1,h2,h3⟩:=h
 ⟨p,n,c,h1,k.nat _ _ _ _ h2,h3⟩
def Ae (w:World)(b:Nat)(u:Value):Prop:=w.heap[b]? = some (.cells #[u] 37 (0,0))
theorem Ae.below {w w':World}{b B:Nat}{u:Value}(h:Ae w b u)(hb:Below B w w')(hB:b<B):Ae w' b u:=by
 unfold Ae at *;rw[hb.block b hB];exact h
theorem Ae.cell {w:World}{b:Nat}{u:Value}(h:Ae w b u):w.cell? ⟨b,0,none⟩=some u:=by
 unfold Ae at h;simp[World.cell?,h]
theorem Ae.free {w:World}{b:Nat}{u:Value}(h:Ae w b u):w.frozen? ⟨b,0,none⟩=false:=by
 unfold Ae at h;simp[World.frozen?,h]
theorem Ae.lt {w:World}{b:Nat}{u:Value}(h:Ae w b u):b<w.heap.size:=(Gs h).1
theorem Ae.set {w:World}{b:Nat}{u:Value}(h:Ae w b u)(v:Value):Ae (w.setCell ⟨b,0,none⟩ v) b v:=by
 unfold Ae at *;simp[World.setCell,Array.getElem?_modify,h]
theorem Ae.made (w:World)(u:Value):Ae (w.alloc (.cells #[u] 37)) w.heap.size u:=by
 show (w.heap.push _)[w.heap.size]? = _;simp
theorem Ag.store {w:World}{p:Option Addr}{n c N b m d:Nat}{q:Option Addr}(h:Ag w p n c N)(hb:Ae w b (.slice q m d))(v:Value):Ag (w.setCell ⟨b,0,none⟩ v) p n c N:=by
 obtain⟨ws,r1,r2,r3,r4⟩:=h.ex;rcases Nat.eq_zero_or_pos n with h0|h0
 .refine⟨ws,⟨r1.len,r1.cap,r1.max,?_⟩,r2,r3,r4⟩;rcases r1.at_ with k|⟨b',off,k1,k2,_⟩
  .exact .inl k
  .refine .inr ⟨b',off,k1,by simpa using k2,fun i x hx=>?_⟩;have:ws=[]:=List.eq_nil_of_length_eq_zero (by rw[<-r1.len];exact h0);rw[this]at hx;cases hx
 .refine h.setCell (a:=⟨b,0,none⟩) ?_ v;intro a ha hab;obtain⟨b',off,k1,k2,k3⟩:=r1.pos h0;rw[k1]at ha;cases ha
  have hbb:b'=b:=hab;subst hbb;have h1:=k3 0 (ws.getD 0 0) (by rw[Dn];simp[show 0<ws.length by rw[<-r1.len];exact h0]);unfold Ae at hb;simp only[World.cell?,hb,Nat.add_zero]at h1
  cases off with
  | zero=>simp at h1
  | succ k=>simp at h1
theorem Am.store {B:Nat}{w:World}{b m d:Nat}{q:Option Addr}(hb:Ae w b (.slice q m d))(hB:B<=b)(v:Value):Am B w (w.setCell ⟨b,0,none⟩ v) :=
 ⟨(Ba _ _).setCell hB _,fun _ _ _ _ k=>k.store hb v⟩
end Go.Proofs.YtokhckjemidbpaaGreatDoor
