/- The document's number as bytes. -/
import Derived.Test.YtnbmfaihlefgfaaGreatDoorNatD
import Derived.Deep.QuietTactic
import Derived.BigQuiet
import Derived.Lib.Tables
import Derived.Lib.BitFns
set_option maxRecDepth 1000000
set_option maxHeartbeats 16000000
set_option linter.all false
namespace Go.Proofs.YtnbmfaihlefgfaaGreatDoor
open Go Go.RowKit Go.Proofs.YtnbmfaihlefgfaaGreatDoor.Flow
theorem Ok (h l:Nat)(hh:h<4294967296)(hl:l<4294967296):bits BinOp.or IntKind.u64 ((h:Int)*4294967296) (l:Int)=((h*4294967296+l:Nat):Int):=by
 have e:(h:Int)*4294967296=((h*4294967296:Nat):Int):=by omega
 rw[e,u64_or_nat _ _ (by omega) (by omega),nat_join 32 (h*4294967296) l (by omega) (by omega)]
theorem aB (hi lo y:Nat)(w:World)(h1:hi<y)(h2:lo<4294967296)(h3:y<4294967296) :
  Calls Tryz.prog 203 #[.int .u32 hi,.int .u32 lo,.int .u32 y] w fun e w'=>
   e=.returned (.tuple #[.int .u32 ((hi*4294967296+lo)/y:Nat),.int .u32 ((hi*4294967296+lo)%y:Nat)])/\Below w.heap.size w w':=by
 have hy0:((y:Int)==0)=false:=by rw[beq_eq_false_iff_ne];omega
 have hy1:((y:Int)!=0)=true:=by rw[bne_iff_ne];omega
 have hlt:decide ((y:Int)<=hi)=false:=by simp;omega
 go_enter Tryz.func203,Tryz.ntmps203;go_wp2;rw[Ok hi lo (by omega) h2];obtain⟨z,hz⟩:∃z,hi*4294967296+lo=z:=⟨_,rfl⟩
 rw[hz];have hz1:z<18446744073709551616:=by omega
 have hz2:z<4294967296*y:=by
  have:=Nat.mul_le_mul_left 4294967296 (Nat.succ_le_of_lt h1);omega
 have hq:z/y<4294967296:=(Nat.div_lt_iff_lt_mul (by omega)).2 hz2;have hr:z%y<y:=Nat.mod_lt _ (by omega);have hq':(z:Int)/y<4294967296:=by rw[<-Int.natCast_ediv];omega
 have hr':(z:Int)%y<y:=by rw[<-Int.natCast_emod];omega
 have hq0:0<=(z:Int)/y:=by rw[<-Int.natCast_ediv];exact Int.natCast_nonneg _
 have hr0:0<=(z:Int)%y:=by rw[<-Int.natCast_emod];exact Int.natCast_nonneg _
 have HZ:=Ag hz;clear hz
 go_quiet (fail)
 go_wp2
 go_ret2
 refine⟨?_,below_drewN (Br _ _) _⟩;rw[HZ.out];simp[Int.natCast_ediv,Int.natCast_emod]
def Dy (ws:List Nat)(y:Nat):Nat->List Nat×Nat
 | 0=>([],0)
 | k+1=>((((Dy ws y k).2*4294967296+ws.getD (ws.length-1-k) 0)/y)::(Dy ws y k).1,((Dy ws y k).2*4294967296+ws.getD (ws.length-1-k) 0)%y)
theorem Nw (ws:List Nat)(y:Nat)(hw:Words ws)(hy:0<y):∀k,k<=ws.length->(Dy ws y k).1.length=k/\Words (Dy ws y k).1/\(Dy ws y k).2<y /\
  val (ws.drop (ws.length-k))=val (Dy ws y k).1*y+(Dy ws y k).2
 | 0,_=>by simp[Dy,Words.nil,val,hy]
 | k+1,hk=>by
  obtain⟨h1,h2,h3,h4⟩:=Nw ws y hw hy k (by omega);have hx:=hw.get (ws.length-1-k);have hd:ws.drop (ws.length-(k+1))=ws.getD (ws.length-1-k) 0::ws.drop (ws.length-k):=by
   rw[List.drop_eq_getElem_cons (by omega),Ex];have e:ws.length-(k+1)=ws.length-1-k:=by omega
   simp only[e,List.getElem?_eq_getElem (show ws.length-1-k<ws.length by omega),Option.getD_some]
   congr 2;omega
  simp only[Dy];rw[hd];generalize ws.getD (ws.length-1-k) 0=x at *;generalize (Dy ws y k).1=Q at *;generalize (Dy ws y k).2=r at *;have hdm:=Nat.div_add_mod (r*4294967296+x) y;have hm:=Nat.mod_lt (r*4294967296+x) hy;have hq:(r*4294967296+x)/y<4294967296:=by
   rw[Nat.div_lt_iff_lt_mul hy];have:=Nat.mul_le_mul_left 4294967296 (Nat.succ_le_of_lt h3);omega
  generalize (r*4294967296+x)/y=q at *;generalize (r*4294967296+x)%y=s at *;refine⟨by simp[h1],?_,hm,?_⟩
  .intro z hz;rcases List.mem_cons.1 hz with rfl|hz
   .exact hq
   .exact h2 z hz
  .simp only[val];rw[h4,Nat.add_mul];have e1:4294967296*val Q*y=4294967296*(val Q*y):=Nat.mul_assoc _ _ _;have e2:y*q=q*y:=Nat.mul_comm _ _;omega
theorem Ud (w:World)(p:Option Addr)(n c:Nat)(ws:List Nat)(y:Nat)(h:Row w .u32 p n c ws)(hw:Words ws)(hn:n<1000000)(hy0:0<y)(hy:y<4294967296) :
  Calls Tryz.prog 156 #[.slice p n c,.int .u32 y] w fun e w'=>∃q d,e=.returned (.tuple #[.slice q n d,.int .u32 (val ws%y:Nat)]) /\
   Row w' .u32 q n d (Dy ws y n).1/\Below w.heap.size w w'/\Ey w.heap.size q:=by
 have HL:=Ag h.len;have hmk:=Hq n (by omega);go_enter Tryz.func156,Tryz.ntmps156;go_wp2
 go_loopw [7,8] (fun r i wr=>∃k m:Nat,k+m<=n/\n<=k+m/\i=.int .i64 ((m:Int)-1)/\r=.int .u32 ((Dy ws y k).2:Nat)/\Below w.heap.size w wr/\Cf wr w.heap.size 130 .u32 (List.replicate m 0++(Dy ws y k).1)) (fun _ i _=>(intOf i+1).toNat)
 case atStart=>
  refine⟨0,n,by omega,by omega,rfl,rfl,(Br _ _).alloc (Av _) _,?_⟩;simp only[Dy,List.append_nil];exact Cf.zeros _ _ _ _
 case round=>
  obtain⟨k,m,hkm,hkm2,rfl,rfl,hbw,hblk⟩:=hrel;have hk:k<=ws.length:=by have:=HL.out;omega
  obtain⟨g1,g2,g3,g4⟩:=Nw ws y hw hy0 k hk
  cases m with
  | succ j=>
   have hrow:=h.below hbw;obtain⟨b,off,rfl,hb,hc⟩:=hrow.pos (by omega);obtain⟨x,hx⟩:∃x,ws.getD j 0=x:=⟨_,rfl⟩
   have hcx:wr.cell? ⟨b,off+j,none⟩=some (.int .u32 (x:Nat)):=hc _ _ (by
    rw[<-hx,Ex];simp[show j<ws.length by have:=HL.out;omega])
   have hx1:x<4294967296:=by rw[<-hx];exact hw.get _
   have hstep:Hid ((Dy ws y (k+1))=(((Dy ws y k).2*4294967296+x)/y::(Dy ws y k).1,((Dy ws y k).2*4294967296+x)%y)):=by
    have e:ws.length-1-k=j:=by have:=HL.out;omega
    show Dy ws y (k+1)=_;rw[Dy,e,hx]
   clear hc hx g4;generalize hQ:(Dy ws y k).1=Q at *;generalize hR:(Dy ws y k).2=r at *;have hcl:wr.cell? ⟨w.heap.size,j,none⟩=some (.int .u32 (0:Nat)):=hblk.cell (by rw[List.getElem?_append_left (by simp)];simp);have hfr:=hblk.free j;have hset:Hid (∀v,Cf (wr.setCell ⟨w.heap.size,j,none⟩ (.int .u32 ((v:Nat)))) w.heap.size 130 .u32 (List.replicate j 0++(v::Q))):=fun v=>by
    have h5:=hblk.set j v;rw[List.set_append_left _ _ (by simp),List.replicate_succ',List.set_append_right _ _ (by simp)]at h5
    simpa using h5
   have e1:(((j+1:Nat):Int)-1)=(j:Int):=by omega
   simp only[e1];clear e1 hQ hR;have hgl:=hblk.lt
   go_wp2_with fail
   refine(aB r x y _ g3 hx1 hy).mono ?_;rintro e w2 ⟨rfl,hb2⟩;have hcl2:=((Co hb2).1 _ j hgl).trans hcl;have hfr2:=((Co hb2).2 _ j hgl).trans hfr;go_wp2;go_roundw
   case rel=>
    have ed:((r:Int)*4294967296+x)/y=(((r*4294967296+x)/y:Nat):Int):=by simp[Int.natCast_ediv]
    have em:((r:Int)*4294967296+x)%y=(((r*4294967296+x)%y:Nat):Int):=by simp[Int.natCast_emod]
    rw[ed,em];refine⟨k+1,j,by omega,by omega,rfl,by rw[hstep.out],(hbw.trans (hb2.mono hbw.size)).setCell (Av _) _,?_⟩;rw[hstep.out];have h6:=(hset.out ((r*4294967296+x)/y))
    have h7:=h6;unfold Cf at h7 ⊢;have h8:(w2.setCell ⟨w.heap.size,j,none⟩ (.int .u32 (((r*4294967296+x)/y:Nat)))).heap[w.heap.size]? = (wr.setCell ⟨w.heap.size,j,none⟩ (.int .u32 (((r*4294967296+x)/y:Nat)))).heap[w.heap.size]? := by
     simp only[World.setCell,Array.getElem?_modify,if_true];rw[hb2.block _ hgl]
    rw[h8];exact h7
   case measure=>simp[intOf]
  | zero=>
   have hkn:k=n:=by omega
   have HK:=Ag hkn;rw[hkn,List.replicate_zero,List.nil_append]at hblk
   have hrow:=hblk.row (n:=n) (c:=n) (by rw[<-hkn];exact g1.symm) (Av _) (by omega);have hv:(Dy ws y k).2=val ws%y:=by
    have e0:ws.length-k=0:=by have:=HL.out;omega
    rw[e0,List.drop_zero]at g4
    rw[g4,Nat.mul_comm,Nat.mul_add_mod,Nat.mod_eq_of_lt g3]
   have HV:=Ag hv;clear hv hkn g1 g2 g3 g4;go_wp2
   go_ret2
   refine⟨_,_,?_,hrow,hbw,fun q hq=>by cases hq;exact Av _⟩;rw[<-HV.out];rfl
structure Ib (w wr:World) (u0 u1 u2 u3:Value):Prop where
 bel:Below w.heap.size w wr
 size:w.heap.size+4<=wr.heap.size
 c0:wr.cell? ⟨w.heap.size,0,none⟩=some u0
 c1:wr.cell? ⟨w.heap.size+1,0,none⟩=some u1
 c2:wr.cell? ⟨w.heap.size+1+1,0,none⟩=some u2
 c3:wr.cell? ⟨w.heap.size+1+1+1,0,none⟩=some u3
 f0:wr.frozen? ⟨w.heap.size,0,none⟩=false
 f1:wr.frozen? ⟨w.heap.size+1,0,none⟩=false
 f2:wr.frozen? ⟨w.heap.size+1+1,0,none⟩=false
 f3:wr.frozen? ⟨w.heap.size+1+1+1,0,none⟩=false
theorem Ib.below {w wr w1:World}{u0 u1 u2 u3:Value}(h:Ib w wr u0 u1 u2 u3){B:Nat}(hb:Below B wr w1)(hB:w.heap.size+4<=B):Ib w w1 u0 u1 u2 u3:=by
 obtain⟨hc,hf⟩:=Co hb;refine⟨h.bel.trans (hb.mono (by omega)),Dm h.size hb.size,?_,?_,?_,?_,?_,?_,?_,?_⟩
 .rw[hc _ _ (by omega)];exact h.c0
 .rw[hc _ _ (by omega)];exact h.c1
 .rw[hc _ _ (by omega)];exact h.c2
 .rw[hc _ _ (by omega)];exact h.c3
 .rw[hf _ _ (by omega)];exact h.f0
 .rw[hf _ _ (by omega)];exact h.f1
 .rw[hf _ _ (by omega)];exact h.f2
 .rw[hf _ _ (by omega)];exact h.f3
theorem Ib.later {w wr w1:World}{u0 u1 u2 u3:Value}(h:Ib w wr u0 u1 u2 u3)(hb:Below wr.heap.size wr w1):Ib w w1 u0 u1 u2 u3:=h.below hb h.size
theorem Ib.mk4 (w:World)(u0 u1 u2 u3:Value)(t0 t1 t2 t3:TypeId) :
  Ib w ((((w.alloc (.cells #[u0] t0)).alloc (.cells #[u1] t1)).alloc (.cells #[u2] t2)).alloc (.cells #[u3] t3)) u0 u1 u2 u3:=by
 refine⟨?_,by simp,by simp[go_sem],by simp[go_sem],by simp[go_sem],by simp[go_sem],by simp[go_sem],by simp[go_sem],by simp[go_sem],by simp[go_sem]⟩;exact((((Br _ _).alloc (Av _) _).alloc (by simp) _).alloc (by simp;omega) _).alloc (by simp;omega) _
def Fd (Q:List Nat)(B:Nat)(v:Value)(w:World):Prop:=∃q n d,v=.slice q n d/\Row w .u32 q n d Q/\Ey B q
theorem Fd.below {bs:List Nat}{B:Nat}{v:Value}{w w':World}(h:Fd bs B v w)(hb:Below w.heap.size w w'):Fd bs B v w' :=
 let ⟨q,n,d,h1,h2,h3⟩:=h
 ⟨q,n,d,h1,h2.below hb,h3⟩
def Tp (N M:Nat)(w:World)(e:Ending)(w':World):Prop:=∃p n c q m d,e=.returned (.tuple #[.agg #[.slice p n c],.agg #[.slice q m d],.int .i64 (if M=0 then 5 else 0)]) /\
 Ai w' p n c (N/M)/\Ai w' q m d (if M=0 then 0 else N%M)/\Below w.heap.size w w'/\Ey w.heap.size p/\Ey w.heap.size q
theorem Ai.nil (w:World):Ai w none 0 0 0:=⟨[],Row.nil _ _,Words.nil,by simp,by simp[val]⟩
theorem Vk (w:World)(pa:Option Addr)(na ca N:Nat)(pb:Option Addr)(nb cb M:Nat)(hA:Ai w pa na ca N)(hB:Ai w pb nb cb M)(hs:na<1000000)(hsb:nb<1000000)(hone:nb<=1 ∨ N<M) :
  Calls Tryz.prog 101 #[.agg #[.slice pa na ca],.agg #[.slice pb nb cb]] w (Tp N M w):=by
 have hbx:=Ib.mk4 w (.slice pa na ca) (.slice pb nb cb) (.slice none 0 0) (.slice none 0 0) 36 36 36 36
 by_cases hz:nb=0
 .have hM:M=0:=hB.zero.1 hz;have HM:=Ag hM;have hdz:decide (nb=0)=true:=by simp[hz]
  clear hz hM;go_enter Tryz.func101,Tryz.ntmps101
  go_wp2_with fail
  refine(Ea _ pb nb cb).mono ?_;rintro e w1 ⟨rfl,hb1⟩;have hbx1:=hbx.later hb1;have c0:=hbx1.c0;have c1:=hbx1.c1;have c2:=hbx1.c2;have c3:=hbx1.c3;have f2:=hbx1.f2;have f3:=hbx1.f3;rw[hdz];have hz1:=hbx1.size;go_wp2;refine bodyPost_ret (v:=.tuple #[.agg #[.slice none 0 0],.agg #[.slice none 0 0],.int .i64 5]) (by simp[results,Tryz.results101,go_sem,c2,c3]) rfl ⟨none,0,0,none,0,0,by simp[HM.out],?_,?_,?_,Ey.none _,Ey.none _⟩
  .rw[HM.out,Nat.div_zero];exact Ai.nil _
  .rw[if_pos HM.out];exact Ai.nil _
  .exact(hbx1.bel.setCell (by simp;omega) _).setCell (by simp;omega) _
 .have hM:M≠0:=fun h=>hz (hB.zero.2 h)
  have HM:=Ag hM;have HZ:=Ag hz;have hdz:decide (nb=0)=false:=by simp[hz]
  clear hz hM
  by_cases hlt:N<M
  .have hcm:By N M = -1:=Dn hlt;have HLT:=Ag hlt;clear hlt;go_enter Tryz.func101,Tryz.ntmps101
   go_wp2_with fail
   refine(Ea _ pb nb cb).mono ?_;rintro e w1 ⟨rfl,hb1⟩;have hbx1:=hbx.later hb1;have c0:=hbx1.c0;have c1:=hbx1.c1;rw[hdz]
   go_wp2_with fail
   refine(Hh _ pa pb na ca N nb cb M (hA.below hbx1.bel) (hB.below hbx1.bel) hs hsb).mono ?_;rintro e w2 ⟨rfl,hb2⟩;rw[hcm];have hbx2:=hbx1.later hb2;clear c0 c1;have c0:=hbx2.c0;have c1:=hbx2.c1
   go_wp2_with fail
   refine(Qz _ pa na ca N (hA.below hbx2.bel) hs).mono ?_;rintro e w3 ⟨p,n,c,rfl,hn,hb3,hp⟩;have hbx3:=hbx2.later hb3;clear c0 c1;have c2:=hbx3.c2;have c3:=hbx3.c3;have f2:=hbx3.f2;have f3:=hbx3.f3;have hz3:=hbx3.size;have hz2:=hbx2.size;go_wp2;refine bodyPost_ret (v:=.tuple #[.agg #[.slice none 0 0],.agg #[.slice p n c],.int .i64 0]) (by simp[results,Tryz.results101,go_sem,c2,c3]) rfl ⟨none,0,0,p,n,c,by simp[HM.out],?_,?_,?_,Ey.none _,hp.mono (by omega)⟩
   .rw[Nat.div_eq_of_lt HLT.out];exact Ai.nil _
   .rw[if_neg HM.out,Nat.mod_eq_of_lt HLT.out];exact(hn.setCell (a:=⟨w.heap.size+1+1,0,none⟩) (hp.ne (show w.heap.size+1+1<w2.heap.size by omega)) _).setCell (a:=⟨w.heap.size+1+1+1,0,none⟩) (hp.ne (show w.heap.size+1+1+1<w2.heap.size by omega)) _
   .exact(hbx3.bel.setCell (by simp;omega) _).setCell (by simp;omega) _
  .have hcm:decide (By N M<0)=false:=by
    have:¬By N M<0:=by unfold By;rw[if_neg hlt];split<;>omega
    simpa using this
   have HCM:=Ag hcm;have hn1:nb=1:=by
    have:=HZ.out;rcases hone with h|h
    .omega
    .exact absurd h hlt
   clear hcm hlt hone;subst hn1;obtain⟨A,a1,a2,a3,rfl⟩:=hA.ex;obtain⟨B,b1,b2,b3,rfl⟩:=hB.ex;obtain⟨y,rfl⟩:∃y,B=[y]:=List.length_eq_one_iff.1 b1.len.symm;have hv:val [y]=y:=by simp[val]
   have hy:y<4294967296:=b2 y (by simp);have hy0:0<y:=by have:=HM.out;rw[hv]at this;omega
   have HV:=Ag hv;clear hv;obtain⟨b,off,rfl,hbl,hcell⟩:=b1.pos (by omega);go_enter Tryz.func101,Tryz.ntmps101
   go_wp2_with fail
   refine(Ea _ _ _ _).mono ?_;rintro e w1 ⟨rfl,hb1⟩;have hbx1:=hbx.later hb1;have c0:=hbx1.c0;have c1:=hbx1.c1;rw[hdz]
   go_wp2_with fail
   refine(Hh _ pa _ na ca _ _ cb _ (hA.below hbx1.bel) (hB.below hbx1.bel) hs hsb).mono ?_;rintro e w2 ⟨rfl,hb2⟩;have hbx2:=hbx1.later hb2;have hcm:=HCM.out;clear c0 c1;have c0:=hbx2.c0;have c1:=hbx2.c1;have cy:w2.cell? ⟨b,off,none⟩=some (.int .u32 (y:Nat)):=by
    rw[(Co hbx2.bel).1 _ _ hbl];simpa using hcell 0 y rfl
   go_wp2;obtain⟨rr,hrr⟩:∃r,val A%y=r:=⟨_,rfl⟩
   have hr:rr<y:=by rw[<-hrr];exact Nat.mod_lt _ hy0
   have HR:=Ag hrr;clear hrr;obtain⟨g1,g2,g3,g4⟩:=Nw A y a2 hy0 na (by have:=a1.len;omega);have hq1:val (Dy A y na).1=val A/val [y]:=by
    have e0:A.length-na=0:=by have:=a1.len;omega
    rw[e0,List.drop_zero]at g4
    rw[HV.out,g4,Nat.mul_comm,Nat.mul_add_div hy0,Nat.div_eq_of_lt g3,Nat.add_zero]
   have HQ:=Ag hq1;clear hq1 g1 g3 g4;generalize hQ:(Dy A y na).1=Q at *;have HQQ:=Ag hQ;clear hQ;refine Aj (by kernel_rfl) (by kernel_rfl)
    [some (.pointer (some ⟨w.heap.size,0,none⟩)),some (.slice pa na ca),some (.pointer (some ⟨w.heap.size+1,0,none⟩)),some (.slice (some ⟨b,off,none⟩) 1 cb),some (.pointer (some ⟨b,off,none⟩)),some (.int .u32 y),none,none,none,none,none,none]
    [false,false,false,false,false,false,true,true,true,true,true,true] rfl
    (fun w1 w2=>Below w1.heap.size w1 w2)
    (fun _ w'=>Ib w w' (.slice pa na ca) (.slice (some ⟨b,off,none⟩) 1 cb) (.slice none 0 0) (.slice none 0 0))
    (fun i v w'=>match i with
     | 6|7=>∃u,v=.tuple #[u,.int .u32 (rr:Nat)]/\Fd Q (w.heap.size+4) u w'
     | 8|10=>Fd Q (w.heap.size+4) v w'
     | _=>v=.int .u32 (rr:Nat))
    ?_ (hbx2.below (Br _ _).drew (Av _)) ?_ ?_
   .intro i v w1 w2 hf hb;split at hf
    .exact hf.imp fun u h=>⟨h.1,h.2.below hb⟩
    .exact hf.imp fun u h=>⟨h.1,h.2.below hb⟩
    .exact hf.below hb
    .exact hf.below hb
    .exact hf
   .simp only[Bu,Nat.reduceAdd];refine⟨?_,?_,?_,?_,?_,?_,?_,?_,?_,?_,?_,?_,trivial⟩
    case refine_7=>
     intro D sp w' hD hW hdp hbx'
     (with_reducible refine Ac (w1:=w') (f := 156) (args:=#[.slice pa na ca,.int .u32 y]) ?_ ?_ ?_)
     .simp only[Region.wanted]
     .simp[Act.eval,Act.put,go_sem]
     .refine(Ud w' pa na ca A y (a1.below hbx'.bel) a2 hs hy0 hy).mono ?_;rintro e w3 ⟨q,d,rfl,hrow,hb,hq⟩;rw[HQQ.out]at hrow
      rw[HR.out];exact⟨_,rfl,hb,⟨_,rfl,q,na,d,rfl,hrow,hq.mono (by have:=hbx'.size;omega)⟩,hbx'.later hb⟩
    case refine_8=>
     intro D sp w' hD hW hdp hbx';have hx:∃u,sp 6=.tuple #[u,.int .u32 (rr:Nat)]/\Fd Q (w.heap.size+4) u w':=(hdp 6 (mq (by kernel_rfl))).2
     (with_reducible refine Bp hx fun u hu=>?_)
     have h1:=hu.1;have h2:=hu.2
     (with_reducible refine Ah (w1:=w') (v:=.tuple #[u,.int .u32 (rr:Nat)]) ?_ ?_ ?_)
     .simp only[Region.wanted]
     .simp[execOp,Act.eval,Act.put,go_sem,h1]
     .exact⟨Br _ _,⟨u,rfl,h2⟩,hbx'⟩
    case refine_9=>
     intro D sp w' hD hW hdp hbx';have hx:∃u,sp 7=.tuple #[u,.int .u32 (rr:Nat)]/\Fd Q (w.heap.size+4) u w':=(hdp 7 (mq (by kernel_rfl))).2
     (with_reducible refine Bp hx fun u hu=>?_)
     have h1:=hu.1;have h2:=hu.2
     (with_reducible refine Ah (w1:=w') (v:=u) ?_ ?_ ?_)
     .simp only[Region.wanted]
     .simp[execOp,Act.eval,Act.put,go_sem,h1]
     .exact⟨Br _ _,h2,hbx'⟩
    case refine_10=>
     intro D sp w' hD hW hdp hbx';have hx:∃u,sp 7=.tuple #[u,.int .u32 (rr:Nat)]/\Fd Q (w.heap.size+4) u w':=(hdp 7 (mq (by kernel_rfl))).2
     (with_reducible refine Bp hx fun u hu=>?_)
     have h1:=hu.1
     (with_reducible refine Ah (w1:=w') (v:=.int .u32 (rr:Nat)) ?_ ?_ ?_)
     .simp only[Region.wanted]
     .simp[execOp,Act.eval,Act.put,go_sem,h1]
     .exact⟨Br _ _,rfl,hbx'⟩
    case refine_11=>
     intro D sp w' hD hW hdp hbx';have h2:Fd Q (w.heap.size+4) (sp 8) w':=(hdp 8 (mq (by kernel_rfl))).2
     (with_reducible refine Ah (w1:=w') (v:=sp 8) ?_ ?_ ?_)
     .simp only[Region.wanted]
     .simp[execOp,Act.eval,Act.put,go_sem]
     .exact⟨Br _ _,h2,hbx'⟩
    case refine_12=>
     intro D sp w' hD hW hdp hbx';have h2:sp 9=.int .u32 (rr:Nat):=(hdp 9 (mq (by kernel_rfl))).2
     (with_reducible refine Ah (w1:=w') (v:=.int .u32 (rr:Nat)) ?_ ?_ ?_)
     .simp only[Region.wanted]
     .simp[execOp,Act.eval,Act.put,go_sem,h2]
     .exact⟨Br _ _,rfl,hbx'⟩
    all_goals
     intro D sp w' hD hW hdp hbx';have c0:=hbx'.c0;have c1:=hbx'.c1;have cy:w'.cell? ⟨b,off,none⟩=some (.int .u32 (y:Nat)):=by
      rw[(Co hbx'.bel).1 _ _ hbl];simpa using hcell 0 y rfl
     simp[asked,Region.wanted,Oper.gives,execOp,Act.eval,Act.put,go_sem,c0,c1,cy]
   .intro sp w' hsp hbx';have h10:Fd Q (w.heap.size+4) (sp 10) w':=hsp 10 rfl;have h11:sp 11=.int .u32 (rr:Nat):=hsp 11 rfl;clear hsp;simp only[An,Nat.reduceAdd];rw[h11];obtain⟨q,n,d,h1,hq,hqn⟩:=h10;rw[h1];generalize sp 6=u6,sp 7=u7,sp 8=u8,sp 9=u9 at *
    go_simp
    have h4:=hbx'.size;have f2:=hbx'.f2;have f3:=hbx'.f3
    go_wp2_with fail
    refine(Cv _ _ _ _ _ hq g2).mono ?_;rintro e w3 ⟨p,n1,c1,rfl,hn,hb3,hp⟩;rw[HQ.out]at hn
    have hbx3:=hbx'.later hb3
    go_wp2_with fail
    refine(Da rr w3 (by omega)).mono ?_;rintro e w4 ⟨p2,n2,d2,rfl,hn2,hb4,hp2⟩;have hbx4:=hbx3.later hb4;have hnn:=hn.below hb4;have hpn:Ey (w.heap.size+4) p:=by
     rcases hp with rfl|rfl
     .exact Ey.none _
     .exact hqn
    have hp2n:Ey (w.heap.size+4) p2:=hp2.mono hbx3.size;clear f2 f3 h4;have c2:=hbx4.c2;have c3:=hbx4.c3;have f2:=hbx4.f2;have f3:=hbx4.f3;have h4:=hbx4.size;go_wp2;refine bodyPost_ret (v:=.tuple #[.agg #[.slice p n1 c1],.agg #[.slice p2 n2 d2],.int .i64 0]) (by simp[results,Tryz.results101,go_sem,c2,c3]) rfl ⟨p,n1,c1,p2,n2,d2,by simp[HM.out],?_,?_,?_,hpn.mono (by omega),hp2n.mono (by omega)⟩
    .exact(hnn.setCell (a:=⟨w.heap.size+1+1,0,none⟩) (hpn.ne (show w.heap.size+1+1<w.heap.size+4 by omega)) _).setCell (a:=⟨w.heap.size+1+1+1,0,none⟩) (hpn.ne (show w.heap.size+1+1+1<w.heap.size+4 by omega)) _
    .rw[if_neg HM.out,HV.out,HR.out];exact(hn2.setCell (a:=⟨w.heap.size+1+1,0,none⟩) (hp2n.ne (show w.heap.size+1+1<w.heap.size+4 by omega)) _).setCell (a:=⟨w.heap.size+1+1+1,0,none⟩) (hp2n.ne (show w.heap.size+1+1+1<w.heap.size+4 by omega)) _
    .exact(hbx4.bel.setCell (by simp;omega) _).setCell (by simp;omega) _
theorem Qq:(⟨((([0,1,2,2,3,3,3,3,4,4,4,4,4,4,4,4,5,5,5,5,5,5,5,5,5,5,5,5,5,5,5,5,6,6,6,6,6,6,6,6,6,6,6,6,6,6,6,6,6,6,6,6,6,6,6,6,6,6,6,6,6,6,6,6]:List UInt8).append [7,7,7,7,7,7,7,7,7,7,7,7,7,7,7,7,7,7,7,7,7,7,7,7,7,7,7,7,7,7,7,7,7,7,7,7,7,7,7,7,7,7,7,7,7,7,7,7,7,7,7,7,7,7,7,7,7,7,7,7,7,7,7,7]).append (([8,8,8,8,8,8,8,8,8,8,8,8,8,8,8,8,8,8,8,8,8,8,8,8,8,8,8,8,8,8,8,8,8,8,8,8,8,8,8,8,8,8,8,8,8,8,8,8,8,8,8,8,8,8,8,8,8,8,8,8,8,8,8,8]:List UInt8).append [8,8,8,8,8,8,8,8,8,8,8,8,8,8,8,8,8,8,8,8,8,8,8,8,8,8,8,8,8,8,8,8,8,8,8,8,8,8,8,8,8,8,8,8,8,8,8,8,8,8,8,8,8,8,8,8,8,8,8,8,8,8,8,8])).toArray⟩:ByteArray)=Lib.len8tab:=by kernel_rfl
theorem gD:∀n:Fin 256,Lib.len8 (n.val:Int)=(Ak n.val:Int):=by decide +kernel
theorem Rm (y:Int)(h0:0<=y)(h1:y<=255)(h:y.toNat<Lib.len8tab.size):((Lib.len8tab[y.toNat]'h).toNat:Int)=(Ak y.toNat:Nat):=by
 have e:=gD ⟨y.toNat,by omega⟩;simp only[Int.toNat_of_nonneg h0]at e;rw[<-e];unfold Lib.len8;rw[getElem?_pos Lib.len8tab y.toNat h];rfl
theorem Pl (k:Nat)(m n:Nat)(hk:k<=24)(hm:Ak m<=64)(e:Ak n=k+Ak m):wrap64 ((k:Int)+wrap64 (Ak m:Nat))=(Ak n:Nat):=by
 rw[e,IntWalk.wrap64_in (Ak m:Nat) ⟨by omega,by omega⟩,IntWalk.wrap64_in _ ⟨by omega,by omega⟩];omega
theorem bG (m:Nat)(hm:Ak m<=64):wrap64 (wrap64 (Ak m:Nat))=(Ak m:Nat):=by
 rw[IntWalk.wrap64_in (Ak m:Nat) ⟨by omega,by omega⟩,IntWalk.wrap64_in _ ⟨by omega,by omega⟩]
theorem gE (x:Int)(w:World)(h0:0<=x)(hx:x<=4294967295) :
  Calls Tryz.prog 227 #[.int .u32 x] w fun e w'=>e=.returned (.int .i64 (Ak x.toNat:Nat))/\w=w':=by
 have hs:Lib.len8tab.size=256:=Lib.len8tab_size;go_enter Tryz.func227,Tryz.ntmps227;rw[Qq];go_wp2
 all_goals first
  | (go_ret;refine⟨congrArg Ending.returned (congrArg (Value.int IntKind.i64) ?_),rfl⟩)
  | (exfalso;omega)
 all_goals first
  | (rw[Rm (x/65536/256) (by omega) (by omega)];exact Pl 24 _ _ (by omega) (Mr (by omega)) (by rw[show (x/65536/256).toNat=x.toNat/2^24 by omega];exact Hv _ _ (by omega)))
  | (rw[Rm (x/65536) (by omega) (by omega)];exact Pl 16 _ _ (by omega) (Mr (by omega)) (by rw[show (x/65536).toNat=x.toNat/2^16 by omega];exact Hv _ _ (by omega)))
  | (rw[Rm (x/256) (by omega) (by omega)];exact Pl 8 _ _ (by omega) (Mr (by omega)) (by rw[show (x/256).toNat=x.toNat/2^8 by omega];exact Hv _ _ (by omega)))
  | (rw[Rm x (by omega) (by omega)];exact bG _ (Mr (by omega)))
theorem Qr (x:Nat)(w:World)(hx:x<4294967296) :
  Calls Tryz.prog 227 #[.int .u32 x] w fun e w'=>e=.returned (.int .i64 (Ak x:Nat))/\w=w':=by
 have:=gE x w (by omega) (by omega);simpa using this
theorem dJ {ws:List Nat}{x:Nat}(hw:Words (ws++[x]))(hx:x≠0):Ak (val (ws++[x]))=32*ws.length+Ak x:=by
 rw[Ee];have hb:Ao ws.length=2^(32*ws.length):=by unfold Ao;rw[show (4294967296:Nat)=2^32 from rfl,<-Nat.pow_mul]
 have h1:val ws<Ao ws.length:=Words.lt fun y hy=>hw y (by simp[hy])
 have hd:(val ws+Ao ws.length*x)/2^(32*ws.length)=x:=by
  rw[<-hb,Nat.add_mul_div_left _ _ (Fj _),Nat.div_eq_of_lt h1,Nat.zero_add]
 have:=Hv (val ws+Ao ws.length*x) (32*ws.length) (by rw[hd];omega);rw[hd]at this
 exact this
theorem Gh (w:World)(p:Option Addr)(n c N:Nat)(h:Ai w p n c N)(hn:n<1000000) :
  Calls Tryz.prog 199 #[.agg #[.slice p n c]] w fun e w'=>e=.returned (.int .i64 (Ak N:Nat))/\Below w.heap.size w w':=by
 have hbx:=Dq.mk1 w (.slice p n c) 36
 by_cases h0:n=0
 .have hN:N=0:=h.zero.1 h0;subst hN;have hd:decide (n=0)=true:=by simpa using h0
  clear h0;go_enter Tryz.func199,Tryz.ntmps199
  go_wp2_with fail
  refine(Ea _ p n c).mono ?_;rintro e w1 ⟨rfl,hb1⟩;go_wp2;go_ret;exact⟨rfl,(hbx.later hb1).bel⟩
 .obtain⟨m,rfl⟩:∃m,n=m+1:=⟨n-1,by omega⟩
  obtain⟨ws,h1,h2,h3,h4⟩:=h.ex;have hl:=h1.len;obtain⟨xs,x,rfl⟩:∃xs x,ws=xs++[x]:=by
   rcases List.eq_nil_or_concat ws with rfl|⟨xs,x,h⟩
   .simp at hl
   .exact⟨xs,x,by simpa using h⟩
  have hxm:xs.length=m:=by simp at hl;omega
  have hx0:x≠0:=by simpa using h3
  have hx1:x<4294967296:=h2 x (by simp);have hbl:=dJ h2 hx0;rw[h4,hxm]at hbl
  have HBL:=Ag hbl;have hxb:Ak x<=32:=by rw[Bq];exact hx1
  obtain⟨b,off,rfl,hb,hc⟩:=h1.pos (by omega);have hci:∀w',Below w.heap.size w w'->w'.cell? ⟨b,off+m,none⟩=some (.int .u32 (x:Nat)):=fun w' hb'=>by
   rw[(Co hb').1 _ _ hb];exact hc m x (by rw[<-hxm];simp)
  have hd:decide (m+1=0)=false:=by simp
  clear hc hl h4 hbl hxm;go_enter Tryz.func199,Tryz.ntmps199
  go_wp2_with fail
  refine(Ea _ _ (m+1) c).mono ?_;rintro e w1 ⟨rfl,hb1⟩;have hbx1:=hbx.later hb1;have c0:=hbx1.c0;have hcx:=hci w1 hbx1.bel;clear hci
  go_wp2_with fail
  refine(Qr x _ hx1).mono ?_;rintro e w2 ⟨rfl,rfl⟩;go_wp2;go_ret;refine⟨?_,hbx1.bel⟩;rw[HBL.out];exact congrArg (fun z=>Ending.returned (.int .i64 z)) (by omega)
def Em (N n:Nat):List Nat:=(List.range n).map fun i=>N/B8 i%256
def Ef (N n:Nat):List Nat:=(Em N n).reverse
def Ay (N:Nat):Nat:=(Ak N+7)/8
theorem Cx (N n:Nat):(Em N n).length=n:=by simp[Em]
theorem Pu (N n:Nat):Em N (n+1)=Em N n++[N/B8 n%256]:=by simp[Em,List.range_succ]
theorem Np (N n:Nat):Bv (Em N n):=by
 intro x hx;simp only[Em,List.mem_map]at hx;obtain⟨j,_,rfl⟩:=hx;exact Nat.mod_lt _ (by omega)
theorem aO (N:Nat):N<B8 (Ay N):=by
 rw[Ja];refine(Bq N _).1 ?_;unfold Ay;omega
theorem Pa {N n:Nat}:Ay N<=n ↔ N<B8 n:=by
 rw[Ja,<-Bq];unfold Ay;omega
theorem kQ {N k n:Nat}(h:N<B8 k)(hk:k<=n):Em N k++List.replicate (n-k) 0=Em N n:=by
 obtain⟨d,rfl⟩:∃d,n=k+d:=⟨n-k,by omega⟩
 rw[Nat.add_sub_cancel_left];clear hk
 induction d with
 | zero=>simp
 | succ d ih=>
  rw[List.replicate_succ',<-List.append_assoc,ih,<-Nat.add_assoc,Pu]
  congr 2
  have:B8 k<=B8 (k+d):=Ip (by omega);rw[Nat.div_eq_of_lt (by omega)]
theorem Wt (N:Nat):∀n,le (Em N n)=N%B8 n
 | 0=>by simp[Em,le,Io,Nat.mod_one]
 | n+1=>by rw[Pu,eL,Cx,Wt N n,Gp,Nat.mul_comm 256,Nat.mod_mul]
theorem Ql (l:List Nat)(k x:Nat)(hk:k<l.length):l.reverse.set (l.length-1-k) x=(l.set k x).reverse:=by
 apply List.ext_getElem (by simp);intro i h1 h2;simp only[List.length_set,List.length_reverse]at h1;rw[List.getElem_set,List.getElem_reverse,List.getElem_reverse,List.getElem_set];simp only[List.length_set]
 by_cases h:l.length-1-k=i
 .rw[if_pos h,if_pos (by omega)]
 .rw[if_neg h,if_neg (by omega)]
theorem Xp {N q r:Nat}(hr:r<4):N/Ao q%4294967296/B8 r%256=N/B8 (4*q+r)%256:=by
 have e:(4294967296:Nat)=B8 r*(256*B8 (3-r)):=by
  rw[<-Gp,<-eA,show r+(3-r+1)=4 by omega];rfl
 rw[e,Nat.mod_mul_right_div_self,Nat.mod_mul_right_mod,Nat.div_div_eq_div_mul,eA,Mv]
theorem Jv (w:World)(p:Option Addr)(n c N:Nat)(h:Ai w p n c N)(hn:n<1000000)(hN:Ak N<=1000000000) :
  Calls Tryz.prog 150 #[.agg #[.slice p n c]] w fun e w'=>e=.returned (.int .i64 (Ay N:Nat))/\Below w.heap.size w w':=by
 have hbx:=Dq.mk1 w (.slice p n c) 36;obtain⟨k,hk⟩:∃k,Ak N=k:=⟨_,rfl⟩
 have HK:Hid (Ay N=(k+7)/8):=by rw[<-hk];rfl
 go_enter Tryz.func150,Tryz.ntmps150
 go_wp2_with fail
 refine(Gh _ p n c N (h.below hbx.bel) hn).mono ?_;rintro e w1 ⟨rfl,hb1⟩;rw[hk]at hN
 simp only[hk];clear hk;go_wp2;go_ret;refine⟨?_,(hbx.later hb1).bel⟩;rw[HK.out];exact congrArg (fun z=>Ending.returned (.int .i64 z)) (by omega)
def Od (N:Nat)(size:Int)(w:World)(e:Ending)(w':World):Prop :=
 ∃q n d k,e=.returned (.tuple #[.slice q n d,.int .i64 k])/\Row w' .u8 q n d (if size<0 then [] else if size<Ay N then [] else Ef N size.toNat) /\
  (k=if size<0 then 1 else if size<Ay N then 2 else 0)/\Below w.heap.size w w'/\Ey w.heap.size q
theorem iG (w:World)(p:Option Addr)(n c N s:Nat)(h:Ai w p n c N)(hn:n<1000000)(hN:Ak N<=1000000000)(hs:(s:Int)<=1000000)(h2:¬(s:Int)<Ay N) :
  Calls Tryz.prog 149 #[.agg #[.slice p n c],.int .i64 s] w fun e w'=>∃g,e=.returned (.tuple #[.slice (some ⟨g,0,none⟩) s s,.int .i64 0])/\Cf w' g 5 .u8 (Ef N s)/\Below w.heap.size w w'/\w.heap.size<=g:=by
 have hbx:=Dq.mk1 w (.slice p n c) 36;have h1:¬(s:Int)<0:=by omega
 obtain⟨m,hm⟩:∃m,Ay N=m:=⟨_,rfl⟩
 have HM:Hid (∀k,m<=k ↔ N<B8 k):=fun k=>by rw[<-hm];exact Pa
 rw[hm]at h2
 obtain⟨ws,r1,r2,r3,r4⟩:=h.ex;have hmk:=Wp s (by omega);have hms:m<=s:=by omega
 have HR4:=Ag r4;go_enter Tryz.func149,Tryz.ntmps149
 go_wp2_with fail
 refine(Jv _ p n c N (h.below hbx.bel) hn hN).mono ?_;rintro e w1 ⟨rfl,hb1⟩;simp only[hm];clear hm r4;have hbx1:=hbx.later hb1;have hz1:w.heap.size<w1.heap.size:=hbx1.size;go_wp2
 go_loopw [24] (fun i wr=>∃k:Nat,k<=m/\i=.int .i64 k/\Dq w wr (.slice p n c)/\w1.heap.size<wr.heap.size/\Below w1.heap.size w1 wr/\Cf wr w1.heap.size 5 .u8 ((Em N k++List.replicate (s-k) 0).reverse)) (fun i _=>m-(intOf i).toNat)
 case atStart=>
  refine⟨0,by omega,rfl,hbx1.alloc _,by simp,(Br _ _).alloc (Av _) _,?_⟩;have:=Cf.zeros w1 5 .u8 s;simpa [Em]using this
 case round=>
  obtain⟨k,hk,rfl,hbr,hsz,hbw,hblk⟩:=hrel;have c0:=hbr.c0
  by_cases hkm:k<m
  .have hkn:k/4<n:=by
    rcases Nat.lt_or_ge (k/4) n with h3|h3
    .exact h3
    .exfalso;have h4:=r2.lt;rw[<-r1.len]at h4
     have h5:N<B8 k:=by
      have:Ao n<=B8 k:=by rw[<-Mv];exact Ip (by omega)
      have:=HR4.out;omega
     have h6:=(HM.out k).2 h5;omega
   obtain⟨b,off,rfl,hb,hc⟩:=r1.pos (by omega);obtain⟨x,hx⟩:∃x,ws.getD (k/4) 0=x:=⟨_,rfl⟩
   have hci:wr.cell? ⟨b,off+k/4,none⟩=some (.int .u32 (x:Nat)):=by
    rw[(Co hbr.bel).1 _ _ hb];exact hc _ x (by rw[<-hx,Ex];simp[show k/4<ws.length by have:=r1.len;omega])
   have hx1:x<4294967296:=by rw[<-hx];exact r2.get _
   have hlen:(Em N k++List.replicate (s-k) 0).length=s:=by rw[List.length_append,Cx,List.length_replicate];omega
   have hcl:wr.cell? ⟨w1.heap.size,s-1-k,none⟩=some (.int .u8 (((Em N k++List.replicate (s-k) 0).reverse.getD (s-1-k) 0:Nat))):=hblk.cell (by
    rw[Ex];have:s-1-k<(Em N k++List.replicate (s-k) 0).reverse.length:=by rw[List.length_reverse,hlen];omega
    simp only[List.getElem?_eq_getElem this,Option.getD_some])
   have hfr:=hblk.free (s-1-k);have hbyte:x/2^(k%4*8)%256=N/B8 k%256:=by
    have hd:=digit ws r2 (k/4);rw[HR4.out,hx]at hd
    rw[<-hd,Nat.mul_comm (k%4) 8,<-Ja,Xp (Nat.mod_lt _ (by omega))]
    congr 3;omega
   have hset:Hid (Cf (wr.setCell ⟨w1.heap.size,s-1-k,none⟩ (.int .u8 ((N/B8 k%256:Nat)))) w1.heap.size 5 .u8 ((Em N (k+1)++List.replicate (s-(k+1)) 0).reverse)):=by
    have h5:=hblk.set (s-1-k) (N/B8 k%256);have h6:=Ql (Em N k++List.replicate (s-k) 0) k (N/B8 k%256) (by rw[hlen];omega);rw[hlen]at h6
    rw[h6]at h5
    have h7:s-k=(s-(k+1))+1:=by omega
    have h8:(Em N k++List.replicate (s-k) 0).set k (N/B8 k%256)=Em N (k+1)++List.replicate (s-(k+1)) 0:=by
     rw[h7,Pu];have:=Mf (Em N k) (s-(k+1)) (N/B8 k%256);rw[Cx]at this
     exact this
    rw[h8]at h5
    exact h5
   have HX:=Ag hx;have HB:=Ag hbyte;have hk3:k%4<4:=Nat.mod_lt _ (by omega);clear hc hx hbyte hlen;go_wp2;go_roundw
   case rel=>
    have e:((x:Int)/2^(k%4*8)%256)=((N/B8 k%256:Nat):Int):=by
     rw[<-HB.out];simp
    rw[e];exact⟨k+1,by omega,by go_num,hbr.below (B:=w.heap.size+1) ((Br _ _).setCell (by simp;omega) _) (Av _),by simpa using hsz,hbw.setCell (by simp) _,hset.out⟩
   case measure=>simp[intOf];omega
  .have hkm':m<=k:=by omega
   rw[kQ ((HM.out k).1 hkm') (by omega)]at hblk
   have HRow:Hid (Cf wr w1.heap.size 5 .u8 (Ef N s)):=hblk;have hbel:=hbr.bel;go_wp2
   go_ret2
   exact⟨_,rfl,HRow.out,hbel,Nat.le_of_lt hz1⟩
theorem aN (w:World)(p:Option Addr)(n c N:Nat)(size:Int)(h:Ai w p n c N)(hn:n<1000000)(hN:Ak N<=1000000000)(hs:size<=1000000)(hs0:-9223372036854775808<=size) :
  Calls Tryz.prog 149 #[.agg #[.slice p n c],.int .i64 size] w (Od N size w):=by
 have hbx:=Dq.mk1 w (.slice p n c) 36
 by_cases h1:size<0
 .have HG:Hid (∀w',Below w.heap.size w w'->Od N size w (.returned (.tuple #[.slice none 0 0,.int .i64 1])) w'):=fun w' hb=>⟨none,0,0,1,rfl,by rw[if_pos h1];exact Row.nil _ _,by rw[if_pos h1],hb,Ey.none _⟩
  go_enter Tryz.func149,Tryz.ntmps149
  go_wp2_with fail
  refine(Jv _ p n c N (h.below hbx.bel) hn hN).mono ?_;rintro e w1 ⟨rfl,hb1⟩;go_wp2
  go_ret2
  exact HG.out _ (hbx.later hb1).bel
 .by_cases h2:size<Ay N
  .have HG:Hid (∀w',Below w.heap.size w w'->Od N size w (.returned (.tuple #[.slice none 0 0,.int .i64 2])) w'):=fun w' hb=>⟨none,0,0,2,rfl,by rw[if_neg h1,if_pos h2];exact Row.nil _ _,by rw[if_neg h1,if_pos h2],hb,Ey.none _⟩
   go_enter Tryz.func149,Tryz.ntmps149
   go_wp2_with fail
   refine(Jv _ p n c N (h.below hbx.bel) hn hN).mono ?_;rintro e w1 ⟨rfl,hb1⟩;go_wp2
   go_ret2
   exact HG.out _ (hbx.later hb1).bel
  .obtain⟨s,rfl⟩:=Int.eq_ofNat_of_zero_le (show 0<=size by omega);refine(iG w p n c N s h hn hN hs h2).mono ?_;rintro e w' ⟨g,rfl,hb,hbel,hg⟩;have hl:(Ef N s).length=s:=by rw[Ef,List.length_reverse,Cx]
   exact⟨some ⟨g,0,none⟩,s,s,0,rfl,by rw[if_neg h1,if_neg h2];exact hb.row hl.symm (Av _) (by omega),by rw[if_neg h1,if_neg h2],hbel,fun q hq=>by cases hq;exact hg⟩
def bit (N i:Nat):Bool:=decide (N/2^i%2=1)
def bitsOf (N:Nat):List Bool:=(List.range (Ak N)).map (bit N)
def Ck (N k:Nat):List Bool:=(List.range k).map (bit N)
theorem Ep (N k:Nat):Ck N (k+1)=Ck N k++[bit N k]:=by simp[Ck,List.range_succ]
theorem Nh (N k:Nat):(Ck N k).length=k:=by simp[Ck]
theorem Bo (N:Nat):(bitsOf N).length=Ak N:=by simp[bitsOf]
theorem Di {N i:Nat}(h:i<Ak N):(bitsOf N)[i]? = some (bit N i):=by simp[bitsOf,h]
theorem eT {N k:Nat}(h:0<N/2^k):k<Ak N:=by
 rcases Nat.lt_or_ge k (Ak N) with h1|h1
 .exact h1
 .rw[Nat.div_eq_of_lt ((Bq N k).1 h1)]at h;omega
theorem oQ {N k:Nat}(h:N/2^k=0)(hk:k<=Ak N):k=Ak N:=by
 refine Nat.le_antisymm hk ((Bq N k).2 ?_);exact(Nat.div_eq_zero_iff.1 h).resolve_left (by have:=Nat.pow_pos (n:=k) (show 0<2 by omega);omega)
theorem Mm (N k:Nat):N%2^(k+1)=N%2^k+(if bit N k then 2^k else 0):=by
 rw[Nat.pow_succ,Nat.mod_mul];unfold bit;have:N/2^k%2<2:=Nat.mod_lt _ (by omega)
 by_cases h:N/2^k%2=1
 .simp[h]
 .have:N/2^k%2=0:=by omega
  simp[this]
structure Ff (w:World) (p:Option Addr) (n c:Nat) (xs:List Bool):Prop where
 len:n=xs.length
 cap:n<=c
 max:c<=9223372036854775807
 at_:(p=none/\n=0/\c=0) ∨ ∃b off,p=some ⟨b,off,none⟩/\b<w.heap.size/\∀(i:Nat) (x:Bool),xs[i]? = some x->w.cell? ⟨b,off+i,none⟩=some (.bool x)
theorem Ff.below {w w':World}{p:Option Addr}{n c:Nat}{xs:List Bool}(h:Ff w p n c xs)(hb:Below w.heap.size w w'):Ff w' p n c xs:=by
 refine⟨h.len,h.cap,h.max,?_⟩;rcases h.at_ with h1|⟨b,off,h1,h2,h3⟩
 .exact .inl h1
 .refine .inr ⟨b,off,h1,Eh h2 hb.size,fun i x hx=>?_⟩;rw[hb.cell (p:=⟨b,off+i,none⟩) h2];exact h3 i x hx
theorem Ff.nil (w:World):Ff w none 0 0 []:=⟨rfl,Av _,by omega,.inl ⟨rfl,rfl,rfl⟩⟩
theorem Ff.pos {w:World}{p:Option Addr}{n c:Nat}{xs:List Bool}(h:Ff w p n c xs)(hn:0<n) :
  ∃b off,p=some ⟨b,off,none⟩/\b<w.heap.size/\∀(i:Nat) (x:Bool),xs[i]? = some x->w.cell? ⟨b,off+i,none⟩=some (.bool x):=by
 rcases h.at_ with h1|h1
 .omega
 .exact h1
theorem Ff.of_owns {w:World}{base:Nat}{e:TypeId}{v:Value}{n:Nat}{ws:List Bool}(h:w.ownsRow base e 1 v n (ws.map Value.bool)) :
  ∃q d,v=.slice q n d/\Ff w q n d ws/\Ey base q:=by
 have hl:ws.length=n:=by have:=h.1;simpa using this
 rcases h.2 with ⟨rfl,rfl⟩|⟨g,cap,cur,rfl,hb,hg,hnc,hcm,hcs,htake⟩
 .have:ws=[]:=List.eq_nil_of_length_eq_zero hl;subst this;exact⟨none,0,rfl,Ff.nil _,Ey.none _⟩
 .refine⟨_,cap,rfl,⟨hl.symm,hnc,by simpa [maxLen]using hcm,.inr ⟨g,0,rfl,(Hy hg).1,fun i x hx=>?_⟩⟩,fun q hq=>by cases hq;exact hb⟩;rw[Nat.zero_add,cell_of_row w g i cur e (0,0) hg];have hi:i<n:=by rw[<-hl];exact(List.getElem?_eq_some_iff.1 hx).1
  have:(cur.toList.take (n*1))[i]? = some (.bool x):=by rw[htake];simp[hx]
  rw[List.getElem?_take,if_pos (by omega)]at this
  simpa using this
theorem Tryz.info_bool:(Tryz.prog.info? 4).map (fun i=>(i.zero,i.size,i.bytes))=some (some (.bool false),1,1):=by kernel_rfl
def Bt (w:World)(p:Option Addr)(n c N:Nat):Prop:=Ff w p n c (bitsOf N)
theorem Bt.below {w w':World}{p:Option Addr}{n c N:Nat}(h:Bt w p n c N)(hb:Below w.heap.size w w'):Bt w' p n c N:=Ff.below h hb
theorem De {w:World}{q:Option Addr}{m d N:Nat}(k:Bt w q m d N):m=Ak N:=by have:=k.len;rwa [Bo]at this
def Hk (N:Nat)(w:World)(e:Ending)(w':World):Prop:=∃p n c,e=.returned (.slice p n c)/\Bt w' p n c N/\Below w.heap.size w w'/\Ey w.heap.size p
theorem Gq (N:Nat)(w:World)(hN:N<18446744073709551616) :
  Calls Tryz.prog 27 #[.int .u64 N] w (Hk N w):=by
 obtain⟨i0,hi,hz0,hz1,hz2⟩:=info_parts Tryz.info_bool;have h64:Ak N<=64:=(Bq N 64).2 hN;have hown:=World.ownsRow_made w (base:=w.heap.size) (e := 4) (size:=1) #[] 0 (Av _) (by simp[maxLen]) (by simp);go_enter Tryz.func27,Tryz.ntmps27;go_wp2
 go_loopw [0,3] (fun u v wr=>∃k x:Nat,k<=Ak N/\Hid (N/2^k=x)/\u=.int .u64 x/\x<18446744073709551616/\wr.ownsRow w.heap.size 4 1 v k ((Ck N k).map Value.bool)/\Below w.heap.size w wr) (fun u _ _=>(intOf u).toNat)
 case atStart=>
  refine⟨0,N,Nat.zero_le _,Ag (by simp),rfl,hN,?_,(Br _ _).alloc (Av _) _⟩;simpa [Ck]using hown
 case round=>
  obtain⟨k,x,hk,hx,rfl,hx1,ho,hbw⟩:=hrel;have hh:Hid (N/2^(k+1)=x/2):=Ag (by rw[Nat.pow_succ,<-Nat.div_div_eq_div_mul,hx.out]);have hbt:bit N k=((x:Int)%2==1):=by
   unfold bit;rw[hx.out,Bool.eq_iff_iff];simp;omega
  have HB:=Ag hbt;clear hbt
  go_wp2_with (at_builtin;refine wpList_append_own _ rfl _ _ 28 rfl w.heap.size 4 i0 (.bool false) 1 1 Tryz.underlying28 hi hz0 hz1 hz2 rfl (by decide) _ _ _ rfl (ho.alloc _) ⟨wr.heap.size,0,none⟩ 1 1 [.bool ((x:Int)%2==1)] rfl rfl ?c1 ?c2 ?c3 ?c4 ?c5 ?_)
  case c1=>
   intro j u hj
   match j,hj with
   | 0,hj=>simp at hj;subst hj;simp[Addr.add]
  case c2=>intro u hu;simp at hu;subst hu;rfl
  case c3=>unfold maxLen;omega
  case c4=>omega
  case c5=>have:=hbw.size;simp;omega
  .intro v' w1 ho' hg _;have hx0:0<x:=by assumption
   have hkl:k<Ak N:=eT (by rw[hx.out];exact hx0);have hbw1:Below w.heap.size w w1:=(hbw.alloc hbw.size _).grown hg (by have:=hbw.size;simp;omega) (fun j hj=>(ho.lt j hj).1);have ho1:w1.ownsRow w.heap.size 4 1 v' (k+1) ((Ck N (k+1)).map Value.bool):=by
    rw[Ep,List.map_append,HB.out];exact ho'
   clear ho' hg ho;go_wp2;go_roundw
   case rel=>exact⟨k+1,x/2,by omega,hh,by simp[Int.natCast_ediv],by omega,ho1,hbw1⟩
   case measure=>simp[intOf];omega
  .have hx0:¬0<x:=by assumption
   have hkl:k=Ak N:=oQ (by rw[hx.out];omega) hk;subst hkl;obtain⟨q,d,rfl,hrow,hq⟩:=Ff.of_owns ho;go_ret;exact⟨q,Ak N,d,rfl,hrow,hbw,hq⟩
def Do (bs:List Nat)(B:Nat)(v:Value)(w:World):Prop:=∃q n d,v=.slice q n d/\Row w .u8 q n d bs/\Ey B q
theorem Do.below {bs:List Nat}{B:Nat}{v:Value}{w w':World}(h:Do bs B v w)(hb:Below w.heap.size w w'):Do bs B v w' :=
 let ⟨q,n,d,h1,h2,h3⟩:=h
 ⟨q,n,d,h1,h2.below hb,h3⟩
theorem Qs (w:World)(p:Option Addr)(n c N:Nat)(h:Ai w p n c N)(hn:n<1000000)(hN:Ak N<=1000000) :
  Calls Tryz.prog 96 #[.agg #[.slice p n c]] w fun e w'=>∃v,e=.returned v/\Do (Ef N (Ay N)) w.heap.size v w'/\Below w.heap.size w w':=by
 have hbx:=Dq.mk1 w (.slice p n c) 36;have hbs:Ay N<=1000000:=by unfold Ay;omega
 go_enter Tryz.func96,Tryz.ntmps96;go_wp2;refine Aj (by kernel_rfl) (by kernel_rfl)
  [some (.agg #[.slice p n c]),some (.agg #[.slice p n c]),none,none,none,none,none,none,none]
  [false,false,true,true,true,true,true,true,true] rfl
  (fun w1 w2=>Below w1.heap.size w1 w2)
  (fun _ w'=>Dq w w' (.slice p n c))
  (fun i v w'=>match i with
   | 2=>v=.int .i64 (Ay N:Nat)
   | 3|4=>∃u,v=.tuple #[u,.int .i64 0]/\Do (Ef N (Ay N)) w.heap.size u w'
   | 5|7=>Do (Ef N (Ay N)) w.heap.size v w'
   | _=>v=.int .i64 0)
  ?_ (hbx.below (Br _ _).drew (Av _)) ?_ ?_
 .intro i v w1 w2 hf hb;split at hf
  .exact hf
  .exact hf.imp fun u h=>⟨h.1,h.2.below hb⟩
  .exact hf.imp fun u h=>⟨h.1,h.2.below hb⟩
  .exact hf.below hb
  .exact hf.below hb
  .exact hf
 .simp only[Bu,Nat.reduceAdd];refine⟨?_,?_,?_,?_,?_,?_,?_,?_,?_,trivial⟩
  case refine_3=>
   intro D sp w' hD hW hdp hbx'
   (with_reducible refine Ac (w1:=w') (f := 150) (args:=#[.agg #[.slice p n c]]) ?_ ?_ ?_)
   .simp only[Region.wanted]
   .simp[Act.eval,Act.put,go_sem]
   .refine(Jv w' p n c N (h.below hbx'.bel) hn (by omega)).mono ?_;rintro e w2 ⟨rfl,hb⟩;exact⟨_,rfl,hb,rfl,hbx'.later hb⟩
  case refine_4=>
   intro D sp w' hD hW hdp hbx';have h2:sp 2=.int .i64 (Ay N:Nat):=(hdp 2 (mq (by kernel_rfl))).2
   (with_reducible refine Ac (w1:=w') (f := 149) (args:=#[.agg #[.slice p n c],.int .i64 (Ay N:Nat)]) ?_ ?_ ?_)
   .simp only[Region.wanted]
   .simp[Act.eval,Act.put,go_sem,h2]
   .refine(aN w' p n c N (Ay N:Nat) (h.below hbx'.bel) hn (by omega) (by omega) (by omega)).mono ?_;rintro e w2 ⟨q,m,d,k,rfl,hrow,hk,hb,hq⟩;have e1:¬((Ay N:Nat):Int)<0:=by omega
    have e2:¬((Ay N:Nat):Int)<Ay N:=by omega
    rw[if_neg e1,if_neg e2]at hrow hk
    rw[hk];exact⟨_,rfl,hb,⟨_,rfl,q,m,d,rfl,hrow,hq.mono hbx'.bel.size⟩,hbx'.later hb⟩
  case refine_5=>
   intro D sp w' hD hW hdp hbx';have hx:∃u,sp 3=.tuple #[u,.int .i64 0]/\Do (Ef N (Ay N)) w.heap.size u w':=(hdp 3 (mq (by kernel_rfl))).2
   (with_reducible refine Bp hx fun u hu=>?_)
   have h1:=hu.1;have h2:=hu.2
   (with_reducible refine Ah (w1:=w') (v:=.tuple #[u,.int .i64 0]) ?_ ?_ ?_)
   .simp only[Region.wanted]
   .simp[execOp,Act.eval,Act.put,go_sem,h1]
   .exact⟨Br _ _,⟨u,rfl,h2⟩,hbx'⟩
  case refine_6=>
   intro D sp w' hD hW hdp hbx';have hx:∃u,sp 4=.tuple #[u,.int .i64 0]/\Do (Ef N (Ay N)) w.heap.size u w':=(hdp 4 (mq (by kernel_rfl))).2
   (with_reducible refine Bp hx fun u hu=>?_)
   have h1:=hu.1;have h2:=hu.2
   (with_reducible refine Ah (w1:=w') (v:=u) ?_ ?_ ?_)
   .simp only[Region.wanted]
   .simp[execOp,Act.eval,Act.put,go_sem,h1]
   .exact⟨Br _ _,h2,hbx'⟩
  case refine_7=>
   intro D sp w' hD hW hdp hbx';have hx:∃u,sp 4=.tuple #[u,.int .i64 0]/\Do (Ef N (Ay N)) w.heap.size u w':=(hdp 4 (mq (by kernel_rfl))).2
   (with_reducible refine Bp hx fun u hu=>?_)
   have h1:=hu.1;have h2:=hu.2
   (with_reducible refine Ah (w1:=w') (v:=.int .i64 0) ?_ ?_ ?_)
   .simp only[Region.wanted]
   .simp[execOp,Act.eval,Act.put,go_sem,h1]
   .exact⟨Br _ _,rfl,hbx'⟩
  case refine_8=>
   intro D sp w' hD hW hdp hbx';have h2:Do (Ef N (Ay N)) w.heap.size (sp 5) w':=(hdp 5 (mq (by kernel_rfl))).2
   (with_reducible refine Ah (w1:=w') (v:=sp 5) ?_ ?_ ?_)
   .simp only[Region.wanted]
   .simp[execOp,Act.eval,Act.put,go_sem]
   .exact⟨Br _ _,h2,hbx'⟩
  case refine_9=>
   intro D sp w' hD hW hdp hbx';have h2:sp 6=.int .i64 0:=(hdp 6 (mq (by kernel_rfl))).2
   (with_reducible refine Ah (w1:=w') (v:=.int .i64 0) ?_ ?_ ?_)
   .simp only[Region.wanted]
   .simp[execOp,Act.eval,Act.put,go_sem,h2]
   .exact⟨Br _ _,rfl,hbx'⟩
  all_goals
   intro D sp w' hD hW hdp hbx';have c0:=hbx'.c0;simp[asked,Region.wanted,Oper.gives,execOp,Act.eval,Act.put,go_sem,c0]
 .intro sp w' hsp hbx';have h7:Do (Ef N (Ay N)) w.heap.size (sp 7) w':=hsp 7 rfl;clear hsp;simp only[An,Nat.reduceAdd];generalize sp 7=u at *
  go_simp
  go_wp2;go_ret;exact⟨_,rfl,h7,hbx'.bel⟩
theorem gK (V n:Nat):Em V (n+1)=(V%256)::Em (V/256) n:=by
 simp[Em,List.range_succ_eq_map,Function.comp_def,Gp,Io,Nat.div_div_eq_div_mul]
theorem eM:∀(xs:List Nat),Bv xs->Em (le xs) xs.length=xs
 | [],_=>by simp[Em]
 | x::xs,h=>by
  have hx:x<256:=h x (by simp);have e:=eM xs (fun y hy=>h y (by simp[hy]));rw[List.length_cons,gK];simp only[le];rw[show (x+256*le xs)%256=x by omega,show (x+256*le xs)/256=le xs by omega,e]
theorem kP:∀(xs:List Nat) (q d:Nat),q<xs.length->le (xs.set q (xs.getD q 0+d))=le xs+B8 q*d
 | x::xs,0,d,_=>by simp[le,Io];omega
 | x::xs,q+1,d,h=>by
  have e:=kP xs q d (by simpa using h);simp only[List.set_cons_succ,le,List.getD_cons_succ,Gp];rw[e,Nat.mul_add,Nat.mul_assoc];omega
theorem Zd {V n j:Nat}(h:j<n):(Em V n)[j]? = some (V/B8 j%256):=by simp[Em,h]
theorem gJ {V n j:Nat}(h:j<n):(Em V n).getD j 0=V/B8 j%256:=by rw[Ex,Zd h];rfl
theorem Ze {M k n:Nat}(hM:M<2^k)(hk:k/8<n) :
  M/B8 (k/8)%256<2^(k%8)/\(Em M n).set (k/8) (M/B8 (k/8)%256+2^(k%8))=Em (M+2^k) n:=by
 have e2:2^k=B8 (k/8)*2^(k%8):=by
  rw[Ja,<-Nat.pow_add,Nat.div_add_mod]
 have hlt:M/B8 (k/8)<2^(k%8):=by
  rw[Nat.div_lt_iff_lt_mul (dZ _),Nat.mul_comm,<-e2];exact hM
 have hp:2^(k%8)<=2^7:=Nat.pow_le_pow_right (by omega) (by omega);have hmod:M/B8 (k/8)%256<2^(k%8):=Nat.lt_of_le_of_lt (Nat.mod_le _ _) hlt;refine⟨hmod,?_⟩;have hset:=kP (Em M n) (k/8) (2^(k%8)) (by rw[Cx];exact hk);rw[gJ hk,<-e2]at hset
 have hM8:M<B8 n:=by
  rw[Ja];exact Eh hM (Nat.pow_le_pow_right (by omega) (by omega))
 rw[Wt,Nat.mod_eq_of_lt hM8]at hset
 have hb:Bv ((Em M n).set (k/8) (M/B8 (k/8)%256+2^(k%8))):=by
  intro y hy;rcases List.mem_or_eq_of_mem_set hy with h|rfl
  .exact Np M n y h
  .omega
 have:=eM _ hb;rw[hset,List.length_set,Cx]at this
 exact this.symm
theorem mM {M k n j:Nat}(hM:M<2^k)(hk:k/8<n)(hj:j=n-1-k/8) :
  (Ef M n).set j (M/B8 (k/8)%256+2^(k%8))=Ef (M+2^k) n:=by
 subst hj;have:=Ql (Em M n) (k/8) (M/B8 (k/8)%256+2^(k%8)) (by rw[Cx];exact hk);rw[Cx]at this
 unfold Ef;rw[this,(Ze hM hk).2]
theorem mL {M n j q:Nat}(hq:q<n)(hj:j=n-1-q):(Ef M n)[j]? = some (M/B8 q%256):=by
 subst hj;unfold Ef;rw[List.getElem?_reverse (by rw[Cx];omega),Cx,show n-1-(n-1-q)=q by omega,Zd hq]
theorem iO (n:Nat):Ef 0 n=List.replicate n 0:=by
 unfold Ef Em;apply List.ext_getElem (by simp);intro i h1 h2;simp
theorem Lw (M n:Nat):(Ef M n).length=n:=by simp[Ef,Cx]
def pD (N s:Nat)(w:World)(e:Ending)(w':World):Prop:=∃v,e=.returned (.tuple #[v,.bool (decide (Ay N<=s))]) /\
 Do (if Ay N<=s then Ef N s else []) w.heap.size v w'/\Below w.heap.size w w'
theorem We (w:World)(p:Option Addr)(n c N s:Nat)(h:Bt w p n c N)(hs:s<=1000000)(hN:Ak N<=1000000000) :
  Calls Tryz.prog 95 #[.slice p n c,.int .i64 s] w (pD N s w):=by
 have hl:n=Ak N:=by have:=h.len;rwa [Bo]at this
 by_cases h2:s<Ay N
 .have hd:decide (Ay N<=s)=false:=by simp;omega
  have h3:(s:Int)<((n:Int)+7)/8:=by unfold Ay at h2;omega
  have hw7:IntKind.i64.wrap ((n:Int)+7)=(n:Int)+7:=IntWalk.i64_in _ (by omega);have hw8:IntKind.i64.wrap (((n:Int)+7)/8)=((n:Int)+7)/8:=IntWalk.i64_in _ (by omega);have hw9:wrap64 (((n:Int)+7).tdiv 8)=((n:Int)+7)/8:=by
   rw[Int.tdiv_eq_ediv_of_nonneg (by omega)];exact IntWalk.wrap64_in _ (by omega)
  have H2:=Ag h2;have HD:=Ag hd;clear hl h2 hd;go_enter Tryz.func95,Tryz.ntmps95;go_wp2
  go_ret2
  refine⟨.slice none 0 0,by simp[HD.out],?_,Br _ _⟩;rw[if_neg (by have:=H2.out;omega)];exact⟨none,0,0,rfl,Row.nil _ _,Ey.none _⟩
 .have hd:decide (Ay N<=s)=true:=by simp;omega
  have hmk:=Wp s (by omega);have hsn:n<=8*s:=by unfold Ay at h2;omega
  have h3:¬(s:Int)<((n:Int)+7)/8:=by omega
  have hw7:IntKind.i64.wrap ((n:Int)+7)=(n:Int)+7:=IntWalk.i64_in _ (by omega);have hw8:IntKind.i64.wrap (((n:Int)+7)/8)=((n:Int)+7)/8:=IntWalk.i64_in _ (by omega);have H2:=Ag h2;have HD:=Ag hd;have HL:=Ag hl;have hn9:n<=1000000000:=by omega
  clear hl h2 hd;go_enter Tryz.func95,Tryz.ntmps95;go_wp2
  go_loopw [19] (fun i wr=>∃k:Nat,k<=n/\i=.int .i64 k/\w.heap.size<wr.heap.size/\Below w.heap.size w wr/\Cf wr w.heap.size 5 .u8 (Ef (N%2^k) s)) (fun i _=>n-(intOf i).toNat)
  case atStart=>
   refine⟨0,by omega,rfl,by simp,(Br _ _).alloc (Av _) _,?_⟩;have:=Cf.zeros w 5 .u8 s;rw[Nat.pow_zero,Nat.mod_one,iO];exact this
  case round=>
   obtain⟨k,hk,rfl,hsz,hbw,hblk⟩:=hrel
   by_cases hkn:k<n
   .obtain⟨b,off,rfl,hb,hc⟩:=h.pos (by omega);obtain⟨x,hx⟩:∃x,bit N k=x:=⟨_,rfl⟩
    have hci:wr.cell? ⟨b,off+k,none⟩=some (.bool x):=by
     rw[(Co hbw).1 _ _ hb];exact hc k x (by rw[Di (by rw[<-HL.out];exact hkn),hx])
    have HX:=Ag hx;clear hc hx;go_wp2
    .have hxt:x=true:=by assumption
     have HB:Hid (N%2^(k+1)=N%2^k+2^k):=Ag (by rw[Mm,HX.out,if_pos hxt]);have hMk:N%2^k<2^k:=Nat.mod_lt _ (Nat.pow_pos (by omega));obtain⟨q,hq⟩:∃q,k/8=q:=⟨_,rfl⟩
     obtain⟨r,hr⟩:∃r,k%8=r:=⟨_,rfl⟩
     have hqs:q<s:=by omega
     obtain⟨j,hj⟩:∃j,s-1-q=j:=⟨_,rfl⟩
     obtain⟨z,hz⟩:∃z,2^r=z:=⟨_,rfl⟩
     have hset:=mM (n:=s) hMk (by omega) (j:=j) (by omega);have hget:=mL (M:=N%2^k) hqs hj.symm;have hlt:=(Ze (n:=s) hMk (by omega)).1;rw[hq,hr]at hset hlt
     obtain⟨d,hd⟩:∃d,N%2^k/B8 q%256=d:=⟨_,rfl⟩
     rw[hd]at hset hget hlt
     rw[hz]at hset hlt
     have hr8:r<8:=by omega
     have hz8:z<=128:=by rw[<-hz];exact Nat.pow_le_pow_right (show 0<2 by omega) (show r<=7 by omega)
     have t1:IntKind.i64.wrap ((k:Int)/8)=(q:Int):=by rw[IntWalk.i64_in _ (by omega)];omega
     have t2:(k:Int).tmod 8=(r:Int):=by rw[Int.tmod_eq_emod_of_nonneg (by omega)];omega
     have t4:IntKind.i64.wrap ((s:Int)-1)=(s:Int)-1:=IntWalk.i64_in _ (by omega);have t5:IntKind.i64.wrap ((s:Int)-1-q)=(j:Nat):=by
      rw[IntWalk.i64_in _ (by omega)];omega
     have t6:(j:Int)<s:=by omega
     have t7:j<s:=by omega
     have t8:IntKind.u8.wrap ((d:Int)+z)=(d:Int)+z:=IntWalk.u8_in _ (by omega);have t9:IntKind.u8.wrap ((2:Int)^r)=z:=by
      rw[show ((2:Int)^r)=(z:Nat) by rw[<-hz,Int.natCast_pow];rfl];exact IntWalk.u8_in _ (by omega)
     clear hq hr hd hj hMk;have HJ:=Ag hz;clear hz;refine Aj (by kernel_rfl) (by kernel_rfl)
      [some (.slice (some ⟨w.heap.size,0,none⟩) s s),some (.int .i64 s),some (.int .i64 ((s:Int)-1)),some (.int .i64 k),some (.int .i64 (q:Nat)),some (.int .i64 (j:Nat)),some (.pointer (some ⟨w.heap.size,j,none⟩)),some (.int .u8 (d:Nat)),
       some (.int .i64 k),some (.int .i64 (r:Nat)),some (.int .u8 (z:Nat)),some (.int .u8 (d+z:Nat)),some (.pointer (some ⟨w.heap.size,j,none⟩)),none]
      [false,false,false,false,false,false,false,false,false,false,false,false,false,true] rfl
      (fun _ _=>True)
      (fun D w'=>Below w.heap.size w w'/\w.heap.size<w'.heap.size/\Cf w' w.heap.size 5 .u8 (if D 13 then Ef (N%2^k+2^k) s else Ef (N%2^k) s))
      (fun _ _ _=>True)
      (fun _ _ _ _ h _=>h) ⟨hbw.trans ((Br _ _).drew.mono (Av _)),hsz,hblk⟩ ?_ ?_
     .simp only[Bu,Nat.reduceAdd];refine⟨?_,?_,?_,?_,?_,?_,?_,?_,?_,?_,?_,?_,?_,?_,trivial⟩
      case refine_8=>
       intro D sp w' hD hW hdp ⟨hb',hsz',hblk'⟩;have h13:D 13=false:=hW 13 (mq (by kernel_rfl));rw[h13]at hblk'
       simp only[Bool.false_eq_true,if_false]at hblk';have hcl:w'.cell? ⟨w.heap.size,j,none⟩=some (.int .u8 (d:Nat)):=hblk'.cell hget;simp[asked,Region.wanted,Oper.gives,execOp,Act.eval,Act.put,go_sem,hcl]
      case refine_14=>
       intro D sp w' hD hW hdp ⟨hb',hsz',hblk'⟩;rw[hD]at hblk'
       simp only[Bool.false_eq_true,if_false]at hblk';have hcl:w'.cell? ⟨w.heap.size,j,none⟩=some (.int .u8 (d:Nat)):=hblk'.cell hget;have hfr:=hblk'.free j
       (with_reducible refine Ar (w1:=w'.setCell ⟨w.heap.size,j,none⟩ (.int .u8 (d+z:Nat))) ?_ ?_ ?_)
       .simp only[Region.wanted]
       .simp[execOp,Act.eval,Act.put,go_sem,hcl,hfr]
       .refine⟨trivial,trivial,hb'.setCell (Av _) _,by simpa using hsz',?_⟩;simp only[decide_true,Bool.or_true,if_true];rw[<-hset];exact hblk'.set _ _
      all_goals
       intro D sp w' hD hW hdp ⟨hb',hsz',hblk'⟩;simp[asked,Region.wanted,Oper.gives,execOp,Act.eval,Act.put,go_sem,t1,t2,t4,t5,t6,t8,t9]
     .intro sp w' hsp ⟨hb',hsz',hblk'⟩;have hblk2:Cf w' w.heap.size 5 .u8 (Ef (N%2^k+2^k) s):=hblk';clear hblk' hsp t1 t2 t4 t5 t6 t8 t9;simp only[An,Nat.reduceAdd]
      go_simp
      go_wp2;go_roundw
      case rel=>exact⟨k+1,by omega,by go_num,hsz',hb',by rw[HB.out];exact hblk2⟩
      case measure=>simp[intOf];omega
    .have hxt:x=false:=by assumption
     have HB:Hid (N%2^(k+1)=N%2^k):=Ag (by rw[Mm,HX.out,if_neg (by simp[hxt]),Nat.add_zero]);go_roundw
     case rel=>exact⟨k+1,by omega,by go_num,hsz,hbw,by rw[HB.out];exact hblk⟩
     case measure=>simp[intOf];omega
   .have HK:Hid (k=n):=Ag (by omega);go_wp2
    go_ret2
    refine⟨.slice (some ⟨w.heap.size,0,none⟩) s s,by simp[HD.out],?_,hbw⟩;rw[if_pos (by have:=H2.out;omega)];have e:N%2^k=N:=Nat.mod_eq_of_lt ((Bq N k).1 (by rw[HK.out,HL.out];exact Av _));rw[e]at hblk
    exact⟨_,s,s,rfl,hblk.row (by rw[Lw]) (Av _) (by omega),fun q hq=>by cases hq;exact Av _⟩
end Go.Proofs.YtnbmfaihlefgfaaGreatDoor
