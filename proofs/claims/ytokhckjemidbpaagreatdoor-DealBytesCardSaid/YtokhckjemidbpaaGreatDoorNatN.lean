/- The quotient, where the divisor has one word at most or is the greater one. -/
import Derived.Test.YtokhckjemidbpaaGreatDoorNatD
import Derived.Deep.QuietTactic
import Derived.BigQuiet
set_option maxRecDepth 1000000
set_option maxHeartbeats 16000000
set_option linter.all false
namespace Go.Proofs.YtokhckjemidbpaaGreatDoor
open Go Go.RowKit Go.Proofs.YtokhckjemidbpaaGreatDoor.Flow
theorem Lh (h l:Nat)(hh:h<4294967296)(hl:l<4294967296):bits BinOp.or IntKind.u64 ((h:Int)*4294967296) (l:Int)=((h*4294967296+l:Nat):Int):=by
 have e:(h:Int)*4294967296=((h*4294967296:Nat):Int):=by omega
 rw[e,u64_or_nat _ _ (by omega) (by omega),nat_join 32 (h*4294967296) l (by omega) (by omega)]
theorem Vb (hi lo y:Nat)(w:World)(h1:hi<y)(h2:lo<4294967296)(h3:y<4294967296) :
  Calls Tryz.prog 200 #[.int .u32 hi,.int .u32 lo,.int .u32 y] w fun e w'=>
   e=.returned (.tuple #[.int .u32 ((hi*4294967296+lo)/y:Nat),.int .u32 ((hi*4294967296+lo)%y:Nat)])/\Below w.heap.size w w':=by
 have hy0:((y:Int)==0)=false:=by rw[beq_eq_false_iff_ne];omega
 have hy1:((y:Int)!=0)=true:=by rw[bne_iff_ne];omega
 have hlt:decide ((y:Int)<=hi)=false:=by simp;omega
 go_enter Tryz.func200,Tryz.ntmps200;go_wp2;rw[Lh hi lo (by omega) h2];obtain⟨z,hz⟩:∃z,hi*4294967296+lo=z:=⟨_,rfl⟩
 rw[hz];have hz1:z<18446744073709551616:=by omega
 have hz2:z<4294967296*y:=by
  have:=Nat.mul_le_mul_left 4294967296 (Nat.succ_le_of_lt h1);omega
 have hq:z/y<4294967296:=(Nat.div_lt_iff_lt_mul (by omega)).2 hz2;have hr:z%y<y:=Nat.mod_lt _ (by omega);have hq':(z:Int)/y<4294967296:=by rw[<-Int.natCast_ediv];omega
 have hr':(z:Int)%y<y:=by rw[<-Int.natCast_emod];omega
 have hq0:0<=(z:Int)/y:=by rw[<-Int.natCast_ediv];exact Int.natCast_nonneg _
 have hr0:0<=(z:Int)%y:=by rw[<-Int.natCast_emod];exact Int.natCast_nonneg _
 have HZ:=Af hz;clear hz
 go_quiet (fail)
 go_wp2
 go_ret2
 refine⟨?_,below_drewN (Bd _ _) _⟩;rw[HZ.out];simp[Int.natCast_ediv,Int.natCast_emod]
def Cv (ws:List Nat)(y:Nat):Nat->List Nat×Nat
 | 0=>([],0)
 | k+1=>((((Cv ws y k).2*4294967296+ws.getD (ws.length-1-k) 0)/y)::(Cv ws y k).1,((Cv ws y k).2*4294967296+ws.getD (ws.length-1-k) 0)%y)
theorem Kw (ws:List Nat)(y:Nat)(hw:Words ws)(hy:0<y):∀k,k<=ws.length->(Cv ws y k).1.length=k/\Words (Cv ws y k).1/\(Cv ws y k).2<y /\
  val (ws.drop (ws.length-k))=val (Cv ws y k).1*y+(Cv ws y k).2
 | 0,_=>by simp[Cv,Words.nil,val,hy]
 | k+1,hk=>by
  obtain⟨h1,h2,h3,h4⟩:=Kw ws y hw hy k (by omega);have hx:=hw.get (ws.length-1-k);have hd:ws.drop (ws.length-(k+1))=ws.getD (ws.length-1-k) 0::ws.drop (ws.length-k):=by
   rw[List.drop_eq_getElem_cons (by omega),Dv];have e:ws.length-(k+1)=ws.length-1-k:=by omega
   simp only[e,List.getElem?_eq_getElem (show ws.length-1-k<ws.length by omega),Option.getD_some]
   congr 2;omega
  simp only[Cv];rw[hd];generalize ws.getD (ws.length-1-k) 0=x at *;generalize (Cv ws y k).1=Q at *;generalize (Cv ws y k).2=r at *;have hdm:=Nat.div_add_mod (r*4294967296+x) y;have hm:=Nat.mod_lt (r*4294967296+x) hy;have hq:(r*4294967296+x)/y<4294967296:=by
   rw[Nat.div_lt_iff_lt_mul hy];have:=Nat.mul_le_mul_left 4294967296 (Nat.succ_le_of_lt h3);omega
  generalize (r*4294967296+x)/y=q at *;generalize (r*4294967296+x)%y=s at *;refine⟨by simp[h1],?_,hm,?_⟩
  .intro z hz;rcases List.mem_cons.1 hz with rfl|hz
   .exact hq
   .exact h2 z hz
  .simp only[val];rw[h4,Nat.add_mul];have e1:4294967296*val Q*y=4294967296*(val Q*y):=Nat.mul_assoc _ _ _;have e2:y*q=q*y:=Nat.mul_comm _ _;omega
theorem Qi (w:World)(p:Option Addr)(n c:Nat)(ws:List Nat)(y:Nat)(h:Row w .u32 p n c ws)(hw:Words ws)(hn:n<1000000)(hy0:0<y)(hy:y<4294967296) :
  Calls Tryz.prog 154 #[.slice p n c,.int .u32 y] w fun e w'=>∃q d,e=.returned (.tuple #[.slice q n d,.int .u32 (val ws%y:Nat)]) /\
   Row w' .u32 q n d (Cv ws y n).1/\Below w.heap.size w w'/\El w.heap.size q:=by
 have HL:=Af h.len;have hmk:=Fz n (by omega);go_enter Tryz.func154,Tryz.ntmps154;go_wp2
 go_loopw [7,8] (fun r i wr=>∃k m:Nat,k+m<=n/\n<=k+m/\i=.int .i64 ((m:Int)-1)/\r=.int .u32 ((Cv ws y k).2:Nat)/\Below w.heap.size w wr/\Bi wr w.heap.size 129 .u32 (List.replicate m 0++(Cv ws y k).1)) (fun _ i _=>(intOf i+1).toNat)
 case atStart=>
  refine⟨0,n,by omega,by omega,rfl,rfl,(Bd _ _).alloc (Av _) _,?_⟩;simp only[Cv,List.append_nil];exact Bi.zeros _ _ _ _
 case round=>
  obtain⟨k,m,hkm,hkm2,rfl,rfl,hbw,hblk⟩:=hrel;have hk:k<=ws.length:=by have:=HL.out;omega
  obtain⟨g1,g2,g3,g4⟩:=Kw ws y hw hy0 k hk
  cases m with
  | succ j=>
   have hrow:=h.below hbw;obtain⟨b,off,rfl,hb,hc⟩:=hrow.pos (by omega);obtain⟨x,hx⟩:∃x,ws.getD j 0=x:=⟨_,rfl⟩
   have hcx:wr.cell? ⟨b,off+j,none⟩=some (.int .u32 (x:Nat)):=hc _ _ (by
    rw[<-hx,Dv];simp[show j<ws.length by have:=HL.out;omega])
   have hx1:x<4294967296:=by rw[<-hx];exact hw.get _
   have hstep:Hid ((Cv ws y (k+1))=(((Cv ws y k).2*4294967296+x)/y::(Cv ws y k).1,((Cv ws y k).2*4294967296+x)%y)):=by
    have e:ws.length-1-k=j:=by have:=HL.out;omega
    show Cv ws y (k+1)=_;rw[Cv,e,hx]
   clear hc hx g4;generalize hQ:(Cv ws y k).1=Q at *;generalize hR:(Cv ws y k).2=r at *;have hcl:wr.cell? ⟨w.heap.size,j,none⟩=some (.int .u32 (0:Nat)):=hblk.cell (by rw[List.getElem?_append_left (by simp)];simp);have hfr:=hblk.free j;have hset:Hid (∀v,Bi (wr.setCell ⟨w.heap.size,j,none⟩ (.int .u32 ((v:Nat)))) w.heap.size 129 .u32 (List.replicate j 0++(v::Q))):=fun v=>by
    have h5:=hblk.set j v;rw[List.set_append_left _ _ (by simp),List.replicate_succ',List.set_append_right _ _ (by simp)]at h5
    simpa using h5
   have e1:(((j+1:Nat):Int)-1)=(j:Int):=by omega
   simp only[e1];clear e1 hQ hR;have hgl:=hblk.lt
   go_wp2_with fail
   refine(Vb r x y _ g3 hx1 hy).mono ?_;rintro e w2 ⟨rfl,hb2⟩;have hcl2:=((Cd hb2).1 _ j hgl).trans hcl;have hfr2:=((Cd hb2).2 _ j hgl).trans hfr;go_wp2;go_roundw
   case rel=>
    have ed:((r:Int)*4294967296+x)/y=(((r*4294967296+x)/y:Nat):Int):=by simp[Int.natCast_ediv]
    have em:((r:Int)*4294967296+x)%y=(((r*4294967296+x)%y:Nat):Int):=by simp[Int.natCast_emod]
    rw[ed,em];refine⟨k+1,j,by omega,by omega,rfl,by rw[hstep.out],(hbw.trans (hb2.mono hbw.size)).setCell (Av _) _,?_⟩;rw[hstep.out];have h6:=(hset.out ((r*4294967296+x)/y))
    have h7:=h6;unfold Bi at h7 ⊢;have h8:(w2.setCell ⟨w.heap.size,j,none⟩ (.int .u32 (((r*4294967296+x)/y:Nat)))).heap[w.heap.size]? = (wr.setCell ⟨w.heap.size,j,none⟩ (.int .u32 (((r*4294967296+x)/y:Nat)))).heap[w.heap.size]? := by
     simp only[World.setCell,Array.getElem?_modify,if_true];rw[hb2.block _ hgl]
    rw[h8];exact h7
   case measure=>simp[intOf]
  | zero=>
   have hkn:k=n:=by omega
   have HK:=Af hkn;rw[hkn,List.replicate_zero,List.nil_append]at hblk
   have hrow:=hblk.row (n:=n) (c:=n) (by rw[<-hkn];exact g1.symm) (Av _) (by omega);have hv:(Cv ws y k).2=val ws%y:=by
    have e0:ws.length-k=0:=by have:=HL.out;omega
    rw[e0,List.drop_zero]at g4
    rw[g4,Nat.mul_comm,Nat.mul_add_mod,Nat.mod_eq_of_lt g3]
   have HV:=Af hv;clear hv hkn g1 g2 g3 g4;go_wp2
   go_ret2
   refine⟨_,_,?_,hrow,hbw,fun q hq=>by cases hq;exact Av _⟩;rw[<-HV.out];rfl
structure Gg (w wr:World) (u0 u1 u2 u3:Value):Prop where
 bel:Below w.heap.size w wr
 size:w.heap.size+4<=wr.heap.size
 c0:wr.cell? ⟨w.heap.size,0,none⟩=some u0
 c1:wr.cell? ⟨w.heap.size+1,0,none⟩=some u1
 c2:wr.cell? ⟨w.heap.size+1+1,0,none⟩=some u2
 c3:wr.cell? ⟨w.heap.size+1+1+1,0,none⟩=some u3
 f0:wr.frozen? ⟨w.heap.size,0,none⟩=false
 f1:wr.frozen? ⟨w.heap.size+1,0,none⟩=false
 f2:wr.frozen? ⟨w.heap.size+1+1,0,none⟩=false
 f3:wr.frozen? ⟨w.heap.size+1+1+1,0,none⟩=false
theorem Gg.below {w wr w1:World}{u0 u1 u2 u3:Value}(h:Gg w wr u0 u1 u2 u3){B:Nat}(hb:Below B wr w1)(hB:w.heap.size+4<=B):Gg w w1 u0 u1 u2 u3:=by
 obtain⟨hc,hf⟩:=Cd hb;refine⟨h.bel.trans (hb.mono (by omega)),Eo h.size hb.size,?_,?_,?_,?_,?_,?_,?_,?_⟩
 .rw[hc _ _ (by omega)];exact h.c0
 .rw[hc _ _ (by omega)];exact h.c1
 .rw[hc _ _ (by omega)];exact h.c2
 .rw[hc _ _ (by omega)];exact h.c3
 .rw[hf _ _ (by omega)];exact h.f0
 .rw[hf _ _ (by omega)];exact h.f1
 .rw[hf _ _ (by omega)];exact h.f2
 .rw[hf _ _ (by omega)];exact h.f3
theorem Gg.later {w wr w1:World}{u0 u1 u2 u3:Value}(h:Gg w wr u0 u1 u2 u3)(hb:Below wr.heap.size wr w1):Gg w w1 u0 u1 u2 u3:=h.below hb h.size
theorem Gg.mk4 (w:World)(u0 u1 u2 u3:Value)(t0 t1 t2 t3:TypeId) :
  Gg w ((((w.alloc (.cells #[u0] t0)).alloc (.cells #[u1] t1)).alloc (.cells #[u2] t2)).alloc (.cells #[u3] t3)) u0 u1 u2 u3:=by
 refine⟨?_,by simp,by simp[go_sem],by simp[go_sem],by simp[go_sem],by simp[go_sem],by simp[go_sem],by simp[go_sem],by simp[go_sem],by simp[go_sem]⟩;exact((((Bd _ _).alloc (Av _) _).alloc (by simp) _).alloc (by simp;omega) _).alloc (by simp;omega) _
def Dt (Q:List Nat)(B:Nat)(v:Value)(w:World):Prop:=∃q n d,v=.slice q n d/\Row w .u32 q n d Q/\El B q
theorem Dt.below {bs:List Nat}{B:Nat}{v:Value}{w w':World}(h:Dt bs B v w)(hb:Below w.heap.size w w'):Dt bs B v w' :=
 let ⟨q,n,d,h1,h2,h3⟩:=h
 ⟨q,n,d,h1,h2.below hb,h3⟩
def Px (N M:Nat)(w:World)(e:Ending)(w':World):Prop:=∃p n c q m d,e=.returned (.tuple #[.agg #[.slice p n c],.agg #[.slice q m d],.int .i64 (if M=0 then 5 else 0)]) /\
 Ah w' p n c (N/M)/\Ah w' q m d (if M=0 then 0 else N%M)/\Below w.heap.size w w'/\El w.heap.size p/\El w.heap.size q
theorem Ah.nil (w:World):Ah w none 0 0 0:=⟨[],Row.nil _ _,Words.nil,by simp,by simp[val]⟩
theorem Ri (w:World)(pa:Option Addr)(na ca N:Nat)(pb:Option Addr)(nb cb M:Nat)(hA:Ah w pa na ca N)(hB:Ah w pb nb cb M)(hs:na<1000000)(hsb:nb<1000000)(hone:nb<=1 ∨ N<M) :
  Calls Tryz.prog 93 #[.agg #[.slice pa na ca],.agg #[.slice pb nb cb]] w (Px N M w):=by
 have hbx:=Gg.mk4 w (.slice pa na ca) (.slice pb nb cb) (.slice none 0 0) (.slice none 0 0) 37 37 37 37
 by_cases hz:nb=0
 .have hM:M=0:=hB.zero.1 hz;have HM:=Af hM;have hdz:decide (nb=0)=true:=by simp[hz]
  clear hz hM;go_enter Tryz.func93,Tryz.ntmps93
  go_wp2_with fail
  refine(Dh _ pb nb cb).mono ?_;rintro e w1 ⟨rfl,hb1⟩;have hbx1:=hbx.later hb1;have c0:=hbx1.c0;have c1:=hbx1.c1;have c2:=hbx1.c2;have c3:=hbx1.c3;have f2:=hbx1.f2;have f3:=hbx1.f3;rw[hdz];have hz1:=hbx1.size;go_wp2;refine bodyPost_ret (v:=.tuple #[.agg #[.slice none 0 0],.agg #[.slice none 0 0],.int .i64 5]) (by simp[results,Tryz.results93,go_sem,c2,c3]) rfl ⟨none,0,0,none,0,0,by simp[HM.out],?_,?_,?_,El.none _,El.none _⟩
  .rw[HM.out,Nat.div_zero];exact Ah.nil _
  .rw[if_pos HM.out];exact Ah.nil _
  .exact(hbx1.bel.setCell (by simp;omega) _).setCell (by simp;omega) _
 .have hM:M≠0:=fun h=>hz (hB.zero.2 h)
  have HM:=Af hM;have HZ:=Af hz;have hdz:decide (nb=0)=false:=by simp[hz]
  clear hz hM
  by_cases hlt:N<M
  .have hcm:Bp N M = -1:=Dp hlt;have HLT:=Af hlt;clear hlt;go_enter Tryz.func93,Tryz.ntmps93
   go_wp2_with fail
   refine(Dh _ pb nb cb).mono ?_;rintro e w1 ⟨rfl,hb1⟩;have hbx1:=hbx.later hb1;have c0:=hbx1.c0;have c1:=hbx1.c1;rw[hdz]
   go_wp2_with fail
   refine(Ft _ pa pb na ca N nb cb M (hA.below hbx1.bel) (hB.below hbx1.bel) hs hsb).mono ?_;rintro e w2 ⟨rfl,hb2⟩;rw[hcm];have hbx2:=hbx1.later hb2;clear c0 c1;have c0:=hbx2.c0;have c1:=hbx2.c1
   go_wp2_with fail
   refine(Np _ pa na ca N (hA.below hbx2.bel) hs).mono ?_;rintro e w3 ⟨p,n,c,rfl,hn,hb3,hp⟩;have hbx3:=hbx2.later hb3;clear c0 c1;have c2:=hbx3.c2;have c3:=hbx3.c3;have f2:=hbx3.f2;have f3:=hbx3.f3;have hz3:=hbx3.size;have hz2:=hbx2.size;go_wp2;refine bodyPost_ret (v:=.tuple #[.agg #[.slice none 0 0],.agg #[.slice p n c],.int .i64 0]) (by simp[results,Tryz.results93,go_sem,c2,c3]) rfl ⟨none,0,0,p,n,c,by simp[HM.out],?_,?_,?_,El.none _,hp.mono (by omega)⟩
   .rw[Nat.div_eq_of_lt HLT.out];exact Ah.nil _
   .rw[if_neg HM.out,Nat.mod_eq_of_lt HLT.out];exact(hn.setCell (a:=⟨w.heap.size+1+1,0,none⟩) (hp.ne (show w.heap.size+1+1<w2.heap.size by omega)) _).setCell (a:=⟨w.heap.size+1+1+1,0,none⟩) (hp.ne (show w.heap.size+1+1+1<w2.heap.size by omega)) _
   .exact(hbx3.bel.setCell (by simp;omega) _).setCell (by simp;omega) _
  .have hcm:decide (Bp N M<0)=false:=by
    have:¬Bp N M<0:=by unfold Bp;rw[if_neg hlt];split<;>omega
    simpa using this
   have HCM:=Af hcm;have hn1:nb=1:=by
    have:=HZ.out;rcases hone with h|h
    .omega
    .exact absurd h hlt
   clear hcm hlt hone;subst hn1;obtain⟨A,a1,a2,a3,rfl⟩:=hA.ex;obtain⟨B,b1,b2,b3,rfl⟩:=hB.ex;obtain⟨y,rfl⟩:∃y,B=[y]:=List.length_eq_one_iff.1 b1.len.symm;have hv:val [y]=y:=by simp[val]
   have hy:y<4294967296:=b2 y (by simp);have hy0:0<y:=by have:=HM.out;rw[hv]at this;omega
   have HV:=Af hv;clear hv;obtain⟨b,off,rfl,hbl,hcell⟩:=b1.pos (by omega);go_enter Tryz.func93,Tryz.ntmps93
   go_wp2_with fail
   refine(Dh _ _ _ _).mono ?_;rintro e w1 ⟨rfl,hb1⟩;have hbx1:=hbx.later hb1;have c0:=hbx1.c0;have c1:=hbx1.c1;rw[hdz]
   go_wp2_with fail
   refine(Ft _ pa _ na ca _ _ cb _ (hA.below hbx1.bel) (hB.below hbx1.bel) hs hsb).mono ?_;rintro e w2 ⟨rfl,hb2⟩;have hbx2:=hbx1.later hb2;have hcm:=HCM.out;clear c0 c1;have c0:=hbx2.c0;have c1:=hbx2.c1;have cy:w2.cell? ⟨b,off,none⟩=some (.int .u32 (y:Nat)):=by
    rw[(Cd hbx2.bel).1 _ _ hbl];simpa using hcell 0 y rfl
   go_wp2;obtain⟨rr,hrr⟩:∃r,val A%y=r:=⟨_,rfl⟩
   have hr:rr<y:=by rw[<-hrr];exact Nat.mod_lt _ hy0
   have HR:=Af hrr;clear hrr;obtain⟨g1,g2,g3,g4⟩:=Kw A y a2 hy0 na (by have:=a1.len;omega);have hq1:val (Cv A y na).1=val A/val [y]:=by
    have e0:A.length-na=0:=by have:=a1.len;omega
    rw[e0,List.drop_zero]at g4
    rw[HV.out,g4,Nat.mul_comm,Nat.mul_add_div hy0,Nat.div_eq_of_lt g3,Nat.add_zero]
   have HQ:=Af hq1;clear hq1 g1 g3 g4;generalize hQ:(Cv A y na).1=Q at *;have HQQ:=Af hQ;clear hQ;refine Aj (by kernel_rfl) (by kernel_rfl)
    [some (.pointer (some ⟨w.heap.size,0,none⟩)),some (.slice pa na ca),some (.pointer (some ⟨w.heap.size+1,0,none⟩)),some (.slice (some ⟨b,off,none⟩) 1 cb),some (.pointer (some ⟨b,off,none⟩)),some (.int .u32 y),none,none,none,none,none,none]
    [false,false,false,false,false,false,true,true,true,true,true,true] rfl
    (fun w1 w2=>Below w1.heap.size w1 w2)
    (fun _ w'=>Gg w w' (.slice pa na ca) (.slice (some ⟨b,off,none⟩) 1 cb) (.slice none 0 0) (.slice none 0 0))
    (fun i v w'=>match i with
     | 6|7=>∃u,v=.tuple #[u,.int .u32 (rr:Nat)]/\Dt Q (w.heap.size+4) u w'
     | 8|10=>Dt Q (w.heap.size+4) v w'
     | _=>v=.int .u32 (rr:Nat))
    ?_ (hbx2.below (Bd _ _).drew (Av _)) ?_ ?_
   .intro i v w1 w2 hf hb;split at hf
    .exact hf.imp fun u h=>⟨h.1,h.2.below hb⟩
    .exact hf.imp fun u h=>⟨h.1,h.2.below hb⟩
    .exact hf.below hb
    .exact hf.below hb
    .exact hf
   .simp only[Bh,Nat.reduceAdd];refine⟨?_,?_,?_,?_,?_,?_,?_,?_,?_,?_,?_,?_,trivial⟩
    case refine_7=>
     intro D sp w' hD hW hdp hbx'
     (with_reducible refine Ad (w1:=w') (f := 154) (args:=#[.slice pa na ca,.int .u32 y]) ?_ ?_ ?_)
     .simp only[Region.wanted]
     .simp[Act.eval,Act.put,go_sem]
     .refine(Qi w' pa na ca A y (a1.below hbx'.bel) a2 hs hy0 hy).mono ?_;rintro e w3 ⟨q,d,rfl,hrow,hb,hq⟩;rw[HQQ.out]at hrow
      rw[HR.out];exact⟨_,rfl,hb,⟨_,rfl,q,na,d,rfl,hrow,hq.mono (by have:=hbx'.size;omega)⟩,hbx'.later hb⟩
    case refine_8=>
     intro D sp w' hD hW hdp hbx';have hx:∃u,sp 6=.tuple #[u,.int .u32 (rr:Nat)]/\Dt Q (w.heap.size+4) u w':=(hdp 6 (mq (by kernel_rfl))).2
     (with_reducible refine Bc hx fun u hu=>?_)
     have h1:=hu.1;have h2:=hu.2
     (with_reducible refine Ai (w1:=w') (v:=.tuple #[u,.int .u32 (rr:Nat)]) ?_ ?_ ?_)
     .simp only[Region.wanted]
     .simp[execOp,Act.eval,Act.put,go_sem,h1]
     .exact⟨Bd _ _,⟨u,rfl,h2⟩,hbx'⟩
    case refine_9=>
     intro D sp w' hD hW hdp hbx';have hx:∃u,sp 7=.tuple #[u,.int .u32 (rr:Nat)]/\Dt Q (w.heap.size+4) u w':=(hdp 7 (mq (by kernel_rfl))).2
     (with_reducible refine Bc hx fun u hu=>?_)
     have h1:=hu.1;have h2:=hu.2
     (with_reducible refine Ai (w1:=w') (v:=u) ?_ ?_ ?_)
     .simp only[Region.wanted]
     .simp[execOp,Act.eval,Act.put,go_sem,h1]
     .exact⟨Bd _ _,h2,hbx'⟩
    case refine_10=>
     intro D sp w' hD hW hdp hbx';have hx:∃u,sp 7=.tuple #[u,.int .u32 (rr:Nat)]/\Dt Q (w.heap.size+4) u w':=(hdp 7 (mq (by kernel_rfl))).2
     (with_reducible refine Bc hx fun u hu=>?_)
     have h1:=hu.1
     (with_reducible refine Ai (w1:=w') (v:=.int .u32 (rr:Nat)) ?_ ?_ ?_)
     .simp only[Region.wanted]
     .simp[execOp,Act.eval,Act.put,go_sem,h1]
     .exact⟨Bd _ _,rfl,hbx'⟩
    case refine_11=>
     intro D sp w' hD hW hdp hbx';have h2:Dt Q (w.heap.size+4) (sp 8) w':=(hdp 8 (mq (by kernel_rfl))).2
     (with_reducible refine Ai (w1:=w') (v:=sp 8) ?_ ?_ ?_)
     .simp only[Region.wanted]
     .simp[execOp,Act.eval,Act.put,go_sem]
     .exact⟨Bd _ _,h2,hbx'⟩
    case refine_12=>
     intro D sp w' hD hW hdp hbx';have h2:sp 9=.int .u32 (rr:Nat):=(hdp 9 (mq (by kernel_rfl))).2
     (with_reducible refine Ai (w1:=w') (v:=.int .u32 (rr:Nat)) ?_ ?_ ?_)
     .simp only[Region.wanted]
     .simp[execOp,Act.eval,Act.put,go_sem,h2]
     .exact⟨Bd _ _,rfl,hbx'⟩
    all_goals
     intro D sp w' hD hW hdp hbx';have c0:=hbx'.c0;have c1:=hbx'.c1;have cy:w'.cell? ⟨b,off,none⟩=some (.int .u32 (y:Nat)):=by
      rw[(Cd hbx'.bel).1 _ _ hbl];simpa using hcell 0 y rfl
     simp[asked,Region.wanted,Oper.gives,execOp,Act.eval,Act.put,go_sem,c0,c1,cy]
   .intro sp w' hsp hbx';have h10:Dt Q (w.heap.size+4) (sp 10) w':=hsp 10 rfl;have h11:sp 11=.int .u32 (rr:Nat):=hsp 11 rfl;clear hsp;simp only[Ak,Nat.reduceAdd];rw[h11];obtain⟨q,n,d,h1,hq,hqn⟩:=h10;rw[h1];generalize sp 6=u6,sp 7=u7,sp 8=u8,sp 9=u9 at *
    go_simp
    have h4:=hbx'.size;have f2:=hbx'.f2;have f3:=hbx'.f3
    go_wp2_with fail
    refine(Ca _ _ _ _ _ hq g2).mono ?_;rintro e w3 ⟨p,n1,c1,rfl,hn,hb3,hp⟩;rw[HQ.out]at hn
    have hbx3:=hbx'.later hb3
    go_wp2_with fail
    refine(Cp rr w3 (by omega)).mono ?_;rintro e w4 ⟨p2,n2,d2,rfl,hn2,hb4,hp2⟩;have hbx4:=hbx3.later hb4;have hnn:=hn.below hb4;have hpn:El (w.heap.size+4) p:=by
     rcases hp with rfl|rfl
     .exact El.none _
     .exact hqn
    have hp2n:El (w.heap.size+4) p2:=hp2.mono hbx3.size;clear f2 f3 h4;have c2:=hbx4.c2;have c3:=hbx4.c3;have f2:=hbx4.f2;have f3:=hbx4.f3;have h4:=hbx4.size;go_wp2;refine bodyPost_ret (v:=.tuple #[.agg #[.slice p n1 c1],.agg #[.slice p2 n2 d2],.int .i64 0]) (by simp[results,Tryz.results93,go_sem,c2,c3]) rfl ⟨p,n1,c1,p2,n2,d2,by simp[HM.out],?_,?_,?_,hpn.mono (by omega),hp2n.mono (by omega)⟩
    .exact(hnn.setCell (a:=⟨w.heap.size+1+1,0,none⟩) (hpn.ne (show w.heap.size+1+1<w.heap.size+4 by omega)) _).setCell (a:=⟨w.heap.size+1+1+1,0,none⟩) (hpn.ne (show w.heap.size+1+1+1<w.heap.size+4 by omega)) _
    .rw[if_neg HM.out,HV.out,HR.out];exact(hn2.setCell (a:=⟨w.heap.size+1+1,0,none⟩) (hp2n.ne (show w.heap.size+1+1<w.heap.size+4 by omega)) _).setCell (a:=⟨w.heap.size+1+1+1,0,none⟩) (hp2n.ne (show w.heap.size+1+1+1<w.heap.size+4 by omega)) _
    .exact(hbx4.bel.setCell (by simp;omega) _).setCell (by simp;omega) _
end Go.Proofs.YtokhckjemidbpaaGreatDoor
