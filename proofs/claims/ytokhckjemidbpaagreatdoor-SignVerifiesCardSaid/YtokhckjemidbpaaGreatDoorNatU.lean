/- The document's number of bytes. -/
import Derived.Deep.QuietTactic
import Derived.BigQuiet
import Derived.Lib.Tables
import Derived.Lib.BitFns
import Derived.Test.YtokhckjemidbpaaGreatDoorNatX
set_option maxRecDepth 1000000
set_option maxHeartbeats 16000000
set_option linter.all false
namespace Go.Proofs.YtokhckjemidbpaaGreatDoor
open Go Go.RowKit Go.Proofs.YtokhckjemidbpaaGreatDoor.Flow
theorem Pb (h l:Nat)(hh:h<4294967296)(hl:l<4294967296):bits BinOp.or IntKind.u64 ((h:Int)*4294967296) (l:Int)=((h*4294967296+l:Nat):Int):=by
 have e:(h:Int)*4294967296=((h*4294967296:Nat):Int):=by omega
 rw[e,u64_or_nat _ _ (by omega) (by omega),nat_join 32 (h*4294967296) l (by omega) (by omega)]
theorem aK (hi lo y:Nat)(w:World)(h1:hi<y)(h2:lo<4294967296)(h3:y<4294967296) :
  Calls Tryz.prog 200 #[.int .u32 hi,.int .u32 lo,.int .u32 y] w fun e w'=>
   e=.returned (.tuple #[.int .u32 ((hi*4294967296+lo)/y:Nat),.int .u32 ((hi*4294967296+lo)%y:Nat)])/\Below w.heap.size w w':=by
 have hy0:((y:Int)==0)=false:=by rw[beq_eq_false_iff_ne];omega
 have hy1:((y:Int)!=0)=true:=by rw[bne_iff_ne];omega
 have hlt:decide ((y:Int)<=hi)=false:=by simp;omega
 go_enter Tryz.func200,Tryz.ntmps200;go_wp2;rw[Pb hi lo (by omega) h2];obtain⟨z,hz⟩:∃z,hi*4294967296+lo=z:=⟨_,rfl⟩
 rw[hz];have hz1:z<18446744073709551616:=by omega
 have hz2:z<4294967296*y:=by
  have:=Nat.mul_le_mul_left 4294967296 (Nat.succ_le_of_lt h1);omega
 have hq:z/y<4294967296:=(Nat.div_lt_iff_lt_mul (by omega)).2 hz2;have hr:z%y<y:=Nat.mod_lt _ (by omega);have hq':(z:Int)/y<4294967296:=by rw[<-Int.natCast_ediv];omega
 have hr':(z:Int)%y<y:=by rw[<-Int.natCast_emod];omega
 have hq0:0<=(z:Int)/y:=by rw[<-Int.natCast_ediv];exact Int.natCast_nonneg _
 have hr0:0<=(z:Int)%y:=by rw[<-Int.natCast_emod];exact Int.natCast_nonneg _
 have HZ:=Ag hz;clear hz
 go_quiet (fail)
 go_wp2
 go_ret2
 refine⟨?_,below_drewN (Bb _ _) _⟩;rw[HZ.out];simp[Int.natCast_ediv,Int.natCast_emod]
def Ed (ws:List Nat)(y:Nat):Nat->List Nat×Nat
 | 0=>([],0)
 | k+1=>((((Ed ws y k).2*4294967296+ws.getD (ws.length-1-k) 0)/y)::(Ed ws y k).1,((Ed ws y k).2*4294967296+ws.getD (ws.length-1-k) 0)%y)
theorem On (ws:List Nat)(y:Nat)(hw:Words ws)(hy:0<y):∀k,k<=ws.length->(Ed ws y k).1.length=k/\Words (Ed ws y k).1/\(Ed ws y k).2<y /\
  val (ws.drop (ws.length-k))=val (Ed ws y k).1*y+(Ed ws y k).2
 | 0,_=>by simp[Ed,Words.nil,val,hy]
 | k+1,hk=>by
  obtain⟨h1,h2,h3,h4⟩:=On ws y hw hy k (by omega);have hx:=hw.get (ws.length-1-k);have hd:ws.drop (ws.length-(k+1))=ws.getD (ws.length-1-k) 0::ws.drop (ws.length-k):=by
   rw[List.drop_eq_getElem_cons (by omega),Du];have e:ws.length-(k+1)=ws.length-1-k:=by omega
   simp only[e,List.getElem?_eq_getElem (show ws.length-1-k<ws.length by omega),Option.getD_some]
   congr 2;omega
  simp only[Ed];rw[hd];generalize ws.getD (ws.length-1-k) 0=x at *;generalize (Ed ws y k).1=Q at *;generalize (Ed ws y k).2=r at *;have hdm:=Nat.div_add_mod (r*4294967296+x) y;have hm:=Nat.mod_lt (r*4294967296+x) hy;have hq:(r*4294967296+x)/y<4294967296:=by
   rw[Nat.div_lt_iff_lt_mul hy];have:=Nat.mul_le_mul_left 4294967296 (Nat.succ_le_of_lt h3);omega
  generalize (r*4294967296+x)/y=q at *;generalize (r*4294967296+x)%y=s at *;refine⟨by simp[h1],?_,hm,?_⟩
  .intro z hz;rcases List.mem_cons.1 hz with rfl|hz
   .exact hq
   .exact h2 z hz
  .simp only[val];rw[h4,Nat.add_mul];have e1:4294967296*val Q*y=4294967296*(val Q*y):=Nat.mul_assoc _ _ _;have e2:y*q=q*y:=Nat.mul_comm _ _;omega
theorem Vb (w:World)(p:Option Addr)(n c:Nat)(ws:List Nat)(y:Nat)(h:Row w .u32 p n c ws)(hw:Words ws)(hn:n<1000000)(hy0:0<y)(hy:y<4294967296) :
  Calls Tryz.prog 154 #[.slice p n c,.int .u32 y] w fun e w'=>∃q d,e=.returned (.tuple #[.slice q n d,.int .u32 (val ws%y:Nat)]) /\
   Row w' .u32 q n d (Ed ws y n).1/\Below w.heap.size w w'/\Gd w.heap.size q:=by
 have HL:=Ag h.len;have hmk:=Iy n (by omega);go_enter Tryz.func154,Tryz.ntmps154;go_wp2
 go_loopw [7,8] (fun r i wr=>∃k m:Nat,k+m<=n/\n<=k+m/\i=.int .i64 ((m:Int)-1)/\r=.int .u32 ((Ed ws y k).2:Nat)/\Below w.heap.size w wr/\Bm wr w.heap.size 129 .u32 (List.replicate m 0++(Ed ws y k).1)) (fun _ i _=>(intOf i+1).toNat)
 case atStart=>
  refine⟨0,n,by omega,by omega,rfl,rfl,(Bb _ _).alloc (As _) _,?_⟩;simp only[Ed,List.append_nil];exact Bm.zeros _ _ _ _
 case round=>
  obtain⟨k,m,hkm,hkm2,rfl,rfl,hbw,hblk⟩:=hrel;have hk:k<=ws.length:=by have:=HL.out;omega
  obtain⟨g1,g2,g3,g4⟩:=On ws y hw hy0 k hk
  cases m with
  | succ j=>
   have hrow:=h.below hbw;obtain⟨b,off,rfl,hb,hc⟩:=hrow.pos (by omega);obtain⟨x,hx⟩:∃x,ws.getD j 0=x:=⟨_,rfl⟩
   have hcx:wr.cell? ⟨b,off+j,none⟩=some (.int .u32 (x:Nat)):=hc _ _ (by
    rw[<-hx,Du];simp[show j<ws.length by have:=HL.out;omega])
   have hx1:x<4294967296:=by rw[<-hx];exact hw.get _
   have hstep:Hid ((Ed ws y (k+1))=(((Ed ws y k).2*4294967296+x)/y::(Ed ws y k).1,((Ed ws y k).2*4294967296+x)%y)):=by
    have e:ws.length-1-k=j:=by have:=HL.out;omega
    show Ed ws y (k+1)=_;rw[Ed,e,hx]
   clear hc hx g4;generalize hQ:(Ed ws y k).1=Q at *;generalize hR:(Ed ws y k).2=r at *;have hcl:wr.cell? ⟨w.heap.size,j,none⟩=some (.int .u32 (0:Nat)):=hblk.cell (by rw[List.getElem?_append_left (by simp)];simp);have hfr:=hblk.free j;have hset:Hid (∀v,Bm (wr.setCell ⟨w.heap.size,j,none⟩ (.int .u32 ((v:Nat)))) w.heap.size 129 .u32 (List.replicate j 0++(v::Q))):=fun v=>by
    have h5:=hblk.set j v;rw[List.set_append_left _ _ (by simp),List.replicate_succ',List.set_append_right _ _ (by simp)]at h5
    simpa using h5
   have e1:(((j+1:Nat):Int)-1)=(j:Int):=by omega
   simp only[e1];clear e1 hQ hR;have hgl:=hblk.lt
   go_wp2_with fail
   refine(aK r x y _ g3 hx1 hy).mono ?_;rintro e w2 ⟨rfl,hb2⟩;have hcl2:=((Ca hb2).1 _ j hgl).trans hcl;have hfr2:=((Ca hb2).2 _ j hgl).trans hfr;go_wp2;go_roundw
   case rel=>
    have ed:((r:Int)*4294967296+x)/y=(((r*4294967296+x)/y:Nat):Int):=by simp[Int.natCast_ediv]
    have em:((r:Int)*4294967296+x)%y=(((r*4294967296+x)%y:Nat):Int):=by simp[Int.natCast_emod]
    rw[ed,em];refine⟨k+1,j,by omega,by omega,rfl,by rw[hstep.out],(hbw.trans (hb2.mono hbw.size)).setCell (As _) _,?_⟩;rw[hstep.out];have h6:=(hset.out ((r*4294967296+x)/y))
    have h7:=h6;unfold Bm at h7 ⊢;have h8:(w2.setCell ⟨w.heap.size,j,none⟩ (.int .u32 (((r*4294967296+x)/y:Nat)))).heap[w.heap.size]? = (wr.setCell ⟨w.heap.size,j,none⟩ (.int .u32 (((r*4294967296+x)/y:Nat)))).heap[w.heap.size]? := by
     simp only[World.setCell,Array.getElem?_modify,if_true];rw[hb2.block _ hgl]
    rw[h8];exact h7
   case measure=>simp[intOf]
  | zero=>
   have hkn:k=n:=by omega
   have HK:=Ag hkn;rw[hkn,List.replicate_zero,List.nil_append]at hblk
   have hrow:=hblk.row (n:=n) (c:=n) (by rw[<-hkn];exact g1.symm) (As _) (by omega);have hv:(Ed ws y k).2=val ws%y:=by
    have e0:ws.length-k=0:=by have:=HL.out;omega
    rw[e0,List.drop_zero]at g4
    rw[g4,Nat.mul_comm,Nat.mul_add_mod,Nat.mod_eq_of_lt g3]
   have HV:=Ag hv;clear hv hkn g1 g2 g3 g4;go_wp2
   go_ret2
   refine⟨_,_,?_,hrow,hbw,fun q hq=>by cases hq;exact As _⟩;rw[<-HV.out];rfl
structure Jl (w wr:World) (u0 u1 u2 u3:Value):Prop where
 bel:Below w.heap.size w wr
 size:w.heap.size+4<=wr.heap.size
 c0:wr.cell? ⟨w.heap.size,0,none⟩=some u0
 c1:wr.cell? ⟨w.heap.size+1,0,none⟩=some u1
 c2:wr.cell? ⟨w.heap.size+1+1,0,none⟩=some u2
 c3:wr.cell? ⟨w.heap.size+1+1+1,0,none⟩=some u3
 f0:wr.frozen? ⟨w.heap.size,0,none⟩=false
 f1:wr.frozen? ⟨w.heap.size+1,0,none⟩=false
 f2:wr.frozen? ⟨w.heap.size+1+1,0,none⟩=false
 f3:wr.frozen? ⟨w.heap.size+1+1+1,0,none⟩=false
theorem Jl.below {w wr w1:World}{u0 u1 u2 u3:Value}(h:Jl w wr u0 u1 u2 u3){B:Nat}(hb:Below B wr w1)(hB:w.heap.size+4<=B):Jl w w1 u0 u1 u2 u3:=by
 obtain⟨hc,hf⟩:=Ca hb;refine⟨h.bel.trans (hb.mono (by omega)),Dn h.size hb.size,?_,?_,?_,?_,?_,?_,?_,?_⟩
 .rw[hc _ _ (by omega)];exact h.c0
 .rw[hc _ _ (by omega)];exact h.c1
 .rw[hc _ _ (by omega)];exact h.c2
 .rw[hc _ _ (by omega)];exact h.c3
 .rw[hf _ _ (by omega)];exact h.f0
 .rw[hf _ _ (by omega)];exact h.f1
 .rw[hf _ _ (by omega)];exact h.f2
 .rw[hf _ _ (by omega)];exact h.f3
theorem Jl.later {w wr w1:World}{u0 u1 u2 u3:Value}(h:Jl w wr u0 u1 u2 u3)(hb:Below wr.heap.size wr w1):Jl w w1 u0 u1 u2 u3:=h.below hb h.size
theorem Jl.mk4 (w:World)(u0 u1 u2 u3:Value)(t0 t1 t2 t3:TypeId) :
  Jl w ((((w.alloc (.cells #[u0] t0)).alloc (.cells #[u1] t1)).alloc (.cells #[u2] t2)).alloc (.cells #[u3] t3)) u0 u1 u2 u3:=by
 refine⟨?_,by simp,by simp[go_sem],by simp[go_sem],by simp[go_sem],by simp[go_sem],by simp[go_sem],by simp[go_sem],by simp[go_sem],by simp[go_sem]⟩;exact((((Bb _ _).alloc (As _) _).alloc (by simp) _).alloc (by simp;omega) _).alloc (by simp;omega) _
def Ga (Q:List Nat)(B:Nat)(v:Value)(w:World):Prop:=∃q n d,v=.slice q n d/\Row w .u32 q n d Q/\Gd B q
theorem Ga.below {bs:List Nat}{B:Nat}{v:Value}{w w':World}(h:Ga bs B v w)(hb:Below w.heap.size w w'):Ga bs B v w' :=
 let ⟨q,n,d,h1,h2,h3⟩:=h
 ⟨q,n,d,h1,h2.below hb,h3⟩
def Uo (N M:Nat)(w:World)(e:Ending)(w':World):Prop:=∃p n c q m d,e=.returned (.tuple #[.agg #[.slice p n c],.agg #[.slice q m d],.int .i64 (if M=0 then 5 else 0)]) /\
 Aj w' p n c (N/M)/\Aj w' q m d (if M=0 then 0 else N%M)/\Below w.heap.size w w'/\Gd w.heap.size p/\Gd w.heap.size q
theorem Aj.nil (w:World):Aj w none 0 0 0:=⟨[],Row.nil _ _,Words.nil,by simp,by simp[val]⟩
theorem Wh (w:World)(pa:Option Addr)(na ca N:Nat)(pb:Option Addr)(nb cb M:Nat)(hA:Aj w pa na ca N)(hB:Aj w pb nb cb M)(hs:na<1000000)(hsb:nb<1000000)(hone:nb<=1 ∨ N<M) :
  Calls Tryz.prog 93 #[.agg #[.slice pa na ca],.agg #[.slice pb nb cb]] w (Uo N M w):=by
 have hbx:=Jl.mk4 w (.slice pa na ca) (.slice pb nb cb) (.slice none 0 0) (.slice none 0 0) 37 37 37 37
 by_cases hz:nb=0
 .have hM:M=0:=hB.zero.1 hz;have HM:=Ag hM;have hdz:decide (nb=0)=true:=by simp[hz]
  clear hz hM;go_enter Tryz.func93,Tryz.ntmps93
  go_wp2_with fail
  refine(El _ pb nb cb).mono ?_;rintro e w1 ⟨rfl,hb1⟩;have hbx1:=hbx.later hb1;have c0:=hbx1.c0;have c1:=hbx1.c1;have c2:=hbx1.c2;have c3:=hbx1.c3;have f2:=hbx1.f2;have f3:=hbx1.f3;rw[hdz];have hz1:=hbx1.size;go_wp2;refine bodyPost_ret (v:=.tuple #[.agg #[.slice none 0 0],.agg #[.slice none 0 0],.int .i64 5]) (by simp[results,Tryz.results93,go_sem,c2,c3]) rfl ⟨none,0,0,none,0,0,by simp[HM.out],?_,?_,?_,Gd.none _,Gd.none _⟩
  .rw[HM.out,Nat.div_zero];exact Aj.nil _
  .rw[if_pos HM.out];exact Aj.nil _
  .exact(hbx1.bel.setCell (by simp;omega) _).setCell (by simp;omega) _
 .have hM:M≠0:=fun h=>hz (hB.zero.2 h)
  have HM:=Ag hM;have HZ:=Ag hz;have hdz:decide (nb=0)=false:=by simp[hz]
  clear hz hM
  by_cases hlt:N<M
  .have hcm:Bo N M = -1:=Dl hlt;have HLT:=Ag hlt;clear hlt;go_enter Tryz.func93,Tryz.ntmps93
   go_wp2_with fail
   refine(El _ pb nb cb).mono ?_;rintro e w1 ⟨rfl,hb1⟩;have hbx1:=hbx.later hb1;have c0:=hbx1.c0;have c1:=hbx1.c1;rw[hdz]
   go_wp2_with fail
   refine(Is _ pa pb na ca N nb cb M (hA.below hbx1.bel) (hB.below hbx1.bel) hs hsb).mono ?_;rintro e w2 ⟨rfl,hb2⟩;rw[hcm];have hbx2:=hbx1.later hb2;clear c0 c1;have c0:=hbx2.c0;have c1:=hbx2.c1
   go_wp2_with fail
   refine(Rp _ pa na ca N (hA.below hbx2.bel) hs).mono ?_;rintro e w3 ⟨p,n,c,rfl,hn,hb3,hp⟩;have hbx3:=hbx2.later hb3;clear c0 c1;have c2:=hbx3.c2;have c3:=hbx3.c3;have f2:=hbx3.f2;have f3:=hbx3.f3;have hz3:=hbx3.size;have hz2:=hbx2.size;go_wp2;refine bodyPost_ret (v:=.tuple #[.agg #[.slice none 0 0],.agg #[.slice p n c],.int .i64 0]) (by simp[results,Tryz.results93,go_sem,c2,c3]) rfl ⟨none,0,0,p,n,c,by simp[HM.out],?_,?_,?_,Gd.none _,hp.mono (by omega)⟩
   .rw[Nat.div_eq_of_lt HLT.out];exact Aj.nil _
   .rw[if_neg HM.out,Nat.mod_eq_of_lt HLT.out];exact(hn.setCell (a:=⟨w.heap.size+1+1,0,none⟩) (hp.ne (show w.heap.size+1+1<w2.heap.size by omega)) _).setCell (a:=⟨w.heap.size+1+1+1,0,none⟩) (hp.ne (show w.heap.size+1+1+1<w2.heap.size by omega)) _
   .exact(hbx3.bel.setCell (by simp;omega) _).setCell (by simp;omega) _
  .have hcm:decide (Bo N M<0)=false:=by
    have:¬Bo N M<0:=by unfold Bo;rw[if_neg hlt];split<;>omega
    simpa using this
   have HCM:=Ag hcm;have hn1:nb=1:=by
    have:=HZ.out;rcases hone with h|h
    .omega
    .exact absurd h hlt
   clear hcm hlt hone;subst hn1;obtain⟨A,a1,a2,a3,rfl⟩:=hA.ex;obtain⟨B,b1,b2,b3,rfl⟩:=hB.ex;obtain⟨y,rfl⟩:∃y,B=[y]:=List.length_eq_one_iff.1 b1.len.symm;have hv:val [y]=y:=by simp[val]
   have hy:y<4294967296:=b2 y (by simp);have hy0:0<y:=by have:=HM.out;rw[hv]at this;omega
   have HV:=Ag hv;clear hv;obtain⟨b,off,rfl,hbl,hcell⟩:=b1.pos (by omega);go_enter Tryz.func93,Tryz.ntmps93
   go_wp2_with fail
   refine(El _ _ _ _).mono ?_;rintro e w1 ⟨rfl,hb1⟩;have hbx1:=hbx.later hb1;have c0:=hbx1.c0;have c1:=hbx1.c1;rw[hdz]
   go_wp2_with fail
   refine(Is _ pa _ na ca _ _ cb _ (hA.below hbx1.bel) (hB.below hbx1.bel) hs hsb).mono ?_;rintro e w2 ⟨rfl,hb2⟩;have hbx2:=hbx1.later hb2;have hcm:=HCM.out;clear c0 c1;have c0:=hbx2.c0;have c1:=hbx2.c1;have cy:w2.cell? ⟨b,off,none⟩=some (.int .u32 (y:Nat)):=by
    rw[(Ca hbx2.bel).1 _ _ hbl];simpa using hcell 0 y rfl
   go_wp2;obtain⟨rr,hrr⟩:∃r,val A%y=r:=⟨_,rfl⟩
   have hr:rr<y:=by rw[<-hrr];exact Nat.mod_lt _ hy0
   have HR:=Ag hrr;clear hrr;obtain⟨g1,g2,g3,g4⟩:=On A y a2 hy0 na (by have:=a1.len;omega);have hq1:val (Ed A y na).1=val A/val [y]:=by
    have e0:A.length-na=0:=by have:=a1.len;omega
    rw[e0,List.drop_zero]at g4
    rw[HV.out,g4,Nat.mul_comm,Nat.mul_add_div hy0,Nat.div_eq_of_lt g3,Nat.add_zero]
   have HQ:=Ag hq1;clear hq1 g1 g3 g4;generalize hQ:(Ed A y na).1=Q at *;have HQQ:=Ag hQ;clear hQ;refine Ah (by kernel_rfl) (by kernel_rfl)
    [some (.pointer (some ⟨w.heap.size,0,none⟩)),some (.slice pa na ca),some (.pointer (some ⟨w.heap.size+1,0,none⟩)),some (.slice (some ⟨b,off,none⟩) 1 cb),some (.pointer (some ⟨b,off,none⟩)),some (.int .u32 y),none,none,none,none,none,none]
    [false,false,false,false,false,false,true,true,true,true,true,true] rfl
    (fun w1 w2=>Below w1.heap.size w1 w2)
    (fun _ w'=>Jl w w' (.slice pa na ca) (.slice (some ⟨b,off,none⟩) 1 cb) (.slice none 0 0) (.slice none 0 0))
    (fun i v w'=>match i with
     | 6|7=>∃u,v=.tuple #[u,.int .u32 (rr:Nat)]/\Ga Q (w.heap.size+4) u w'
     | 8|10=>Ga Q (w.heap.size+4) v w'
     | _=>v=.int .u32 (rr:Nat))
    ?_ (hbx2.below (Bb _ _).drew (As _)) ?_ ?_
   .intro i v w1 w2 hf hb;split at hf
    .exact hf.imp fun u h=>⟨h.1,h.2.below hb⟩
    .exact hf.imp fun u h=>⟨h.1,h.2.below hb⟩
    .exact hf.below hb
    .exact hf.below hb
    .exact hf
   .simp only[Ba,Nat.reduceAdd];refine⟨?_,?_,?_,?_,?_,?_,?_,?_,?_,?_,?_,?_,trivial⟩
    case refine_7=>
     intro D sp w' hD hW hdp hbx'
     (with_reducible refine Ac (w1:=w') (f := 154) (args:=#[.slice pa na ca,.int .u32 y]) ?_ ?_ ?_)
     .simp only[Region.wanted]
     .simp[Act.eval,Act.put,go_sem]
     .refine(Vb w' pa na ca A y (a1.below hbx'.bel) a2 hs hy0 hy).mono ?_;rintro e w3 ⟨q,d,rfl,hrow,hb,hq⟩;rw[HQQ.out]at hrow
      rw[HR.out];exact⟨_,rfl,hb,⟨_,rfl,q,na,d,rfl,hrow,hq.mono (by have:=hbx'.size;omega)⟩,hbx'.later hb⟩
    case refine_8=>
     intro D sp w' hD hW hdp hbx';have hx:∃u,sp 6=.tuple #[u,.int .u32 (rr:Nat)]/\Ga Q (w.heap.size+4) u w':=(hdp 6 (mq (by kernel_rfl))).2
     (with_reducible refine Ay hx fun u hu=>?_)
     have h1:=hu.1;have h2:=hu.2
     (with_reducible refine Ai (w1:=w') (v:=.tuple #[u,.int .u32 (rr:Nat)]) ?_ ?_ ?_)
     .simp only[Region.wanted]
     .simp[execOp,Act.eval,Act.put,go_sem,h1]
     .exact⟨Bb _ _,⟨u,rfl,h2⟩,hbx'⟩
    case refine_9=>
     intro D sp w' hD hW hdp hbx';have hx:∃u,sp 7=.tuple #[u,.int .u32 (rr:Nat)]/\Ga Q (w.heap.size+4) u w':=(hdp 7 (mq (by kernel_rfl))).2
     (with_reducible refine Ay hx fun u hu=>?_)
     have h1:=hu.1;have h2:=hu.2
     (with_reducible refine Ai (w1:=w') (v:=u) ?_ ?_ ?_)
     .simp only[Region.wanted]
     .simp[execOp,Act.eval,Act.put,go_sem,h1]
     .exact⟨Bb _ _,h2,hbx'⟩
    case refine_10=>
     intro D sp w' hD hW hdp hbx';have hx:∃u,sp 7=.tuple #[u,.int .u32 (rr:Nat)]/\Ga Q (w.heap.size+4) u w':=(hdp 7 (mq (by kernel_rfl))).2
     (with_reducible refine Ay hx fun u hu=>?_)
     have h1:=hu.1
     (with_reducible refine Ai (w1:=w') (v:=.int .u32 (rr:Nat)) ?_ ?_ ?_)
     .simp only[Region.wanted]
     .simp[execOp,Act.eval,Act.put,go_sem,h1]
     .exact⟨Bb _ _,rfl,hbx'⟩
    case refine_11=>
     intro D sp w' hD hW hdp hbx';have h2:Ga Q (w.heap.size+4) (sp 8) w':=(hdp 8 (mq (by kernel_rfl))).2
     (with_reducible refine Ai (w1:=w') (v:=sp 8) ?_ ?_ ?_)
     .simp only[Region.wanted]
     .simp[execOp,Act.eval,Act.put,go_sem]
     .exact⟨Bb _ _,h2,hbx'⟩
    case refine_12=>
     intro D sp w' hD hW hdp hbx';have h2:sp 9=.int .u32 (rr:Nat):=(hdp 9 (mq (by kernel_rfl))).2
     (with_reducible refine Ai (w1:=w') (v:=.int .u32 (rr:Nat)) ?_ ?_ ?_)
     .simp only[Region.wanted]
     .simp[execOp,Act.eval,Act.put,go_sem,h2]
     .exact⟨Bb _ _,rfl,hbx'⟩
    all_goals
     intro D sp w' hD hW hdp hbx';have c0:=hbx'.c0;have c1:=hbx'.c1;have cy:w'.cell? ⟨b,off,none⟩=some (.int .u32 (y:Nat)):=by
      rw[(Ca hbx'.bel).1 _ _ hbl];simpa using hcell 0 y rfl
     simp[asked,Region.wanted,Oper.gives,execOp,Act.eval,Act.put,go_sem,c0,c1,cy]
   .intro sp w' hsp hbx';have h10:Ga Q (w.heap.size+4) (sp 10) w':=hsp 10 rfl;have h11:sp 11=.int .u32 (rr:Nat):=hsp 11 rfl;clear hsp;simp only[An,Nat.reduceAdd];rw[h11];obtain⟨q,n,d,h1,hq,hqn⟩:=h10;rw[h1];generalize sp 6=u6,sp 7=u7,sp 8=u8,sp 9=u9 at *
    go_simp
    have h4:=hbx'.size;have f2:=hbx'.f2;have f3:=hbx'.f3
    go_wp2_with fail
    refine(Cw _ _ _ _ _ hq g2).mono ?_;rintro e w3 ⟨p,n1,c1,rfl,hn,hb3,hp⟩;rw[HQ.out]at hn
    have hbx3:=hbx'.later hb3
    go_wp2_with fail
    refine(Do rr w3 (by omega)).mono ?_;rintro e w4 ⟨p2,n2,d2,rfl,hn2,hb4,hp2⟩;have hbx4:=hbx3.later hb4;have hnn:=hn.below hb4;have hpn:Gd (w.heap.size+4) p:=by
     rcases hp with rfl|rfl
     .exact Gd.none _
     .exact hqn
    have hp2n:Gd (w.heap.size+4) p2:=hp2.mono hbx3.size;clear f2 f3 h4;have c2:=hbx4.c2;have c3:=hbx4.c3;have f2:=hbx4.f2;have f3:=hbx4.f3;have h4:=hbx4.size;go_wp2;refine bodyPost_ret (v:=.tuple #[.agg #[.slice p n1 c1],.agg #[.slice p2 n2 d2],.int .i64 0]) (by simp[results,Tryz.results93,go_sem,c2,c3]) rfl ⟨p,n1,c1,p2,n2,d2,by simp[HM.out],?_,?_,?_,hpn.mono (by omega),hp2n.mono (by omega)⟩
    .exact(hnn.setCell (a:=⟨w.heap.size+1+1,0,none⟩) (hpn.ne (show w.heap.size+1+1<w.heap.size+4 by omega)) _).setCell (a:=⟨w.heap.size+1+1+1,0,none⟩) (hpn.ne (show w.heap.size+1+1+1<w.heap.size+4 by omega)) _
    .rw[if_neg HM.out,HV.out,HR.out];exact(hn2.setCell (a:=⟨w.heap.size+1+1,0,none⟩) (hp2n.ne (show w.heap.size+1+1<w.heap.size+4 by omega)) _).setCell (a:=⟨w.heap.size+1+1+1,0,none⟩) (hp2n.ne (show w.heap.size+1+1+1<w.heap.size+4 by omega)) _
    .exact(hbx4.bel.setCell (by simp;omega) _).setCell (by simp;omega) _
theorem Zr:(⟨((([0,1,2,2,3,3,3,3,4,4,4,4,4,4,4,4,5,5,5,5,5,5,5,5,5,5,5,5,5,5,5,5,6,6,6,6,6,6,6,6,6,6,6,6,6,6,6,6,6,6,6,6,6,6,6,6,6,6,6,6,6,6,6,6]:List UInt8).append [7,7,7,7,7,7,7,7,7,7,7,7,7,7,7,7,7,7,7,7,7,7,7,7,7,7,7,7,7,7,7,7,7,7,7,7,7,7,7,7,7,7,7,7,7,7,7,7,7,7,7,7,7,7,7,7,7,7,7,7,7,7,7,7]).append (([8,8,8,8,8,8,8,8,8,8,8,8,8,8,8,8,8,8,8,8,8,8,8,8,8,8,8,8,8,8,8,8,8,8,8,8,8,8,8,8,8,8,8,8,8,8,8,8,8,8,8,8,8,8,8,8,8,8,8,8,8,8,8,8]:List UInt8).append [8,8,8,8,8,8,8,8,8,8,8,8,8,8,8,8,8,8,8,8,8,8,8,8,8,8,8,8,8,8,8,8,8,8,8,8,8,8,8,8,8,8,8,8,8,8,8,8,8,8,8,8,8,8,8,8,8,8,8,8,8,8,8,8])).toArray⟩:ByteArray)=Lib.len8tab:=by kernel_rfl
theorem gN:∀n:Fin 256,Lib.len8 (n.val:Int)=(Ao n.val:Int):=by decide +kernel
theorem Rz (y:Int)(h0:0<=y)(h1:y<=255)(h:y.toNat<Lib.len8tab.size):((Lib.len8tab[y.toNat]'h).toNat:Int)=(Ao y.toNat:Nat):=by
 have e:=gN ⟨y.toNat,by omega⟩;simp only[Int.toNat_of_nonneg h0]at e;rw[<-e];unfold Lib.len8;rw[getElem?_pos Lib.len8tab y.toNat h];rfl
theorem Qa (k:Nat)(m n:Nat)(hk:k<=24)(hm:Ao m<=64)(e:Ao n=k+Ao m):wrap64 ((k:Int)+wrap64 (Ao m:Nat))=(Ao n:Nat):=by
 rw[e,IntWalk.wrap64_in (Ao m:Nat) ⟨by omega,by omega⟩,IntWalk.wrap64_in _ ⟨by omega,by omega⟩];omega
theorem bM (m:Nat)(hm:Ao m<=64):wrap64 (wrap64 (Ao m:Nat))=(Ao m:Nat):=by
 rw[IntWalk.wrap64_in (Ao m:Nat) ⟨by omega,by omega⟩,IntWalk.wrap64_in _ ⟨by omega,by omega⟩]
theorem gO (x:Int)(w:World)(h0:0<=x)(hx:x<=4294967295) :
  Calls Tryz.prog 220 #[.int .u32 x] w fun e w'=>e=.returned (.int .i64 (Ao x.toNat:Nat))/\w=w':=by
 have hs:Lib.len8tab.size=256:=Lib.len8tab_size;go_enter Tryz.func220,Tryz.ntmps220;rw[Zr];go_wp2
 all_goals first
  | (go_ret;refine⟨congrArg Ending.returned (congrArg (Value.int IntKind.i64) ?_),rfl⟩)
  | (exfalso;omega)
 all_goals first
  | (rw[Rz (x/65536/256) (by omega) (by omega)];exact Qa 24 _ _ (by omega) (Np (by omega)) (by rw[show (x/65536/256).toNat=x.toNat/2^24 by omega];exact Jh _ _ (by omega)))
  | (rw[Rz (x/65536) (by omega) (by omega)];exact Qa 16 _ _ (by omega) (Np (by omega)) (by rw[show (x/65536).toNat=x.toNat/2^16 by omega];exact Jh _ _ (by omega)))
  | (rw[Rz (x/256) (by omega) (by omega)];exact Qa 8 _ _ (by omega) (Np (by omega)) (by rw[show (x/256).toNat=x.toNat/2^8 by omega];exact Jh _ _ (by omega)))
  | (rw[Rz x (by omega) (by omega)];exact bM _ (Np (by omega)))
theorem Ri (x:Nat)(w:World)(hx:x<4294967296) :
  Calls Tryz.prog 220 #[.int .u32 x] w fun e w'=>e=.returned (.int .i64 (Ao x:Nat))/\w=w':=by
 have:=gO x w (by omega) (by omega);simpa using this
theorem dQ {ws:List Nat}{x:Nat}(hw:Words (ws++[x]))(hx:x≠0):Ao (val (ws++[x]))=32*ws.length+Ao x:=by
 rw[Eu];have hb:Ar ws.length=2^(32*ws.length):=by unfold Ar;rw[show (4294967296:Nat)=2^32 from rfl,<-Nat.pow_mul]
 have h1:val ws<Ar ws.length:=Words.lt fun y hy=>hw y (by simp[hy])
 have hd:(val ws+Ar ws.length*x)/2^(32*ws.length)=x:=by
  rw[<-hb,Nat.add_mul_div_left _ _ (Hx _),Nat.div_eq_of_lt h1,Nat.zero_add]
 have:=Jh (val ws+Ar ws.length*x) (32*ws.length) (by rw[hd];omega);rw[hd]at this
 exact this
theorem Fj (w:World)(p:Option Addr)(n c N:Nat)(h:Aj w p n c N)(hn:n<1000000) :
  Calls Tryz.prog 184 #[.agg #[.slice p n c]] w fun e w'=>e=.returned (.int .i64 (Ao N:Nat))/\Below w.heap.size w w':=by
 have hbx:=Ef.mk1 w (.slice p n c) 37
 by_cases h0:n=0
 .have hN:N=0:=h.zero.1 h0;subst hN;have hd:decide (n=0)=true:=by simpa using h0
  clear h0;go_enter Tryz.func184,Tryz.ntmps184
  go_wp2_with fail
  refine(El _ p n c).mono ?_;rintro e w1 ⟨rfl,hb1⟩;go_wp2;go_ret;exact⟨rfl,(hbx.later hb1).bel⟩
 .obtain⟨m,rfl⟩:∃m,n=m+1:=⟨n-1,by omega⟩
  obtain⟨ws,h1,h2,h3,h4⟩:=h.ex;have hl:=h1.len;obtain⟨xs,x,rfl⟩:∃xs x,ws=xs++[x]:=by
   rcases List.eq_nil_or_concat ws with rfl|⟨xs,x,h⟩
   .simp at hl
   .exact⟨xs,x,by simpa using h⟩
  have hxm:xs.length=m:=by simp at hl;omega
  have hx0:x≠0:=by simpa using h3
  have hx1:x<4294967296:=h2 x (by simp);have hbl:=dQ h2 hx0;rw[h4,hxm]at hbl
  have HBL:=Ag hbl;have hxb:Ao x<=32:=by rw[Bg];exact hx1
  obtain⟨b,off,rfl,hb,hc⟩:=h1.pos (by omega);have hci:∀w',Below w.heap.size w w'->w'.cell? ⟨b,off+m,none⟩=some (.int .u32 (x:Nat)):=fun w' hb'=>by
   rw[(Ca hb').1 _ _ hb];exact hc m x (by rw[<-hxm];simp)
  have hd:decide (m+1=0)=false:=by simp
  clear hc hl h4 hbl hxm;go_enter Tryz.func184,Tryz.ntmps184
  go_wp2_with fail
  refine(El _ _ (m+1) c).mono ?_;rintro e w1 ⟨rfl,hb1⟩;have hbx1:=hbx.later hb1;have c0:=hbx1.c0;have hcx:=hci w1 hbx1.bel;clear hci
  go_wp2_with fail
  refine(Ri x _ hx1).mono ?_;rintro e w2 ⟨rfl,rfl⟩;go_wp2;go_ret;refine⟨?_,hbx1.bel⟩;rw[HBL.out];exact congrArg (fun z=>Ending.returned (.int .i64 z)) (by omega)
def Fa (N n:Nat):List Nat:=(List.range n).map fun i=>N/B8 i%256
def Az (N n:Nat):List Nat:=(Fa N n).reverse
def Ak (N:Nat):Nat:=(Ao N+7)/8
theorem Db (N n:Nat):(Fa N n).length=n:=by simp[Fa]
theorem Qi (N n:Nat):Fa N (n+1)=Fa N n++[N/B8 n%256]:=by simp[Fa,List.range_succ]
theorem Gf (N n:Nat):Au (Fa N n):=by
 intro x hx;simp only[Fa,List.mem_map]at hx;obtain⟨j,_,rfl⟩:=hx;exact Nat.mod_lt _ (by omega)
theorem Dj (N:Nat):N<B8 (Ak N):=by
 rw[Ih];refine(Bg N _).1 ?_;unfold Ak;omega
theorem Jf {N n:Nat}:Ak N<=n ↔ N<B8 n:=by
 rw[Ih,<-Bg];unfold Ak;omega
theorem kV {N k n:Nat}(h:N<B8 k)(hk:k<=n):Fa N k++List.replicate (n-k) 0=Fa N n:=by
 obtain⟨d,rfl⟩:∃d,n=k+d:=⟨n-k,by omega⟩
 rw[Nat.add_sub_cancel_left];clear hk
 induction d with
 | zero=>simp
 | succ d ih=>
  rw[List.replicate_succ',<-List.append_assoc,ih,<-Nat.add_assoc,Qi]
  congr 2
  have:B8 k<=B8 (k+d):=Hw (by omega);rw[Nat.div_eq_of_lt (by omega)]
theorem Sd (N:Nat):∀n,le (Fa N n)=N%B8 n
 | 0=>by simp[Fa,le,Ju,Nat.mod_one]
 | n+1=>by rw[Qi,eK,Db,Sd N n,Hv,Nat.mul_comm 256,Nat.mod_mul]
theorem Re (l:List Nat)(k x:Nat)(hk:k<l.length):l.reverse.set (l.length-1-k) x=(l.set k x).reverse:=by
 apply List.ext_getElem (by simp);intro i h1 h2;simp only[List.length_set,List.length_reverse]at h1;rw[List.getElem_set,List.getElem_reverse,List.getElem_reverse,List.getElem_set];simp only[List.length_set]
 by_cases h:l.length-1-k=i
 .rw[if_pos h,if_pos (by omega)]
 .rw[if_neg h,if_neg (by omega)]
theorem Yc {N q r:Nat}(hr:r<4):N/Ar q%4294967296/B8 r%256=N/B8 (4*q+r)%256:=by
 have e:(4294967296:Nat)=B8 r*(256*B8 (3-r)):=by
  rw[<-Hv,<-eE,show r+(3-r+1)=4 by omega];rfl
 rw[e,Nat.mod_mul_right_div_self,Nat.mod_mul_right_mod,Nat.div_div_eq_div_mul,eE,Nt]
theorem Kz (w:World)(p:Option Addr)(n c N:Nat)(h:Aj w p n c N)(hn:n<1000000)(hN:Ao N<=1000000000) :
  Calls Tryz.prog 152 #[.agg #[.slice p n c]] w fun e w'=>e=.returned (.int .i64 (Ak N:Nat))/\Below w.heap.size w w':=by
 have hbx:=Ef.mk1 w (.slice p n c) 37;obtain⟨k,hk⟩:∃k,Ao N=k:=⟨_,rfl⟩
 have HK:Hid (Ak N=(k+7)/8):=by rw[<-hk];rfl
 go_enter Tryz.func152,Tryz.ntmps152
 go_wp2_with fail
 refine(Fj _ p n c N (h.below hbx.bel) hn).mono ?_;rintro e w1 ⟨rfl,hb1⟩;rw[hk]at hN
 simp only[hk];clear hk;go_wp2;go_ret;refine⟨?_,(hbx.later hb1).bel⟩;rw[HK.out];exact congrArg (fun z=>Ending.returned (.int .i64 z)) (by omega)
def Ou (N:Nat)(size:Int)(w:World)(e:Ending)(w':World):Prop :=
 ∃q n d k,e=.returned (.tuple #[.slice q n d,.int .i64 k])/\Row w' .u8 q n d (if size<0 then [] else if size<Ak N then [] else Az N size.toNat) /\
  (k=if size<0 then 1 else if size<Ak N then 2 else 0)/\Below w.heap.size w w'/\Gd w.heap.size q
theorem Qp (w:World)(p:Option Addr)(n c N s:Nat)(h:Aj w p n c N)(hn:n<1000000)(hN:Ao N<=1000000000)(hs:(s:Int)<=1000000)(h2:¬(s:Int)<Ak N) :
  Calls Tryz.prog 122 #[.agg #[.slice p n c],.int .i64 s] w fun e w'=>∃g,e=.returned (.tuple #[.slice (some ⟨g,0,none⟩) s s,.int .i64 0])/\Bm w' g 5 .u8 (Az N s)/\Below w.heap.size w w'/\w.heap.size<=g:=by
 have hbx:=Ef.mk1 w (.slice p n c) 37;have h1:¬(s:Int)<0:=by omega
 obtain⟨m,hm⟩:∃m,Ak N=m:=⟨_,rfl⟩
 have HM:Hid (∀k,m<=k ↔ N<B8 k):=fun k=>by rw[<-hm];exact Jf
 rw[hm]at h2
 obtain⟨ws,r1,r2,r3,r4⟩:=h.ex;have hmk:=Sc s (by omega);have hms:m<=s:=by omega
 have HR4:=Ag r4;go_enter Tryz.func122,Tryz.ntmps122
 go_wp2_with fail
 refine(Kz _ p n c N (h.below hbx.bel) hn hN).mono ?_;rintro e w1 ⟨rfl,hb1⟩;simp only[hm];clear hm r4;have hbx1:=hbx.later hb1;have hz1:w.heap.size<w1.heap.size:=hbx1.size;go_wp2
 go_loopw [24] (fun i wr=>∃k:Nat,k<=m/\i=.int .i64 k/\Ef w wr (.slice p n c)/\w1.heap.size<wr.heap.size/\Below w1.heap.size w1 wr/\Bm wr w1.heap.size 5 .u8 ((Fa N k++List.replicate (s-k) 0).reverse)) (fun i _=>m-(intOf i).toNat)
 case atStart=>
  refine⟨0,by omega,rfl,hbx1.alloc _,by simp,(Bb _ _).alloc (As _) _,?_⟩;have:=Bm.zeros w1 5 .u8 s;simpa [Fa]using this
 case round=>
  obtain⟨k,hk,rfl,hbr,hsz,hbw,hblk⟩:=hrel;have c0:=hbr.c0
  by_cases hkm:k<m
  .have hkn:k/4<n:=by
    rcases Nat.lt_or_ge (k/4) n with h3|h3
    .exact h3
    .exfalso;have h4:=r2.lt;rw[<-r1.len]at h4
     have h5:N<B8 k:=by
      have:Ar n<=B8 k:=by rw[<-Nt];exact Hw (by omega)
      have:=HR4.out;omega
     have h6:=(HM.out k).2 h5;omega
   obtain⟨b,off,rfl,hb,hc⟩:=r1.pos (by omega);obtain⟨x,hx⟩:∃x,ws.getD (k/4) 0=x:=⟨_,rfl⟩
   have hci:wr.cell? ⟨b,off+k/4,none⟩=some (.int .u32 (x:Nat)):=by
    rw[(Ca hbr.bel).1 _ _ hb];exact hc _ x (by rw[<-hx,Du];simp[show k/4<ws.length by have:=r1.len;omega])
   have hx1:x<4294967296:=by rw[<-hx];exact r2.get _
   have hlen:(Fa N k++List.replicate (s-k) 0).length=s:=by rw[List.length_append,Db,List.length_replicate];omega
   have hcl:wr.cell? ⟨w1.heap.size,s-1-k,none⟩=some (.int .u8 (((Fa N k++List.replicate (s-k) 0).reverse.getD (s-1-k) 0:Nat))):=hblk.cell (by
    rw[Du];have:s-1-k<(Fa N k++List.replicate (s-k) 0).reverse.length:=by rw[List.length_reverse,hlen];omega
    simp only[List.getElem?_eq_getElem this,Option.getD_some])
   have hfr:=hblk.free (s-1-k);have hbyte:x/2^(k%4*8)%256=N/B8 k%256:=by
    have hd:=digit ws r2 (k/4);rw[HR4.out,hx]at hd
    rw[<-hd,Nat.mul_comm (k%4) 8,<-Ih,Yc (Nat.mod_lt _ (by omega))]
    congr 3;omega
   have hset:Hid (Bm (wr.setCell ⟨w1.heap.size,s-1-k,none⟩ (.int .u8 ((N/B8 k%256:Nat)))) w1.heap.size 5 .u8 ((Fa N (k+1)++List.replicate (s-(k+1)) 0).reverse)):=by
    have h5:=hblk.set (s-1-k) (N/B8 k%256);have h6:=Re (Fa N k++List.replicate (s-k) 0) k (N/B8 k%256) (by rw[hlen];omega);rw[hlen]at h6
    rw[h6]at h5
    have h7:s-k=(s-(k+1))+1:=by omega
    have h8:(Fa N k++List.replicate (s-k) 0).set k (N/B8 k%256)=Fa N (k+1)++List.replicate (s-(k+1)) 0:=by
     rw[h7,Qi];have:=Nf (Fa N k) (s-(k+1)) (N/B8 k%256);rw[Db]at this
     exact this
    rw[h8]at h5
    exact h5
   have HX:=Ag hx;have HB:=Ag hbyte;have hk3:k%4<4:=Nat.mod_lt _ (by omega);clear hc hx hbyte hlen;go_wp2;go_roundw
   case rel=>
    have e:((x:Int)/2^(k%4*8)%256)=((N/B8 k%256:Nat):Int):=by
     rw[<-HB.out];simp
    rw[e];exact⟨k+1,by omega,by go_num,hbr.below (B:=w.heap.size+1) ((Bb _ _).setCell (by simp;omega) _) (As _),by simpa using hsz,hbw.setCell (by simp) _,hset.out⟩
   case measure=>simp[intOf];omega
  .have hkm':m<=k:=by omega
   rw[kV ((HM.out k).1 hkm') (by omega)]at hblk
   have HRow:Hid (Bm wr w1.heap.size 5 .u8 (Az N s)):=hblk;have hbel:=hbr.bel;go_wp2
   go_ret2
   exact⟨_,rfl,HRow.out,hbel,Nat.le_of_lt hz1⟩
theorem aX (w:World)(p:Option Addr)(n c N:Nat)(size:Int)(h:Aj w p n c N)(hn:n<1000000)(hN:Ao N<=1000000000)(hs:size<=1000000)(hs0:-9223372036854775808<=size) :
  Calls Tryz.prog 122 #[.agg #[.slice p n c],.int .i64 size] w (Ou N size w):=by
 have hbx:=Ef.mk1 w (.slice p n c) 37
 by_cases h1:size<0
 .have HG:Hid (∀w',Below w.heap.size w w'->Ou N size w (.returned (.tuple #[.slice none 0 0,.int .i64 1])) w'):=fun w' hb=>⟨none,0,0,1,rfl,by rw[if_pos h1];exact Row.nil _ _,by rw[if_pos h1],hb,Gd.none _⟩
  go_enter Tryz.func122,Tryz.ntmps122
  go_wp2_with fail
  refine(Kz _ p n c N (h.below hbx.bel) hn hN).mono ?_;rintro e w1 ⟨rfl,hb1⟩;go_wp2
  go_ret2
  exact HG.out _ (hbx.later hb1).bel
 .by_cases h2:size<Ak N
  .have HG:Hid (∀w',Below w.heap.size w w'->Ou N size w (.returned (.tuple #[.slice none 0 0,.int .i64 2])) w'):=fun w' hb=>⟨none,0,0,2,rfl,by rw[if_neg h1,if_pos h2];exact Row.nil _ _,by rw[if_neg h1,if_pos h2],hb,Gd.none _⟩
   go_enter Tryz.func122,Tryz.ntmps122
   go_wp2_with fail
   refine(Kz _ p n c N (h.below hbx.bel) hn hN).mono ?_;rintro e w1 ⟨rfl,hb1⟩;go_wp2
   go_ret2
   exact HG.out _ (hbx.later hb1).bel
  .obtain⟨s,rfl⟩:=Int.eq_ofNat_of_zero_le (show 0<=size by omega);refine(Qp w p n c N s h hn hN hs h2).mono ?_;rintro e w' ⟨g,rfl,hb,hbel,hg⟩;have hl:(Az N s).length=s:=by rw[Az,List.length_reverse,Db]
   exact⟨some ⟨g,0,none⟩,s,s,0,rfl,by rw[if_neg h1,if_neg h2];exact hb.row hl.symm (As _) (by omega),by rw[if_neg h1,if_neg h2],hbel,fun q hq=>by cases hq;exact hg⟩
def be (bs:List Nat):Nat:=le bs.reverse
theorem aC {bs:List Nat}{k:Nat}(h:k<bs.length):bs.reverse.getD k 0=bs.getD (bs.length-1-k) 0:=by
 rw[Du,Du,List.getElem?_reverse h]
theorem pS {x r:Nat}(hx:x<256)(hr:r<4) :
  IntKind.u32.wrap ((x:Int)*2^(min (((r:Int)*8).toNat) 32))=((x*B8 r:Nat):Int)/\x*B8 r<4294967296:=by
 have e1:((r:Int)*8).toNat=8*r:=by omega
 have e2:min (8*r) 32=8*r:=by omega
 have e3:(2:Int)^(8*r)=((B8 r:Nat):Int):=by rw[Ih];simp
 have h4:x*B8 r<4294967296:=by
  have h1:B8 (r+1)<=B8 4:=Hw (by omega);rw[Hv]at h1
  have h2:x*B8 r<256*B8 r:=(Nat.mul_lt_mul_right (eC r)).2 hx;have h3:B8 4=4294967296:=rfl;omega
 rw[e1,e2,e3,<-Int.natCast_mul];exact⟨IntWalk.u32_in _ (by omega),h4⟩
theorem qO {W x r:Nat}(hW:W<B8 r)(h4:x*B8 r<4294967296)(hr:r<4):bits BinOp.or IntKind.u32 (W:Int) ((x*B8 r:Nat):Int)=((W+x*B8 r:Nat):Int):=by
 have hW4:W<4294967296:=by
  have h1:B8 r<=B8 4:=Hw (by omega);have h3:B8 4=4294967296:=rfl;omega
 rw[u32_or_nat _ _ hW4 h4,Nat.or_comm];rw[nat_join (8*r) (x*B8 r) W (by rw[<-Ih];exact Nat.mul_mod_left _ _) (by rw[<-Ih];exact hW),Nat.add_comm]
theorem Cr (w:World)(p:Option Addr)(n c:Nat)(bs:List Nat)(h:Bd w .u8 p n c bs)(hb8:Au bs)(hn:n<=128) :
  Calls Tryz.prog 123 #[.slice p n c] w fun e w'=>∃q m d,e=.returned (.tuple #[.agg #[.slice q m d],.int .i64 0])/\Aj w' q m d (be bs)/\Below w.heap.size w w'/\Gd w.heap.size q:=by
 have HL:=Ag h.len;obtain⟨m,hm1,hm2⟩:∃m:Nat,n<=4*m/\4*m<=n+3:=⟨(n+3)/4,by omega,by omega⟩
 have hmk:=Qh (i:=((n:Int)+4-1)/4) m (by omega) (by omega);go_enter Tryz.func123,Tryz.ntmps123;go_wp2
 go_loopw [18] (fun i wr=>∃k:Nat,k<=n/\i=.int .i64 k/\Ef w wr (.slice none 0 0)/\w.heap.size+1<wr.heap.size/\Bm wr (w.heap.size+1) 129 .u32 (wordsOf (le (bs.reverse.take k)) m)) (fun i _=>n-(intOf i).toNat)
 case atStart=>
  refine⟨0,by omega,rfl,(Ef.mk1 _ _ _).alloc _,by simp,?_⟩;have:=Bm.zeros (w.alloc (.cells #[.slice none 0 0] 37)) 129 .u32 m;rw[List.take_zero,le,Il];simpa using this
 case round=>
  obtain⟨k,hk,rfl,hbx,hsz,hblk⟩:=hrel
  by_cases hkn:k<n
  .obtain⟨b,off,rfl,hb,hc⟩:=(h.row (by omega)).pos (by omega);obtain⟨j,hj⟩:∃j,n-1-k=j:=⟨_,rfl⟩
   obtain⟨x,hx⟩:∃x,bs.getD j 0=x:=⟨_,rfl⟩
   have hci:∀w',Ef w w' (.slice none 0 0)->w'.cell? ⟨b,off+j,none⟩=some (.int .u8 (x:Nat)):=fun w' hb'=>by
    rw[(Ca hb'.bel).1 _ _ hb];exact hc j x (by rw[<-hx,Du];simp[show j<bs.length by have:=HL.out;omega])
   have hx8:x<256:=by rw[<-hx];exact hb8.get j
   have HJ:=Ag hj;have HX:=Ag hx;clear hc hj hx;go_wp2;obtain⟨V,hV⟩:∃V,le (bs.reverse.take k)=V:=⟨_,rfl⟩
   obtain⟨q,hq⟩:∃q,k/4=q:=⟨_,rfl⟩
   obtain⟨r,hr⟩:∃r,k%4=r:=⟨_,rfl⟩
   obtain⟨d,hd⟩:∃d,V/Ar q%4294967296=d:=⟨_,rfl⟩
   rw[hV]at hblk
   have hVlt:V<B8 k:=by
    have:=(hb8.reverse.take k).lt;rw[hV]at this
    have hl:(bs.reverse.take k).length=k:=by simp;have:=HL.out;omega
    rwa [hl]at this
   have hor:=bN (n:=m) hVlt hx8;rw[hq,hr,hd]at hor
   obtain⟨ho1,ho2,ho3⟩:=hor;have hr4:r<4:=by omega
   obtain⟨hs1,hs2⟩:=pS hx8 hr4;have hs3:=qO ho2 hs2 hr4;have t1:IntKind.i64.wrap ((k:Int)/4)=(q:Int):=by rw[IntWalk.i64_in _ (by omega)];omega
   have t2:(k:Int).tmod 4=(r:Int):=by rw[Int.tmod_eq_emod_of_nonneg (by omega)];omega
   have ty:IntKind.u32.wrap (x:Int)=x:=IntWalk.u32_in _ (by omega);have hs1':IntKind.u32.wrap ((x:Int)*2^(((r:Int)*8).toNat))=(x:Int)*(B8 r:Nat):=by
    have e:min (((r:Int)*8).toNat) 32=((r:Int)*8).toNat:=by omega
    rw[e]at hs1;rw[hs1,Int.natCast_mul]
   have hs3':bits BinOp.or IntKind.u32 (d:Int) ((x:Int)*(B8 r:Nat))=(d:Int)+(x:Int)*(B8 r:Nat):=by
    rw[<-Int.natCast_mul,hs3,Int.natCast_add]
   have t3:IntKind.i64.wrap ((r:Int)*8)=(r:Int)*8:=IntWalk.i64_in _ (by omega);have t4:IntKind.i64.wrap ((n:Int)-1)=(n:Int)-1:=IntWalk.i64_in _ (by omega);have t5:IntKind.i64.wrap ((n:Int)-1-k)=(j:Nat):=by
    rw[IntWalk.i64_in _ (by omega)];have:=HJ.out;omega
   have t6:(j:Int)<n:=by have:=HJ.out;omega
   have t7:(q:Int)<m:=by omega
   have t9:q<m:=by omega
   refine Ah (by kernel_rfl) (by kernel_rfl)
    [some (.slice (some ⟨w.heap.size+1,0,none⟩) m m),some (.int .i64 k),some (.int .i64 (q:Nat)),some (.pointer (some ⟨w.heap.size+1,q,none⟩)),some (.int .u32 (d:Nat)),some (.slice (some ⟨b,off,none⟩) n c),some (.slice (some ⟨b,off,none⟩) n c),
     some (.int .i64 n),some (.int .i64 ((n:Int)-1)),some (.int .i64 k),some (.int .i64 (j:Nat)),some (.pointer (some ⟨b,off+j,none⟩)),some (.int .u8 (x:Nat)),some (.int .u32 (x:Nat)),some (.int .i64 k),some (.int .i64 (r:Nat)),some (.int .i64 ((r:Int)*8)),
     some (.int .u32 (x*B8 r:Nat)),some (.int .u32 (d+x*B8 r:Nat)),some (.pointer (some ⟨w.heap.size+1,q,none⟩)),none]
    [false,false,false,false,false,false,false,false,false,false,false,false,false,false,false,false,false,false,false,false,true] rfl
    (fun _ _=>True)
    (fun D w'=>Ef w w' (.slice none 0 0)/\w.heap.size+1<w'.heap.size/\Bm w' (w.heap.size+1) 129 .u32 (if D 20 then wordsOf (V+B8 k*x) m else wordsOf V m))
    (fun _ _ _=>True)
    (fun _ _ _ _ h _=>h) ⟨hbx.below (Bb _ _).drew (As _),hsz,hblk⟩ ?_ ?_
   .simp only[Ba,Nat.reduceAdd];refine⟨?_,?_,?_,?_,?_,?_,?_,?_,?_,?_,?_,?_,?_,?_,?_,?_,?_,?_,?_,?_,?_,trivial⟩
    case refine_5=>
     intro D sp w' hD hW hdp ⟨hbx',hsz',hblk'⟩;have h20:D 20=false:=hW 20 (mq (by kernel_rfl));rw[h20]at hblk'
     simp only[Bool.false_eq_true,if_false]at hblk';have hcl:w'.cell? ⟨w.heap.size+1,q,none⟩=some (.int .u32 (d:Nat)):=hblk'.cell (by rw[Eh t9,hd]);simp[asked,Region.wanted,Oper.gives,execOp,Act.eval,Act.put,go_sem,hcl]
    case refine_21=>
     intro D sp w' hD hW hdp ⟨hbx',hsz',hblk'⟩;rw[hD]at hblk'
     simp only[Bool.false_eq_true,if_false]at hblk';have hcl:w'.cell? ⟨w.heap.size+1,q,none⟩=some (.int .u32 (d:Nat)):=hblk'.cell (by rw[Eh t9,hd]);have hfr:=hblk'.free q
     (with_reducible refine Aq (w1:=w'.setCell ⟨w.heap.size+1,q,none⟩ (.int .u32 (d+x*B8 r:Nat))) ?_ ?_ ?_)
     .simp only[Region.wanted]
     .simp[execOp,Act.eval,Act.put,go_sem,hcl,hfr]
     .refine⟨trivial,trivial,hbx'.below (B:=w.heap.size+1) ((Bb _ _).setCell (by simp) _) (As _),by simpa using hsz',?_⟩;simp only[decide_true,Bool.or_true,if_true];rw[<-ho1];exact hblk'.set _ _
    all_goals
     intro D sp w' hD hW hdp ⟨hbx',hsz',hblk'⟩;have c1:=hci w' hbx';simp[asked,Region.wanted,Oper.gives,execOp,Act.eval,Act.put,go_sem,c1,t1,t2,t3,t4,t5,t6,t7,ty,hs1',hs3']
   .intro sp w' hsp ⟨hbx',hsz',hblk'⟩;have hblk2:Bm w' (w.heap.size+1) 129 .u32 (wordsOf (V+B8 k*x) m):=hblk';clear hblk' hsp;have HV:Hid (le (bs.reverse.take (k+1))=V+B8 k*x):=by
     have e:=Xr bs.reverse k (by simp;have:=HL.out;omega);rw[hV,aC (by have:=HL.out;omega),<-HL.out,HJ.out,HX.out]at e
     exact e
    clear hV hq hr hd t1 t2 t3 t4 t5 hs1 hs1' hs3 hs3' ty ho1;simp only[An,Nat.reduceAdd]
    go_simp
    go_wp2;go_roundw
    case rel=>exact⟨k+1,by omega,by go_num,hbx',hsz',by rw[HV.out];exact hblk2⟩
    case measure=>simp[intOf];omega
  .have hkn':n<=k:=by omega
   have hkl:k=bs.length:=by have:=HL.out;omega
   have hrow:=hblk.row (n:=m) (c:=m) (by rw[Av]) (As _) (by omega);have hv:val (wordsOf (le (bs.reverse.take k)) m)=be bs:=by
    rw[List.take_of_length_le (by simp;omega)];refine Cz (Ej hb8.reverse.lt ?_);rw[<-Nt];exact Hw (by simp;omega)
   have HV:=Ag hv;clear hv hkl
   go_wp2_with fail
   refine(Cw _ _ _ _ _ hrow (Dm _ _)).mono ?_;rintro e w2 ⟨q,l,d,rfl,hn2,hb2,hp⟩;have hbx2:=hbx.later hb2;have c0:=hbx2.c0;have f0:=hbx2.f0;have hn':Gd (w.heap.size+1) q:=by
    intro a ha;rcases hp with rfl|rfl
    .cases ha
    .cases ha;simp
   go_wp2;refine bodyPost_ret (v:=.tuple #[.agg #[.slice q l d],.int .i64 0]) (by simp[results,Tryz.results123,go_sem,c0]) rfl ⟨q,l,d,rfl,?_,?_,hn'.mono (by omega)⟩
   .have:=hn2.setCell (a:=⟨w.heap.size,0,none⟩) (hn'.ne (show w.heap.size<w.heap.size+1 by omega)) (.slice q l d);rw[HV.out]at this
    exact this
   .exact hbx2.bel.setCell (As _) _
def Fo (bs:List Nat)(B:Nat)(v:Value)(w:World):Prop:=∃q n d,v=.slice q n d/\Row w .u8 q n d bs/\Gd B q
theorem Fo.below {bs:List Nat}{B:Nat}{v:Value}{w w':World}(h:Fo bs B v w)(hb:Below w.heap.size w w'):Fo bs B v w' :=
 let ⟨q,n,d,h1,h2,h3⟩:=h
 ⟨q,n,d,h1,h2.below hb,h3⟩
theorem Zs (w:World)(p:Option Addr)(n c N:Nat)(h:Aj w p n c N)(hn:n<1000000)(hN:Ao N<=1000000) :
  Calls Tryz.prog 91 #[.agg #[.slice p n c]] w fun e w'=>∃v,e=.returned v/\Fo (Az N (Ak N)) w.heap.size v w'/\Below w.heap.size w w':=by
 have hbx:=Ef.mk1 w (.slice p n c) 37;have hbs:Ak N<=1000000:=by unfold Ak;omega
 go_enter Tryz.func91,Tryz.ntmps91;go_wp2;refine Ah (by kernel_rfl) (by kernel_rfl)
  [some (.agg #[.slice p n c]),some (.agg #[.slice p n c]),none,none,none,none,none,none,none]
  [false,false,true,true,true,true,true,true,true] rfl
  (fun w1 w2=>Below w1.heap.size w1 w2)
  (fun _ w'=>Ef w w' (.slice p n c))
  (fun i v w'=>match i with
   | 2=>v=.int .i64 (Ak N:Nat)
   | 3|4=>∃u,v=.tuple #[u,.int .i64 0]/\Fo (Az N (Ak N)) w.heap.size u w'
   | 5|7=>Fo (Az N (Ak N)) w.heap.size v w'
   | _=>v=.int .i64 0)
  ?_ (hbx.below (Bb _ _).drew (As _)) ?_ ?_
 .intro i v w1 w2 hf hb;split at hf
  .exact hf
  .exact hf.imp fun u h=>⟨h.1,h.2.below hb⟩
  .exact hf.imp fun u h=>⟨h.1,h.2.below hb⟩
  .exact hf.below hb
  .exact hf.below hb
  .exact hf
 .simp only[Ba,Nat.reduceAdd];refine⟨?_,?_,?_,?_,?_,?_,?_,?_,?_,trivial⟩
  case refine_3=>
   intro D sp w' hD hW hdp hbx'
   (with_reducible refine Ac (w1:=w') (f := 152) (args:=#[.agg #[.slice p n c]]) ?_ ?_ ?_)
   .simp only[Region.wanted]
   .simp[Act.eval,Act.put,go_sem]
   .refine(Kz w' p n c N (h.below hbx'.bel) hn (by omega)).mono ?_;rintro e w2 ⟨rfl,hb⟩;exact⟨_,rfl,hb,rfl,hbx'.later hb⟩
  case refine_4=>
   intro D sp w' hD hW hdp hbx';have h2:sp 2=.int .i64 (Ak N:Nat):=(hdp 2 (mq (by kernel_rfl))).2
   (with_reducible refine Ac (w1:=w') (f := 122) (args:=#[.agg #[.slice p n c],.int .i64 (Ak N:Nat)]) ?_ ?_ ?_)
   .simp only[Region.wanted]
   .simp[Act.eval,Act.put,go_sem,h2]
   .refine(aX w' p n c N (Ak N:Nat) (h.below hbx'.bel) hn (by omega) (by omega) (by omega)).mono ?_;rintro e w2 ⟨q,m,d,k,rfl,hrow,hk,hb,hq⟩;have e1:¬((Ak N:Nat):Int)<0:=by omega
    have e2:¬((Ak N:Nat):Int)<Ak N:=by omega
    rw[if_neg e1,if_neg e2]at hrow hk
    rw[hk];exact⟨_,rfl,hb,⟨_,rfl,q,m,d,rfl,hrow,hq.mono hbx'.bel.size⟩,hbx'.later hb⟩
  case refine_5=>
   intro D sp w' hD hW hdp hbx';have hx:∃u,sp 3=.tuple #[u,.int .i64 0]/\Fo (Az N (Ak N)) w.heap.size u w':=(hdp 3 (mq (by kernel_rfl))).2
   (with_reducible refine Ay hx fun u hu=>?_)
   have h1:=hu.1;have h2:=hu.2
   (with_reducible refine Ai (w1:=w') (v:=.tuple #[u,.int .i64 0]) ?_ ?_ ?_)
   .simp only[Region.wanted]
   .simp[execOp,Act.eval,Act.put,go_sem,h1]
   .exact⟨Bb _ _,⟨u,rfl,h2⟩,hbx'⟩
  case refine_6=>
   intro D sp w' hD hW hdp hbx';have hx:∃u,sp 4=.tuple #[u,.int .i64 0]/\Fo (Az N (Ak N)) w.heap.size u w':=(hdp 4 (mq (by kernel_rfl))).2
   (with_reducible refine Ay hx fun u hu=>?_)
   have h1:=hu.1;have h2:=hu.2
   (with_reducible refine Ai (w1:=w') (v:=u) ?_ ?_ ?_)
   .simp only[Region.wanted]
   .simp[execOp,Act.eval,Act.put,go_sem,h1]
   .exact⟨Bb _ _,h2,hbx'⟩
  case refine_7=>
   intro D sp w' hD hW hdp hbx';have hx:∃u,sp 4=.tuple #[u,.int .i64 0]/\Fo (Az N (Ak N)) w.heap.size u w':=(hdp 4 (mq (by kernel_rfl))).2
   (with_reducible refine Ay hx fun u hu=>?_)
   have h1:=hu.1;have h2:=hu.2
   (with_reducible refine Ai (w1:=w') (v:=.int .i64 0) ?_ ?_ ?_)
   .simp only[Region.wanted]
   .simp[execOp,Act.eval,Act.put,go_sem,h1]
   .exact⟨Bb _ _,rfl,hbx'⟩
  case refine_8=>
   intro D sp w' hD hW hdp hbx';have h2:Fo (Az N (Ak N)) w.heap.size (sp 5) w':=(hdp 5 (mq (by kernel_rfl))).2
   (with_reducible refine Ai (w1:=w') (v:=sp 5) ?_ ?_ ?_)
   .simp only[Region.wanted]
   .simp[execOp,Act.eval,Act.put,go_sem]
   .exact⟨Bb _ _,h2,hbx'⟩
  case refine_9=>
   intro D sp w' hD hW hdp hbx';have h2:sp 6=.int .i64 0:=(hdp 6 (mq (by kernel_rfl))).2
   (with_reducible refine Ai (w1:=w') (v:=.int .i64 0) ?_ ?_ ?_)
   .simp only[Region.wanted]
   .simp[execOp,Act.eval,Act.put,go_sem,h2]
   .exact⟨Bb _ _,rfl,hbx'⟩
  all_goals
   intro D sp w' hD hW hdp hbx';have c0:=hbx'.c0;simp[asked,Region.wanted,Oper.gives,execOp,Act.eval,Act.put,go_sem,c0]
 .intro sp w' hsp hbx';have h7:Fo (Az N (Ak N)) w.heap.size (sp 7) w':=hsp 7 rfl;clear hsp;simp only[An,Nat.reduceAdd];generalize sp 7=u at *
  go_simp
  go_wp2;go_ret;exact⟨_,rfl,h7,hbx'.bel⟩
theorem gT (V n:Nat):Fa V (n+1)=(V%256)::Fa (V/256) n:=by
 simp[Fa,List.range_succ_eq_map,Function.comp_def,Hv,Ju,Nat.div_div_eq_div_mul]
theorem eL:∀(xs:List Nat),Au xs->Fa (le xs) xs.length=xs
 | [],_=>by simp[Fa]
 | x::xs,h=>by
  have hx:x<256:=h x (by simp);have e:=eL xs (fun y hy=>h y (by simp[hy]));rw[List.length_cons,gT];simp only[le];rw[show (x+256*le xs)%256=x by omega,show (x+256*le xs)/256=le xs by omega,e]
theorem kU:∀(xs:List Nat) (q d:Nat),q<xs.length->le (xs.set q (xs.getD q 0+d))=le xs+B8 q*d
 | x::xs,0,d,_=>by simp[le,Ju];omega
 | x::xs,q+1,d,h=>by
  have e:=kU xs q d (by simpa using h);simp only[List.set_cons_succ,le,List.getD_cons_succ,Hv];rw[e,Nat.mul_add,Nat.mul_assoc];omega
theorem Zt {V n j:Nat}(h:j<n):(Fa V n)[j]? = some (V/B8 j%256):=by simp[Fa,h]
theorem gS {V n j:Nat}(h:j<n):(Fa V n).getD j 0=V/B8 j%256:=by rw[Du,Zt h];rfl
theorem Zu {M k n:Nat}(hM:M<2^k)(hk:k/8<n) :
  M/B8 (k/8)%256<2^(k%8)/\(Fa M n).set (k/8) (M/B8 (k/8)%256+2^(k%8))=Fa (M+2^k) n:=by
 have e2:2^k=B8 (k/8)*2^(k%8):=by
  rw[Ih,<-Nat.pow_add,Nat.div_add_mod]
 have hlt:M/B8 (k/8)<2^(k%8):=by
  rw[Nat.div_lt_iff_lt_mul (eC _),Nat.mul_comm,<-e2];exact hM
 have hp:2^(k%8)<=2^7:=Nat.pow_le_pow_right (by omega) (by omega);have hmod:M/B8 (k/8)%256<2^(k%8):=Nat.lt_of_le_of_lt (Nat.mod_le _ _) hlt;refine⟨hmod,?_⟩;have hset:=kU (Fa M n) (k/8) (2^(k%8)) (by rw[Db];exact hk);rw[gS hk,<-e2]at hset
 have hM8:M<B8 n:=by
  rw[Ih];exact Ej hM (Nat.pow_le_pow_right (by omega) (by omega))
 rw[Sd,Nat.mod_eq_of_lt hM8]at hset
 have hb:Au ((Fa M n).set (k/8) (M/B8 (k/8)%256+2^(k%8))):=by
  intro y hy;rcases List.mem_or_eq_of_mem_set hy with h|rfl
  .exact Gf M n y h
  .omega
 have:=eL _ hb;rw[hset,List.length_set,Db]at this
 exact this.symm
theorem mM {M k n j:Nat}(hM:M<2^k)(hk:k/8<n)(hj:j=n-1-k/8) :
  (Az M n).set j (M/B8 (k/8)%256+2^(k%8))=Az (M+2^k) n:=by
 subst hj;have:=Re (Fa M n) (k/8) (M/B8 (k/8)%256+2^(k%8)) (by rw[Db];exact hk);rw[Db]at this
 unfold Az;rw[this,(Zu hM hk).2]
theorem mL {M n j q:Nat}(hq:q<n)(hj:j=n-1-q):(Az M n)[j]? = some (M/B8 q%256):=by
 subst hj;unfold Az;rw[List.getElem?_reverse (by rw[Db];omega),Db,show n-1-(n-1-q)=q by omega,Zt hq]
theorem iR (n:Nat):Az 0 n=List.replicate n 0:=by
 unfold Az Fa;apply List.ext_getElem (by simp);intro i h1 h2;simp
theorem Bq (M n:Nat):(Az M n).length=n:=by simp[Az,Db]
theorem qK {bs:List Nat}(h:Au bs){j k m:Nat}(hm:j+m+1=bs.length)(hk:k<8):bit (be bs) (8*j+k)=decide (bs.getD m 0/2^k%2=1):=by
 refine mJ ?_ hk;unfold be;rw[pY _ h.reverse,aC (by omega)]
 congr 1;omega
theorem Mc (w:World)(p:Option Addr)(n c:Nat)(bs:List Nat)(h:Bd w .u8 p n c bs)(hb8:Au bs)(hn:n<=1000) :
  Calls Tryz.prog 72 #[.slice p n c] w (Iv (be bs) w):=by
 obtain⟨i0,hi,hz0,hz1,hz2⟩:=info_parts Tryz.info_bool;have HL:=Ag h.len;have hown:=World.ownsRow_made w (base:=w.heap.size) (e := 4) (size:=1) #[] 0 (As _) (by simp[maxLen]) (by simp);obtain⟨N,hN⟩:∃N,be bs=N:=⟨_,rfl⟩
 have HN:=Ag hN;clear hN;go_enter Tryz.func72,Tryz.ntmps72;go_wp2
 go_loopw [3,4,5] (fun v i _ wr=>∃j m:Nat,j+m<=n/\n<=j+m/\i=.int .i64 ((m:Int)-1)/\wr.ownsRow w.heap.size 4 1 v (8*j) ((Ci N (8*j)).map Value.bool)/\Below w.heap.size w wr) (fun _ i _ _=>(intOf i+1).toNat)
 case atStart=>
  refine⟨0,n,by omega,by omega,rfl,?_,(Bb _ _).alloc (As _) _⟩;simpa [Ci]using hown
 case round=>
  obtain⟨j,m,hj1,hj2,rfl,ho,hbw⟩:=hrel
  cases m with
  | zero=>
   have hjn:j=n:=by omega
   have HJ:=Ag hjn;clear hjn;obtain⟨q,d,rfl,hrow,hnew⟩:=Gi.of_owns ho;have hlt:N<2^(8*j):=by
    have:=hb8.reverse.lt;rw[<-HN.out];unfold be;rw[Ih]at this
    rw[HJ.out,HL.out];simpa using this
   have HLT:=Ag hlt;clear hlt
   go_wp2_with fail
   refine(Gk wr q (8*j) d N hrow HLT.out).mono ?_;rintro e w1 ⟨m,rfl,hm,rfl⟩;go_wp2;go_ret;rw[HN.out];exact⟨q,m,d,rfl,hm,hbw,hnew⟩
  | succ m=>
   obtain⟨b,off,rfl,hb,hc⟩:=(h.row (by omega)).pos (by omega);obtain⟨x,hx⟩:∃x,bs.getD m 0=x:=⟨_,rfl⟩
   have hci:w.cell? ⟨b,off+m,none⟩=some (.int .u8 (x:Nat)):=hc m x (by rw[<-hx,Du];simp[show m<bs.length by have:=HL.out;omega]);have hx8:x<256:=by rw[<-hx];exact hb8.get m
   have HX:=Ag hx;clear hc hx;have e1:(((m+1:Nat):Int)-1)=(m:Int):=by omega
   simp only[e1];clear e1;obtain⟨wo,rfl⟩:∃wo:World,wo=wr:=⟨_,rfl⟩
   go_wp2
   go_loopw [3,5] (fun v k wr=>∃q:Nat,q<=8/\k=.int .i64 q/\wr.ownsRow w.heap.size 4 1 v (8*j+q) ((Ci N (8*j+q)).map Value.bool)/\Below w.heap.size w wr) (fun _ k _=>8-(intOf k).toNat)
   case atStart=>exact⟨0,by omega,rfl,ho,hbw⟩
   case round=>
    obtain⟨q,hq,rfl,ho2,hbw2⟩:=hrel
    by_cases hq8:q<8
    .have hq8':q<8:=hq8;have hbt:bit N (8*j+q)=(((x:Int)/2^q).tmod 2==1):=by
      rw[<-HN.out,qK hb8 (m:=m) (by have:=HL.out;omega) hq8',HX.out,Bool.eq_iff_iff];have e:((x:Int)/2^q)=((x/2^q:Nat):Int):=by simp[Int.natCast_ediv]
      rw[e,Int.tmod_eq_emod_of_nonneg (Int.natCast_nonneg _)];simp only[decide_eq_true_eq,beq_iff_eq];omega
     have HB:=Ag hbt;clear hbt hq8';have hci2:wr.cell? ⟨b,off+m,none⟩=some (.int .u8 (x:Nat)):=by rw[(Ca hbw2).1 _ _ hb];exact hci
     go_wp2_with (at_builtin;refine wpList_append_own _ rfl _ _ 28 rfl w.heap.size 4 i0 (.bool false) 1 1 Tryz.underlying28 hi hz0 hz1 hz2 rfl (by decide) _ _ _ rfl (ho2.alloc _) ⟨wr.heap.size,0,none⟩ 1 1 [.bool (((x:Int)/2^q).tmod 2==1)] rfl rfl ?c1 ?c2 ?c3 ?c4 ?c5 ?_)
     case c1=>
      intro jj u hj
      match jj,hj with
      | 0,hj=>simp at hj;subst hj;simp[Addr.add]
     case c2=>intro u hu;simp at hu;subst hu;rfl
     case c3=>unfold maxLen;omega
     case c4=>omega
     case c5=>have:=hbw2.size;simp;omega
     intro v' w1 ho' hg _;have hbw1:Below w.heap.size w w1:=(hbw2.alloc hbw2.size _).grown hg (by have:=hbw2.size;simp;omega) (fun j hj=>(ho2.lt j hj).1);have ho1:w1.ownsRow w.heap.size 4 1 v' (8*j+(q+1)) ((Ci N (8*j+(q+1))).map Value.bool):=by
      rw[<-Nat.add_assoc,Fk,List.map_append,HB.out];exact ho'
     clear ho' hg ho2;go_wp2;go_roundw
     case rel=>exact⟨q+1,by omega,by go_num,ho1,hbw1⟩
     case measure=>simp[intOf];omega
    .have hq9:q=8:=by omega
     subst hq9;go_wp2;go_roundw
     case rel=>exact⟨j+1,m,by omega,by omega,rfl,ho2,hbw2⟩
     case measure=>simp[intOf]
end Go.Proofs.YtokhckjemidbpaaGreatDoor
