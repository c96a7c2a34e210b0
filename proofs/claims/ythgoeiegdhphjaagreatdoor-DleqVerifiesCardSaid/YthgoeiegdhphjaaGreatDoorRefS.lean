/- The document's sum. -/
import Derived.StillTailTactics
import Derived.Deep.RegionLaw
import Derived.Laws.OwnMore
import Derived.ArgAppend
import Derived.Laws.CopyOwn
import Derived.Tactics
import Derived.Laws.BytesArg
import Derived.Laws.BytesString
import Derived.WideShapes
import Derived.Test.YthgoeiegdhphjaaGreatDoorRefW
set_option maxRecDepth 1000000
set_option maxHeartbeats 16000000
set_option linter.unusedSimpArgs false
set_option linter.unusedVariables false
namespace Go.Proofs.YthgoeiegdhphjaaGreatDoor
open Go Go.RowKit
theorem mQ {i:Int}(n:Nat)(hi:i=(n:Nat))(h:n<=4294967296)(w:World):(Instr.makeSlice 60 (.int .u64 i) (.int .u64 i)).run Tryz.prog w =
  .ok (.slice (some ⟨w.heap.size,0,none⟩) n n) (w.alloc (.cells (zeros .u8 n) 5)):=by
 subst hi;obtain⟨i,hi,hz,hs,hb⟩:=info_parts Tryz.info_u8;have:=run_make (P:=Tryz.prog) w 60 5 i (.int .u8 0) Tryz.underlying60 hi hz .u64 .u64 n n (by omega) (Int.le_refl _) (by rw[hb];omega) (by omega);simp only[Int.toNat_natCast,hs,Nat.mul_one]at this;rw[this,<- Lr];rfl
theorem fH (n:Nat):Bb (n%18446744073709551616)=Bb n:=by
 unfold Bb;rw[show Bj (n%18446744073709551616)=Bj n by unfold Bj;omega,show n%18446744073709551616*8%18446744073709551616=n*8%18446744073709551616 by omega]
def Ps (nn M k:Nat):List Nat:=128::(List.replicate (nn+(8-k)) 0++(Zg M).drop (8-k))
theorem fE (nn M:Nat):Ps nn M 0=(List.replicate (nn+9) 0).set 0 128:=by
 unfold Ps;rw[List.drop_of_length_le (by rw[Jc];omega),List.append_nil];rfl
theorem jZ (nn M k:Nat)(hk:k<8):(Ps nn M k).set (nn+8-k) (M/2^(8*k)%256)=Ps nn M (k+1):=by
 unfold Ps;rw[show nn+8-k=(nn+(8-(k+1)))+1 by omega,List.set_cons_succ]
 congr 1
 rw[show nn+(8-k)=(nn+(8-(k+1)))+1 by omega,List.replicate_succ',List.append_assoc,List.set_append_right _ _ (by simp),List.length_replicate,Nat.sub_self]
 congr 1
 have h:8-(k+1)<(Zg M).length:=by rw[Jc];omega
 rw[List.singleton_append,List.set_cons_zero,List.drop_eq_getElem_cons h,show 8-(k+1)+1=8-k by omega]
 congr 1
 simp only[Zg,List.getElem_map,List.getElem_range];rw[show 7-(8-(k+1))=k by omega]
theorem kA (nn M k:Nat)(hk:k<8):(Ps nn M k)[nn+8-k]? = some 0:=by
 unfold Ps;rw[show nn+8-k=(nn+(8-(k+1)))+1 by omega,List.getElem?_cons_succ,List.getElem?_append_left (by simp;omega)];simp[List.getElem?_replicate];omega
theorem Yu (w:World)(N:Nat)(hN:N<18446744073709551616) :
  Calls Tryz.prog 217 #[.int .u64 N] w fun e w'=>e=.returned (.slice (some ⟨w.heap.size,0,none⟩) (Bj N+9) (Bj N+9))/\Below w.heap.size w w'/\Bo w' w.heap.size 5 .u8 (Bb N):=by
 obtain⟨nn,hnn⟩:∃nn,Bj N=nn:=⟨_,rfl⟩
 have hn63:nn<64:=by rw[<- hnn];unfold Bj;omega
 have t1:(119-(N:Int)%64)%64=(nn:Int):=by rw[<- hnn];unfold Bj;omega
 have HB:Hid (Bb N=Ps nn (N*8%18446744073709551616) 8):=by unfold Bb;rw[hnn];rfl
 rw[hnn];clear hnn;have hmk:=fun wx=>mQ (i:=1+(nn:Int)+8) (nn+9) (by omega) (by omega) wx
 go_enter Tryz.func217,Tryz.ntmps217;go_wp2;obtain⟨M,hM⟩:∃M,N*8%18446744073709551616=M:=⟨_,rfl⟩
 have hM2:IntKind.u64.wrap ((N:Int)*8)=(M:Int):=by
  show (N:Int)*8%18446744073709551616=(M:Int)
  omega
 have hM64:M<18446744073709551616:=by omega
 rw[hM]at HB
 clear hM;simp only[hM2];clear hM2
 go_loopw [19] (fun i wr=>∃k:Nat,k<=8/\i=.int .i64 k/\w.heap.size<wr.heap.size/\Below w.heap.size w wr/\Bo wr w.heap.size 5 .u8 (Ps nn M k)) (fun i _=>8-(intOf i).toNat)
 case atStart =>
  refine⟨0,by omega,rfl,by simp,(Below.refl _ _).alloc (Nat.le_refl _) _,?_⟩;rw[fE];have e:(zeros .u8 (nn+9)).setIfInBounds 0 (.int .u8 128)=(((List.replicate (nn+9) 0).set 0 128).map fun(x:Nat)=>Value.int .u8 x).toArray:=by
   unfold zeros;rw[List.map_set];rfl
  rw[e];exact heap_alloc_new w _
 case round =>
  obtain⟨k,hk,rfl,hsz,hbel,hblk⟩:=hrel
  by_cases hk8:k<8
  .have e0:=hblk.cell (kA nn M k hk8);have e1:=hblk.free (nn+8-k);have hset:=Lib.hid (jZ nn M k hk8);have a1:((nn:Int)+8-k).toNat=nn+8-k:=by omega
   go_wp2;have hv:(M:Int)/2^(k*8)%256=((M/2^(8*k)%256:Nat):Int):=by
    rw[Int.natCast_emod,Int.natCast_ediv,Int.natCast_pow,Nat.mul_comm k 8];rfl
   rw[hv];go_roundw
   case rel =>
    refine⟨k+1,by omega,by go_num,by simpa using hsz,hbel.setCell (by simp) _,?_⟩;have h:=hblk.set (nn+8-k) (M/2^(8*k)%256);rw[hset.out]at h
    exact h
   case measure=>simp[intOf];omega
  .obtain rfl:k=8:=by omega
   go_wp2;go_ret;refine⟨rfl,hbel,?_⟩;rw[HB.out];exact hblk
theorem Jq {P:Program}{ops:Array Oper}{o:Oper}{a:Act}{w:World}{K:Act->World->Prop}{Q:Exit->Act->World->Prop}{E:Prop}(hgd:o.guard=none)(d s:Operand)(dT sT:TypeId)(ho:o.op=.call { callee:=.builtin .copy,args:=#[d,s],argTypes:=#[dT,sT] })(elem:TypeId)(hu:P.underlying dT=some (.slice elem))(hsz:(P.info? elem).map (·.size)=some 1)(dp sp:Option Addr)(dLen dCap sLen sCap:Nat)(hd:a.eval d=.slice dp dLen dCap)(hs:a.eval s=.slice sp sLen sCap)(g off:Nat)(cur:List Value)(t:TypeId)(hg:w.heap[g]? = some (.cells cur.toArray t (0,0)))(cs:List Value)(hn:cs.length=Nat.min sLen dLen)(hpos:0<cs.length->dp=some ⟨g,off,none⟩/\∃ad,sp=some ad/\∀j v,cs[j]? = some v->w.cell? (ad.add j)=some v)(hfit:off+cs.length<=cur.length)(h1:∀v∈cs,v.oneCell'=true)(h:∀w',Hid (w'.heap[g]? = some (.cells (splice cur off cs).toArray t (0,0)))->Da g w w'->K (a.put o.dst (goInt cs.length)) w') :
  if Region.wanted o (yielded ops a.tmps)=true then Oper.wp P o a w K Q else E:=by
 have hw:Region.wanted o (yielded ops a.tmps)=true:=by simp[Region.wanted,hgd]
 rw[if_pos hw]
 by_cases h0:cs.length=0
 .obtain rfl:cs=[]:=List.eq_nil_of_length_eq_zero h0;have hrun:=run_copy_none (P:=P) w dT sT o.type elem dp sp dLen dCap sLen sCap hu hsz (by simpa using hn.symm);unfold Oper.wp;simp[execOp,ho,resolve,invoke,builtin,hd,hs,hrun,Result.andThen];exact h w (show _=_ by simpa [splice]using hg) (Da.refl _ _)
 .obtain⟨rfl,ad,rfl,hsrc⟩:=hpos (by omega);have hrun:=run_copy_row (P:=P) w dT sT o.type elem g off dLen dCap ad sLen sCap cur.toArray t cs hu hsz hg hn hsrc (by simpa using hfit) h1;unfold Oper.wp;simp[execOp,ho,resolve,invoke,builtin,hd,hs,hrun,Result.andThen];exact h _ (show _=_ by simpa [splice]using setRow_heap w g _ _ t _ hg) (Da.setRow _ _)
theorem Da.of_drew {g:Nat}{w w':World}(h:Da g w.drew w'):Da g w w':=⟨h.os,h.tape,h.output,h.size,h.block⟩
theorem Xi {st pend:List Nat}{len:Nat}{xs:List Nat}(hs:st.length=8)(hx:xs.length=8):splice (Br st pend len) 0 (xs.map fun(x:Nat)=>Value.int .u32 x)=Br xs pend len:=by
 unfold splice Br;simp only[List.take_zero,List.nil_append,List.length_map,Nat.zero_add];rw[List.drop_append_of_le_length (by simp;omega),hx,List.drop_of_length_le (by simp;omega),List.nil_append]
theorem Ra {st pend:List Nat}{len:Nat}{xs:List Nat}{r:Nat}(hs:st.length=8)(hx:r+xs.length<=pend.length) :
  splice (Br st pend len) (8+r) (xs.map fun(x:Nat)=>Value.int .u8 x)=Br st (splice pend r xs) len:=by
 unfold splice Br;rw[List.take_append,List.take_of_length_le (by simp;omega),List.length_map,hs,Nat.add_sub_cancel_left,List.take_append_of_le_length (by simp;omega),List.append_assoc]
 congr 1
 rw[List.drop_append,List.drop_of_length_le (by simp;omega),List.nil_append,List.length_map,List.length_map,hs,show 8+r+xs.length-8=r+xs.length by omega,
  List.drop_append_of_le_length (by simp;omega)]
 simp[List.map_take,List.map_drop]
structure tQ (m piece pend:List Nat):Prop where
 len:(splice pend (m.length%64) piece).length=64
 bytes:Az (splice pend (m.length%64) piece)
 some:m.length%64+piece.length<64->Cg (m++piece) ((m++piece).length/64)=Cg m (m.length/64)/\(splice pend (m.length%64) piece).take ((m++piece).length%64)=(m++piece).drop (64*((m++piece).length/64))
 full:m.length%64+piece.length=64->Cg (m++piece) ((m++piece).length/64)=Ql (Cg m (m.length/64)) (splice pend (m.length%64) piece)/\(m++piece).length%64=0/\(m++piece).drop (64*((m++piece).length/64))=[]
theorem tA {m piece pend:List Nat}(hp:pend.length=64)(h8:Az pend)(hb:Az piece)(hk:pend.take (m.length%64)=m.drop (64*(m.length/64)))(hl:m.length%64+piece.length<=64):tQ m piece pend:=by
 obtain⟨q,r,hq,hr,hm,hr64⟩:∃q r,m.length/64=q/\m.length%64=r/\m.length=64*q+r/\r<64:=⟨_,_,rfl,rfl,by omega,by omega⟩
 have hk':pend.take r=m.drop (64*q):=by rw[<- hr,<- hq];exact hk
 have Ca:(splice pend r piece).length=64:=by rw[length_splice _ _ _ (by omega),hp]
 have ht:(splice pend r piece).take (r+piece.length)=(m++piece).drop (64*q):=by
  rw[List.drop_append_of_le_length (by omega),<- hk'];unfold splice;rw[<- List.append_assoc,List.take_append_of_le_length (by simp;omega),List.take_of_length_le (by simp;omega)]
 refine⟨by rw[hr];exact Ca,?_,fun hs=>?_,fun hf=>?_⟩
 .rw[hr];intro x hx;simp only[splice,List.mem_append]at hx;rcases hx with hx|hx|hx
  .exact h8 x (List.mem_of_mem_take hx)
  .exact hb x hx
  .exact h8 x (List.mem_of_mem_drop hx)
 .have e1:(m++piece).length/64=q:=by rw[List.length_append];omega
  have e2:(m++piece).length%64=r+piece.length:=by rw[List.length_append];omega
  rw[e1,e2,hr,hq];exact⟨Ju (by omega),ht⟩
 .have e1:(m++piece).length/64=q+1:=by rw[List.length_append];omega
  have e2:(m++piece).length%64=0:=by rw[List.length_append];omega
  rw[e1,hr,hq];refine⟨?_,e2,List.drop_of_length_le (by rw[List.length_append];omega)⟩;rw[Cg,Ju (by omega),<- ht,show r+piece.length=64 by omega,List.take_take,Nat.min_self,List.take_of_length_le (by omega)]
theorem fU {n c:Nat}{bs:List Nat}{w:World}{p:Option Addr}(h:Bk w .u8 p n c bs)(k:Nat)(hk:k<=n)(p':Option Addr)(hp:k<n->∃b off,p=some ⟨b,off,none⟩/\p'=some ⟨b,off+k,none⟩) :
  Bk w .u8 p' (n-k) (c-k) (bs.drop k):=by
 have hl:=h.len;have hc:=h.cap;have hm:=h.max;refine⟨by simp;omega,by omega,by omega,fun h0=>?_⟩;obtain⟨b,off,rfl,rfl⟩:=hp (by omega);obtain⟨b',off',e,h2,h3⟩:=(h.row (by omega)).pos (by omega);cases e;refine⟨by simp;omega,by omega,by omega,.inr ⟨b,off+k,rfl,h2,fun i x hx=>?_⟩⟩;rw[Nat.add_assoc];exact h3 (k+i) x (by rw[List.getElem?_drop]at hx;exact hx)
theorem El (w:World)(g:Nat)(m:List Nat)(p:Option Addr)(n c:Nat)(bs:List Nat)(hT:Eg w)(hH:Bt w g m)(hg:(max (1 : Nat) 2 + 1)<=g)(hr:Bk w .u8 p n c bs)(h8:Az bs)(hne:0<n->∀q,p=some q->q.block≠g) :
  Calls Tryz.prog 190 #[.pointer (some ⟨g,0,none⟩),.slice p n c] w fun e w'=>e=.returned (.tuple #[])/\Da g w w'/\Bt w' g (m++bs):=by
 have HRow:=Lib.hid hr;have HL:=Lib.hid hr.len;have hcap:=hr.cap;have hmax:=hr.max;clear hr;go_enter Tryz.func190,Tryz.ntmps190;go_wp2
 go_loopw [1] (fun v wr=>∃(k:Nat) (p':Option Addr),k<=n/\v=.slice p' (n-k) (c-k)/\Da g w wr/\Bt wr g (m++bs.take k)/\(k<n->∃b off,p=some ⟨b,off,none⟩/\p'=some ⟨b,off+k,none⟩)) (fun v _=>match v with | .slice _ l _=>l|_=>0)
 case atStart =>
  refine⟨0,p,by omega,rfl,Da.refl _ _,by rw[List.take_zero,List.append_nil];exact hH,fun h0=>?_⟩;obtain⟨b,off,h1,_⟩:=(HRow.out.row h0).pos h0;exact⟨b,off,h1,h1⟩
 case round =>
  obtain⟨k,p',hk,rfl,hbut,hash,hp'⟩:=hrel
  by_cases hkn:k<n
  .obtain⟨b,off,hpe,rfl⟩:=hp' hkn;obtain⟨pend,q1,q2,q3,q4⟩:=hash.ex;have hrow:=fU HRow.out k hk _ hp';obtain⟨m1,hm1⟩:∃m1,m++bs.take k=m1:=⟨_,rfl⟩
   have HM1:=Lib.hid hm1;simp only[hm1]at q3 q4;clear hm1;have hcb:∀(j x:Nat),(bs.drop k)[j]? = some x->wr.cell? ⟨b,off+k+j,none⟩=some (.int .u8 (x:Int)):=fun j x hx=>by
    obtain⟨b',off',e,h2,h3⟩:=(hrow.row (by omega)).pos (by omega);cases e;rw[hbut.cell (p:=⟨b,off+k+j,none⟩) h2 (hne (by omega) ⟨b,off,none⟩ hpe)];exact h3 j x hx
   obtain⟨r,hrd⟩:∃r,m1.length%64=r:=⟨_,rfl⟩
   have hr64:r<64:=by omega
   obtain⟨n1,hn1⟩:∃n1,Nat.min (n-k) (64-r)=n1:=⟨_,rfl⟩
   have hn1a:n1<=n-k:=by rw[<- hn1];exact Nat.min_le_left _ _
   have hn1b:n1<=64-r:=by rw[<- hn1];exact Nat.min_le_right _ _
   have hn1c:0<n1:=by rw[<- hn1];exact Nat.lt_min.2 ⟨by omega,by omega⟩
   obtain⟨L,hLd⟩:∃L,m1.length%18446744073709551616=L:=⟨_,rfl⟩
   have hL64:L<18446744073709551616:=by omega
   have tL:(L:Int)%64=(r:Int):=by omega
   have tLm:(L:Int).tmod 64=(r:Int):=by rw[Int.tmod_eq_emod_of_nonneg (by omega)];exact tL
   have hst8:=Cu m1 (m1.length/64);have c72:=q3.cell (La hst8 q1);rw[hLd]at q3 c72
   have hpc:((bs.drop k).take n1).length=n1:=by simp;have:=HL.out;omega
   have hsl:=fun wx=>Vv wx g 8 r .u64 (r:Int) rfl hr64
   have hgr:=tA (m:=m1) (piece:=(bs.drop k).take n1) q1 q2 (fun x hx=>h8 x (List.mem_of_mem_drop (List.mem_of_mem_take hx))) q4 (by rw[hrd,hpc];omega);obtain⟨G1,G2,G3,G4⟩:=hgr;rw[hrd]at G1 G2 G3 G4
   have HG3:=Lib.hid G3;have HG4:=Lib.hid G4;have HG1:=Lib.hid G1;have HRD:=Lib.hid hrd;have HLD:=Lib.hid hLd;have HQ4:=Lib.hid q4;have HSp:=Lib.hid (Ra (st:=Cg m1 (m1.length/64)) (pend:=pend) (len:=L) (xs:=(bs.drop k).take n1) (r:=r) hst8 (by rw[hpc,q1];omega));have HQ3:=Lib.hid q3;have HN1:=Lib.hid hn1;have HPC:=Lib.hid hpc;have HSL:=Lib.hid hsl;have HV:Hid (∀(j:Nat) (v:Value),(((bs.drop k).take n1).map fun(x:Nat)=>Value.int .u8 x)[j]? = some v->wr.cell? ((⟨b,off+k,none⟩:Addr).add j)=some v):=fun j v hv=>by
    rw[List.getElem?_map]at hv
    obtain⟨x,hx,rfl⟩:=Option.map_eq_some_iff.1 hv;rw[Ef];refine hcb j x ?_;rw[List.getElem?_take]at hx
    split at hx
    .exact hx
    .cases hx
   have HN:Hid ((((bs.drop k).take n1).map fun(x:Nat)=>Value.int .u8 x).length=Nat.min (n-k) (64-r)):=by
    show List.length _=_;rw[List.length_map,hpc,hn1]
   have HF:Hid (8+r+(((bs.drop k).take n1).map fun(x:Nat)=>Value.int .u8 x).length<=(Br (Cg m1 (m1.length/64)) pend L).length):=by
    show _<=List.length _;rw[List.length_map,hpc,Np hst8 q1];omega
   have HO:Hid (∀v∈(((bs.drop k).take n1).map fun(x:Nat)=>Value.int .u8 x),v.oneCell'=true):=fun v hv=>by
    obtain⟨x,_,rfl⟩:=List.mem_map.1 hv;rfl
   have hlt:=q3.lt;clear hn1 hcb q3 hrow hrd hLd G1 G3 G4 q4 hsl;obtain⟨piece,hpd⟩:∃piece,(bs.drop k).take n1=piece:=⟨_,rfl⟩
   have HPD:=Lib.hid hpd;rw[hpd]at HV HN HF HO HSp HPC hpc HG3 HG4 HG1 G2
   clear hpd;obtain⟨cs,hcs⟩:∃cs,(piece.map fun(x:Nat)=>Value.int .u8 x)=cs:=⟨_,rfl⟩
   have hcl:cs.length=n1:=by rw[<- hcs,List.length_map];exact hpc
   rw[hcs]at HV HN HF HO HSp
   clear hcs hpc;have hsl:=HSL.out;obtain⟨L2,hL2⟩:∃L2,(L+n1)%18446744073709551616=L2:=⟨_,rfl⟩
   have tL2:IntKind.u64.wrap ((L:Int)+n1)=(L2:Int):=by
    show ((L:Int)+n1)%18446744073709551616=(L2:Int)
    omega
   have hL2b:L2<18446744073709551616:=by omega
   have HL2:=Lib.hid hL2;have hL2r:(r+n1<64->L2%64=r+n1)/\(r+n1=64->L2%64=0):=⟨by omega,by omega⟩
   have HL2R:=Lib.hid hL2r;clear hL2 hL2r;go_wp2
   go_region_law (refine Jq rfl (.tmp 18) (.tmp 19) 60 60 rfl 5 Tryz.underlying60 (by kernel_rfl) (some ⟨g,8+r,none⟩) (some ⟨b,off+k,none⟩) (64-r) (64-r) (n-k) (c-k) rfl rfl g (8+r) (Br (Cg m1 (m1.length/64)) pend L) 254 HQ3.out cs HN.out (fun _=>⟨rfl,_,rfl,HV.out⟩) HF.out HO.out ?_;intro w4 hg4 hb4)
   rw[HSp.out]at hg4
   have hx4:Fi w4 g (Cg m1 (m1.length/64)) (splice pend r piece) L:=hg4.out;clear hg4;obtain⟨P4,hP4⟩:∃P4,splice pend r piece=P4:=⟨_,rfl⟩
   rw[hP4]at hx4 HG1 G2 HG3 HG4
   have hl4:P4.length=64:=HG1.out;have c72':=hx4.cell (La hst8 hl4);have e72:=hx4.free 72;have HX4:=Lib.hid hx4;clear hx4 hP4 c72 HQ3 hsl HSL;have hb5:∀v:Value,Da g w (w4.setCell ⟨g,72,none⟩ v):=fun v=>(hbut.trans hb4.of_drew).trans (Da.setCell _ _ _)
   have HB5:=Lib.hid hb5;have hx5:Fi (w4.setCell ⟨g,72,none⟩ (.int .u64 (L2:Nat))) g (Cg m1 (m1.length/64)) P4 L2:=HX4.out.set 72 _ (Mf hst8 hl4);have HX5:=Lib.hid hx5;have ha:m++bs.take (k+n1)=m1++piece:=by rw[List.take_add,<- List.append_assoc,HM1.out,HPD.out]
   have Ca:(m1++piece).length%18446744073709551616=L2:=by
    have h1:=HPC.out;have h2:=HL2.out;have h3:=HLD.out;rw[List.length_append,h1];omega
   have hfin:∀w5,Fi w5 g (Cg m1 (m1.length/64)) P4 L2->r+n1<64->Bt w5 g (m++bs.take (k+n1)):=fun w5 hx hs=>by
    have h3:=HG3.out (by rw[HPC.out];exact hs);rw[ha];exact⟨P4,hl4,G2,by rw[h3.1,Ca];exact hx,h3.2⟩
   have hfin2:∀w5,Fi w5 g (Ql (Cg m1 (m1.length/64)) P4) P4 L2->r+n1=64->Bt w5 g (m++bs.take (k+n1)):=fun w5 hx hs=>by
    have h3:=HG4.out (by rw[HPC.out];exact hs);rw[ha];exact⟨P4,hl4,G2,by rw[h3.1,Ca];exact hx,by rw[h3.2.1,h3.2.2];rfl⟩
   have HFIN:=Lib.hid hfin;have HFIN2:=Lib.hid hfin2;have HPT:Hid (k+n1<n->(if c-k=n1 then (some ⟨b,off+k,none⟩:Option Addr) else some ⟨b,off+k+n1,none⟩)=some ⟨b,off+(k+n1),none⟩):=fun h=>by
    rw[if_neg (by omega),Nat.add_assoc]
   clear hb5 hx5 ha Ca hfin hfin2 hb4;have HPE:=Lib.hid hpe
   by_cases hfull:r+n1=64
   .have tz:(L2:Int)%64=0:=by have:=HL2R.out.2 hfull;omega
    have hx5:=HX5.out;have hb5:=HB5.out (.int .u64 (L2:Nat));go_wp2
    all_goals
     generalize w4.setCell ⟨g,72,none⟩ (.int .u64 (L2:Nat))=w5 at *;clear HX4 e72 c72' HV HN HF HO HSp hlt
     go_still_tail 6,(by kernel_rfl)
     change wpList _ _ _ _ _ w5.drew;have hx6:Fi w5.drew g (Cg m1 (m1.length/64)) P4 L2:=hx5;have hb6:Da g w w5.drew:=hb5.drew;have hT6:Eg w5.drew:=hT.but hb6 hg;generalize w5.drew=w6 at *
     go_wp2_with fail
     refine(cU w6 g _ P4 L2 hT6 hst8 (Ih _ _) hl4 G2 hx6 hg).mono ?_;rintro e w7 ⟨rfl,hb7,hx7⟩;go_wp2;go_roundw
     case rel=>exact⟨k+n1,_,by omega,by congr 1<;>omega,hb6.trans hb7,HFIN2.out _ hx7 hfull,fun h=>by first|exact⟨b,off,HPE.out,by rw[Nat.add_assoc]⟩|(exfalso;omega)⟩
     case measure=>show n-k-n1<n-k;omega
   .have tz:(L2:Int)%64=((r+n1:Nat):Int):=by have:=HL2R.out.1 (by omega);omega
    have tz2:¬((r+n1:Nat):Int)=0:=by omega
    go_wp2;go_roundw
    case rel=>exact⟨k+n1,_,by omega,by congr 1<;>omega,HB5.out _,HFIN.out _ HX5.out (by omega),fun h=>⟨b,off,HPE.out,HPT.out h⟩⟩
    case measure=>show n-k-n1<n-k;omega
  .obtain rfl:k=n:=by omega
   have hfin:Bt wr g (m++bs):=by
    have h:=hash;rw[List.take_of_length_le (by have:=HL.out;omega)]at h
    exact h
   go_wp2
   go_end0
   exact⟨rfl,hbut,hfin⟩
def Qu (m:List Nat)(w:World)(e:Ending)(w':World):Prop:=∃g,e=.returned (.pointer (some ⟨g,0,none⟩))/\w.heap.size<=g/\Below w.heap.size w w'/\Bt w' g m
theorem Bt.new {w:World}{g:Nat}(h:Fi w g Dy (List.replicate 64 0) 0):Bt w g [] :=
 ⟨List.replicate 64 0,by simp,fun x hx=>by have:=(List.mem_replicate.1 hx).2;omega,h,rfl⟩
def Wl:List Value:=Br (List.replicate 8 0) (List.replicate 64 0) 0
def Ca (L:Nat):List Value:=Br (List.replicate 8 0) (List.replicate 64 0) L
theorem aU (L:Nat):(Ca L).length=73:=rfl
theorem Ph:Wl.length=73:=rfl
theorem Vo (w:World):(zeroValue 254).run Tryz.prog w=.ok (.agg Wl.toArray) w:=by
 have h:(Tryz.prog.info? 254).map (·.zero)=some (some (.agg Wl.toArray)):=by kernel_rfl
 cases hi:Tryz.prog.info? 254 with
 | none=>rw[hi]at h;cases h
 | some i =>
  rw[hi]at h
  have hz:i.zero=some (.agg Wl.toArray):=by simpa using h
  simp[zeroValue,typeInfo,hi,hz]
theorem Ku (w:World)(hT:Eg w):Calls Tryz.prog 189 #[] w (Qu [] w):=by
 have hz:=Vo;have hzl:=Ph;obtain⟨t0,fr0,hf0⟩:=hT.first
 have hi8:(Tryz.prog.info? 252).map (·.size)=some (Dy.map fun(x:Nat)=>Value.int .u32 x).toArray.size:=by
  rw[show (Dy.map fun(x:Nat)=>Value.int .u32 x).toArray.size=8 by rfl];kernel_rfl
 go_enter Tryz.func189,Tryz.ntmps189
 go_wp2_with (refine wpList_load_row rfl 252 _ rfl 1 rfl t0 (Dy.map fun(x:Nat)=>Value.int .u32 x).toArray fr0 _ hf0 Tryz.underlying252 rfl hi8 ?_)
 have hf:(List.foldl (fun(cs:Array Value) x=>cs.setIfInBounds x.snd x.fst) Wl.toArray (Dy.map fun(x:Nat)=>Value.int .u32 x).zipIdx)=(Br Dy (List.replicate 64 0) 0).toArray:=by kernel_rfl
 refine bodyPost_ret (v:=.pointer (some ⟨w.heap.size,0,none⟩)) (by simp[results,Tryz.results189,go_sem]) rfl ⟨_,rfl,Nat.le_refl _,(Below.refl _ _).alloc (Nat.le_refl _) _,Bt.new ?_⟩;rw[hf];exact heap_alloc_new w _
theorem Zp (w:World)(b off:Nat) :
  (Instr.sliceAt 252 (.pointer (some ⟨b,off,none⟩)) none none none).run Tryz.prog w=.ok (.slice (some ⟨b,off,none⟩) 8 8) w:=by
 have Ca:Tryz.prog.arrayLen 252 = 8:=by kernel_rfl
 rw[run_sliceAt_array_all w 252 ⟨b,off,none⟩ Tryz.underlying252,Ca];have hs:(sizeOf (Tryz.prog.elem 252)).run Tryz.prog w=.ok 1 w:=by
  have:Tryz.prog.elem 252 = 117 := by kernel_rfl
  rw[this];simp[go_sem]
 rw[hs];simp[slicedAt,Addr.add]
theorem Zq (w:World)(b off:Nat) :
  (Instr.sliceAt 248 (.pointer (some ⟨b,off,none⟩)) none none none).run Tryz.prog w=.ok (.slice (some ⟨b,off,none⟩) 64 64) w:=by
 have Ca:Tryz.prog.arrayLen 248 = 64:=by kernel_rfl
 rw[run_sliceAt_array_all w 248 ⟨b,off,none⟩ Tryz.underlying248,Ca];have hs:(sizeOf (Tryz.prog.elem 248)).run Tryz.prog w=.ok 1 w:=by
  have:Tryz.prog.elem 248 = 5 := by kernel_rfl
  rw[this];simp[go_sem]
 rw[hs];simp[slicedAt,Addr.add]
theorem Oj (w:World)(g:Nat)(m:List Nat)(hH:Bt w g m):Calls Tryz.prog 215 #[.pointer (some ⟨g,0,none⟩)] w (Qu m w):=by
 obtain⟨pend,q1,q2,q3,q4⟩:=hH.ex;have hst8:=Cu m (m.length/64);obtain⟨st,hst⟩:∃st,Cg m (m.length/64)=st:=⟨_,rfl⟩
 obtain⟨L,hL⟩:∃L,m.length%18446744073709551616=L:=⟨_,rfl⟩
 have c72:=q3.cell (La hst8 q1);have HST:=Lib.hid hst;have HL:=Lib.hid hL;rw[hL]at c72 q3
 rw[hst]at q3 hst8
 have hlt:=q3.lt;have hz:=Vo;have hzl:=Ph;have HQ3:=Lib.hid q3;have hcS:∀(j:Nat) (v:Value),(st.map fun(x:Nat)=>Value.int .u32 x)[j]? = some v->w.cell? ((⟨g,0,none⟩:Addr).add j)=some v:=fun j v hv=>by
  rw[List.getElem?_map]at hv
  obtain⟨x,hx,rfl⟩:=Option.map_eq_some_iff.1 hv;have hj:j<8:=by have:=(List.getElem?_eq_some_iff.1 hx).1;omega
  rw[Ef,Nat.zero_add];refine q3.cell ?_;rw[If hst8 hj,List.getD_eq_getElem?_getD,hx];rfl
 have hcP:∀(j:Nat) (v:Value),(pend.map fun(x:Nat)=>Value.int .u8 x)[j]? = some v->w.cell? ((⟨g,8,none⟩:Addr).add j)=some v:=fun j v hv=>by
  rw[List.getElem?_map]at hv
  obtain⟨x,hx,rfl⟩:=Option.map_eq_some_iff.1 hv;have hj:j<64:=by have:=(List.getElem?_eq_some_iff.1 hx).1;omega
  rw[Ef];refine q3.cell ?_;rw[Ri hst8 q1 hj,List.getD_eq_getElem?_getD,hx];rfl
 have HS8:=Lib.hid hst8;have HQ1:=Lib.hid q1;have HCS:=Lib.hid hcS;have HCP:=Lib.hid hcP;have hOne:∀(k:IntKind) (xs:List Nat),∀v∈(xs.map fun(x:Nat)=>Value.int k x),v.oneCell'=true:=fun k xs v hv=>by
  obtain⟨x,_,rfl⟩:=List.mem_map.1 hv;rfl
 have HON:=Lib.hid hOne;have hset:Wl.set 72 (.int .u64 (L:Nat))=Ca L:=Mf (by simp) (by simp);clear hL hst q3 hcS hcP hOne;obtain⟨csS,hcsS⟩:∃cs,(st.map fun(x:Nat)=>Value.int .u32 x)=cs:=⟨_,rfl⟩
 obtain⟨csP,hcsP⟩:∃cs,(pend.map fun(x:Nat)=>Value.int .u8 x)=cs:=⟨_,rfl⟩
 have hlS:csS.length=8:=by rw[<- hcsS,List.length_map];exact hst8
 have hlP:csP.length=64:=by rw[<- hcsP,List.length_map];exact q1
 have HSP1:Hid (splice (Ca L) 0 csS=Br st (List.replicate 64 0) L):=by rw[<- hcsS];exact Xi (by simp) hst8
 have HSP2:Hid (splice (Br st (List.replicate 64 0) L) 8 csP=Br st pend L):=by
  rw[<- hcsP];have h:=Ra (st:=st) (pend:=List.replicate 64 0) (len:=L) (xs:=pend) (r:=0) hst8 (by simp[q1]);refine h.trans ?_
  congr 1
  unfold splice;rw[List.take_zero,List.nil_append,List.drop_of_length_le (by simp[q1]),List.append_nil]
 rw[hcsS]at HCS
 rw[hcsP]at HCP
 have HO1:Hid (∀v∈csS,v.oneCell'=true):=by rw[<- hcsS];exact HON.out _ _
 have HO2:Hid (∀v∈csP,v.oneCell'=true):=by rw[<- hcsP];exact HON.out _ _
 clear hcsS hcsP hst8 q1;go_enter Tryz.func215,Tryz.ntmps215;go_wp2;have hn0:=heap_alloc_new w (.cells (Ca L).toArray 254);have hb0:Below w.heap.size w (w.alloc (.cells (Ca L).toArray 254)):=Cb;have hsz0:w.heap.size<(w.alloc (.cells (Ca L).toArray 254)).heap.size:=by simp
 generalize w.alloc (.cells (Ca L).toArray 254)=w1 at *;have HN0:=Lib.hid hn0;have hcS1:∀(j:Nat) (v:Value),csS[j]? = some v->w1.cell? ((⟨g,0,none⟩:Addr).add j)=some v:=fun j v hv=>by
  have h:=HCS.out j v hv;rw[Ef]at h ⊢
  rw[(Cc hb0).1 _ _ hlt];exact h
 have HCS1:=Lib.hid hcS1;have HF1:Hid (0+csS.length<=(Ca L).length):=by show 0+csS.length<=(Ca L).length;rw[hlS,aU];omega
 have HM1:Hid (csS.length=Nat.min 8 8):=hlS;clear hcS1 hn0 hset;have hsl1:=Zp;have hsl2:=Zq
 go_region_law (refine Jq rfl (.tmp 15) (.tmp 19) 34 34 rfl 117 Tryz.underlying34 (by kernel_rfl) (some ⟨w.heap.size,0,none⟩) (some ⟨g,0,none⟩) 8 8 8 8 (by simp[Act.eval,Act.put,go_sem]) (by simp[Act.eval,Act.put,go_sem]) w.heap.size 0 (Ca L) 254 HN0.out csS HM1.out (fun _=>⟨rfl,_,rfl,HCS1.out⟩) HF1.out HO1.out ?_;intro w4 hg4 hb4)
 rw[HSP1.out]at hg4
 have hb5:Below w.heap.size w w4:=hb0.trans ((hb4.of_drew).below (Nat.le_refl _) (Nat.le_of_lt hsz0));have hcP1:∀(j:Nat) (v:Value),csP[j]? = some v->w4.cell? ((⟨g,8,none⟩:Addr).add j)=some v:=fun j v hv=>by
  have h:=HCP.out j v hv;rw[Ef]at h ⊢
  rw[(Cc hb5).1 _ _ hlt];exact h
 have HCP1:=Lib.hid hcP1;have HB5:=Lib.hid hb5;have HF2:Hid (8+csP.length<=(Br st (List.replicate 64 0) L).length):=by show 8+csP.length<=List.length _;rw[hlP,Np HS8.out (by simp)];omega
 have HM2:Hid (csP.length=Nat.min 64 64):=hlP;obtain⟨cur,hcur⟩:∃cur,Br st (List.replicate 64 0) L=cur:=⟨_,rfl⟩
 rw[hcur]at hg4 HF2 HSP2
 have HC4:=hg4;clear hcP1 hb5 hcur hg4 HN0 hb4 hb0 hsz0;go_wp2;have hs4:w.heap.size<w4.heap.size:=(Array.getElem?_eq_some_iff.1 HC4.out).1
 go_region_law (refine Jq rfl (.tmp 24) (.tmp 28) 60 60 rfl 5 Tryz.underlying60 (by kernel_rfl) (some ⟨w.heap.size,8,none⟩) (some ⟨g,8,none⟩) 64 64 64 64 (by simp[Act.eval,Act.put,go_sem]) (by simp[Act.eval,Act.put,go_sem]) w.heap.size 8 cur 254 HC4.out csP HM2.out (fun _=>⟨rfl,_,rfl,HCP1.out⟩) HF2.out HO2.out ?_;intro w6 hg6 hb6)
 rw[HSP2.out]at hg6
 have hb7:Below w.heap.size w w6:=HB5.out.trans ((hb6.of_drew).below (Nat.le_refl _) (Nat.le_of_lt hs4));have HB7:=Lib.hid hb7;clear hb6 hb7;go_wp2;go_ret;refine⟨_,rfl,Nat.le_refl _,HB7.out,⟨pend,HQ1.out,q2,?_,q4⟩⟩;rw[HST.out,HL.out];exact hg6.out
def Ms (m:List Nat)(w:World)(e:Ending)(w':World):Prop:=∃q,e=.returned (.slice (some ⟨q,0,none⟩) 32 32)/\w.heap.size<=q/\Below w.heap.size w w'/\Bo w' q 5 .u8 (Lq m)
theorem Kz (w:World)(g:Nat)(m:List Nat)(hT:Eg w)(hH:Bt w g m):Calls Tryz.prog 192 #[.pointer (some ⟨g,0,none⟩)] w (Ms m w):=by
 have hlt:=hH.lt;obtain⟨L,hL⟩:∃L,m.length%18446744073709551616=L:=⟨_,rfl⟩
 have hL64:L<18446744073709551616:=by omega
 have HL:=Lib.hid hL;clear hL;go_enter Tryz.func192,Tryz.ntmps192
 go_wp2_with fail
 refine(Oj w g m hH).mono ?_;rintro e w1 ⟨q,rfl,hq,hb1,hh1⟩;have hT1:=hT.below hb1 hT.size;have c72:w1.cell? ⟨g,72,none⟩=some (.int .u64 (L:Nat)):=by
  obtain⟨pend,q1,_,q3,_⟩:=(hH.below hb1 hlt).ex;have h:=q3.cell (La (Cu m _) q1);rw[HL.out]at h
  exact h
 go_wp2_with fail
 refine(Yu w1 L hL64).mono ?_;rintro e w2 ⟨rfl,hb2,hk2⟩;have hh2:=hh1.below hb2 hh1.lt;have hT2:=hT1.below hb2 hT1.size;have hz12:=hb1.size;have hz22:=hb2.size;have hbl:Bb L=Bb m.length:=by rw[<- HL.out,fH]
 rw[hbl]at hk2
 have hnl:Bj L+9=(Bb m.length).length:=by rw[<- hbl,Hj]
 have hrow:Bk w2 .u8 (some ⟨w1.heap.size,0,none⟩) (Bj L+9) (Bj L+9) (Bb m.length) :=
  ⟨hnl,Nat.le_refl _,by have:Bj L<64:=Nat.mod_lt _ (by omega);omega,fun _=>hk2.row hnl (Nat.le_refl _) (by have:Bj L<64:=Nat.mod_lt _ (by omega);omega)⟩
 have hqlt:=hh1.lt;clear hbl hnl
 go_wp2_with fail
 refine(El w2 q m _ _ _ (Bb m.length) hT2 hh2 (by have:=hT.size;omega) hrow (Pv _) (fun _ a ha=>by cases ha;show w1.heap.size≠q;omega)).mono ?_;rintro e w3 ⟨rfl,hb3,hh3⟩;have hb13:Below w.heap.size w w3:=(hb1.trans (hb2.mono hz12)).trans (hb3.below hq (by omega));obtain⟨pend,q1,q2,q3,q4⟩:=hh3.ex;have hz13:=hb13.size
 go_wp2_with fail
 refine(Sz w3 q _ pend _ (Cu _ _) (Ih _ _) q3).mono ?_;rintro e w4 ⟨rfl,hb4,hk4⟩;rw[List.length_append]at hk4
 go_wp2;go_ret;exact⟨_,rfl,hz13,hb13.trans (hb4.mono hz13),hk4⟩
structure Gq (w:World) (B:Nat) (v:Value) (bs:List Nat):Prop where
 owns:w.ownsRow B 5 1 v bs.length (bs.map fun(x:Nat)=>Value.int .u8 (x:Int))
theorem Gq.nil (w:World)(B:Nat):Gq w B (.slice none 0 0) []:=⟨World.ownsRow_nil w B 5 1⟩
theorem Gq.elim {w:World}{B:Nat}{v:Value}{bs:List Nat}(h:Gq w B v bs) :
  ∃p c,v=.slice p bs.length c/\Bk w .u8 p bs.length c bs/\Gc B p/\(p=none->c=0)/\(∀q,p=some q->q.block<w.heap.size):=by
 obtain⟨h1,h2⟩:=h.owns;rcases h2 with ⟨rfl,h0⟩|⟨g,cap,cur,rfl,hb,hg,hnc,hcm,hcs,ht⟩
 .refine⟨none,0,by rw[h0],⟨rfl,by omega,by omega,fun h=>absurd h (by omega)⟩,Gc.none _,fun _=>rfl,fun q hq=>(by cases hq)⟩
 .have hlt:g<w.heap.size:=(Array.getElem?_eq_some_iff.1 hg).1;have hcm':cap<=9223372036854775807:=by simpa [maxLen]using hcm
  refine⟨some ⟨g,0,none⟩,cap,rfl,⟨rfl,hnc,hcm',fun _=>⟨rfl,hnc,hcm',.inr ⟨g,0,rfl,hlt,fun i x hx=>?_⟩⟩⟩,fun q hq=>(by cases hq;exact hb),fun h=>(by cases h),fun q hq=>(by cases hq;exact hlt)⟩;have hi:i<bs.length:=(List.getElem?_eq_some_iff.1 hx).1;have hx2:(bs.map fun(x:Nat)=>Value.int .u8 (x:Int))[i]? = some (.int .u8 (x:Int)):=by rw[List.getElem?_map,hx];rfl
  rw[<- ht,List.getElem?_take]at hx2
  split at hx2
  .unfold World.cell?
   dsimp only
   rw[hg];simp only[Nat.zero_add];rw[Array.getElem?_toList]at hx2
   exact hx2
  .cases hx2
theorem Gq.below {w w':World}{B C:Nat}{v:Value}{bs:List Nat}(h:Gq w B v bs)(hb:Below C w w')(hc:∀g,v.ownBlock=some g->g<C):Gq w' B v bs:=by
 refine⟨⟨h.owns.1,?_⟩⟩;rcases h.owns.2 with h2|⟨g,cap,cur,rfl,hbg,hg,h3⟩
 .exact .inl h2
 .refine .inr ⟨g,cap,cur,rfl,hbg,?_,h3⟩;rw[hb.block g (hc g rfl)];exact hg
theorem Gq.lt {w:World}{B:Nat}{v:Value}{bs:List Nat}(h:Gq w B v bs):∀g,v.ownBlock=some g->g<w.heap.size:=by
 intro g hg;rcases h.owns.2 with ⟨rfl,_⟩|⟨g',cap,cur,rfl,hbg,hg',h3⟩
 .cases hg
 .obtain rfl:g'=g:=by simpa [Value.ownBlock]using hg
  exact(Array.getElem?_eq_some_iff.1 hg').1
theorem Gq.ge {w:World}{B:Nat}{v:Value}{bs:List Nat}(h:Gq w B v bs):∀g,v.ownBlock=some g->B<=g:=by
 intro g hg;rcases h.owns.2 with ⟨rfl,_⟩|⟨g',cap,cur,rfl,hbg,hg',h3⟩
 .cases hg
 .obtain rfl:g'=g:=by simpa [Value.ownBlock]using hg
  exact hbg
theorem Gq.belowS {w w':World}{B:Nat}{v:Value}{bs:List Nat}(h:Gq w B v bs)(hb:Below w.heap.size w w'):Gq w' B v bs:=h.below hb h.lt
theorem Gq.mono {w:World}{B B':Nat}{v:Value}{bs:List Nat}(h:Gq w B v bs)(hb:B'<=B):Gq w B' v bs:=by
 refine⟨⟨h.owns.1,?_⟩⟩;rcases h.owns.2 with h2|⟨g,cap,cur,h1,hbg,h3⟩
 .exact .inl h2
 .exact .inr ⟨g,cap,cur,h1,by omega,h3⟩
theorem Di {w w':World}{g:Option Nat}(h:w.grownBy w' g){B:Nat}(hB:B<=w.heap.size)(hg:∀b,g=some b->B<=b):Below B w w' :=
 ⟨h.os,h.tape,h.output,h.size,fun k hk=>h.block k (by omega) (fun e=>by have:=hg k e.symm;omega)⟩
theorem Gq.lit (w:World)(bs:List Nat)(hm:bs.length<=9223372036854775807):Gq (w.alloc (.cells (bs.map fun(x:Nat)=>Value.int .u8 (x:Int)).toArray 5)) w.heap.size (.slice (some ⟨w.heap.size,0,none⟩) bs.length bs.length) bs:=by
 refine⟨⟨by simp,.inr ⟨w.heap.size,bs.length,_,rfl,Nat.le_refl _,heap_alloc_new w _,Nat.le_refl _,by simpa [maxLen]using hm,by simp,?_⟩⟩⟩;rw[List.take_of_length_le (by simp)]
theorem pX {w:World}{B:Nat}{v:Value}{xs:List Nat}(h:Gq w B v xs){p:Option Addr}{m c:Nat}{bs:List Nat}(hr:Bk w .u8 p m c bs)(hn:p=none->c=0)(hmax:xs.length+m<=140737488355328)(hB:B<=w.heap.size)(ty:TypeId) :
  ∃v' w',(Builtin.append_ #[60, 60] ty #[v,.slice p m c]).run Tryz.prog w=.ok v' w'/\Gq w' B v' (xs++bs)/\w.grownBy w' v.ownBlock:=by
 obtain⟨i,hi,hz,hs,hb⟩:=info_parts Tryz.info_u8;have hl:=hr.len
 cases p with
 | none =>
  obtain rfl:=hn rfl;have hc:=hr.cap;obtain rfl:m=0:=by omega
  have hbs:bs=[]:=List.eq_nil_of_length_eq_zero hl.symm;refine⟨v,w,run_append_owned_none (P:=Tryz.prog) w B 60 ty 5 i 1 Tryz.underlying60 hi v xs.length _ h.owns,?_,⟨rfl,rfl,rfl,Nat.le_refl _,fun _ _ _=>rfl⟩⟩;rw[hbs,List.append_nil];exact h
 | some a =>
  have hmx:xs.length+m<=maxLen:=by simp only[maxLen];omega
  obtain⟨v',w',h1,h2,h3,_⟩:=run_append_own (P:=Tryz.prog) w B 60 ty 5 i (.int .u8 0) 1 1 Tryz.underlying60 hi hz hs hb (by rfl) (by decide) v xs.length _ h.owns a m c (bs.map fun(x:Nat)=>Value.int .u8 (x:Int)) (by simp[hl])
   (fun j u hu=>by
    rw[List.getElem?_map]at hu
    obtain⟨x,hx,rfl⟩:=Option.map_eq_some_iff.1 hu;have h0:0<m:=by have:=(List.getElem?_eq_some_iff.1 hx).1;omega
    obtain⟨b,off,e,h2,h3⟩:=(hr.row h0).pos h0;cases e;rw[Ef];exact h3 j x hx)
   (fun u hu=>by obtain⟨x,_,rfl⟩:=List.mem_map.1 hu;rfl) hmx (by omega) hB
  refine⟨v',w',h1,⟨?_⟩,h3⟩;rw[<- List.map_append,hl,<- List.length_append]at h2
  exact h2
theorem Ds {w:World}{ops:Array Oper}{rest:List Oper}{o:Oper}{a:Act}{Q:Exit->Act->World->Prop}(hgd:o.guard=none)(s x:Operand)(ho:o.op=.call { callee:=.builtin .append,args:=#[s,x],argTypes:=#[60, 60] }){B:Nat}{v:Value}{xs:List Nat}(hs:a.eval s=v)(h:Gq w B v xs){p:Option Addr}{m c:Nat}{bs:List Nat}(hx:a.eval x=.slice p m c)(hr:Bk w .u8 p m c bs)(hn:p=none->c=0)(hmax:xs.length+m<=140737488355328)(hB:B<=w.heap.size)(hk:∀v' w',Gq w' B v' (xs++bs)->w.grownBy w' v.ownBlock->wpList Tryz.prog ops Q rest (a.put o.dst v') w'):wpList Tryz.prog ops Q (o::rest) a w:=by
 obtain⟨v',w',h1,h2,h3⟩:=pX h hr hn hmax hB o.type;refine wpList_plain hgd fun K hK=>?_
 unfold Oper.wp;simp[execOp,ho,resolve,invoke,builtin,hs,hx,h1,Result.andThen];exact hK _ _ (hk v' w' h2 h3)
inductive De (lo:Nat) (bs:List Nat):Value->World->Prop where
 | of (p:Option Addr) (c:Nat) (w:World) (h:Bk w .u8 p bs.length c bs) (hn:Gc lo p) (hz:p=none->c=0) (hp:∀q,p=some q->q.block<w.heap.size):De lo bs (.slice p bs.length c) w
theorem De.mk {w:World}{B:Nat}{v:Value}{bs:List Nat}(h:Gq w B v bs):De B bs v w:=by
 obtain⟨p,c,rfl,h1,h2,h3,h4⟩:=h.elim;exact .of p c w h1 h2 h3 h4
theorem De.elim {lo:Nat}{bs:List Nat}{v:Value}{w:World}(h:De lo bs v w){C:Prop}(k:∀p c,v=.slice p bs.length c->Bk w .u8 p bs.length c bs->Gc lo p->(p=none->c=0)->C):C:=by
 cases h with
 | of p c _ h hn hz hp=>exact k p c rfl h hn hz
theorem De.below {lo:Nat}{bs:List Nat}{v:Value}{w w':World}(h:De lo bs v w)(hb:Below w.heap.size w w'):De lo bs v w':=by
 cases h with
 | of p c _ h hn hz hp=>exact .of p c w' (h.below hb) hn hz (fun q hq=>Nat.lt_of_lt_of_le (hp q hq) hb.size)
theorem De.zero {lo:Nat}{bs:List Nat}{v:Value}{w:World}(h:De lo bs v w):De 0 bs v w:=by
 cases h with
 | of p c _ h hn hz hp=>exact .of p c w h (fun _ _=>Nat.zero_le _) hz hp
def Uq (bs:List Nat)(w:World)(e:Ending)(w':World):Prop:=∃v,e=.returned v/\De w.heap.size bs v w'/\Below w.heap.size w w'
theorem Kx (w:World)(bs:List Nat)(hm:bs.length<=9223372036854775807):Bk (w.alloc (.cells (bs.map fun(x:Nat)=>Value.int .u8 (x:Int)).toArray 5)) .u8 (some ⟨w.heap.size,0,none⟩) bs.length bs.length bs:=by
 have h:=Bo.row (w:=w.alloc (.cells (bs.map fun(x:Nat)=>Value.int .u8 (x:Int)).toArray 5)) (g:=w.heap.size) (e := 5) (k:=.u8) (xs:=bs) (heap_alloc_new w _) (n:=bs.length) (c:=bs.length) rfl (Nat.le_refl _) hm;exact⟨rfl,Nat.le_refl _,hm,fun _=>h⟩
structure Cs where
 p:Option Addr
 n:Nat
 c:Nat
 bs:List Nat
structure Av (w:World) (P:Cs):Prop where
 row:Bk w .u8 P.p P.n P.c P.bs
 bytes:Az P.bs
theorem Av.below {w w':World}{P:Cs}(h:Av w P)(hb:Below w.heap.size w w'):Av w' P:=⟨h.row.below hb,h.bytes⟩
def whole (L:List Cs):List Nat:=L.flatMap (·.bs)
theorem Ip (L:List Cs)(P:Cs):whole (L++[P])=whole L++P.bs:=by simp[whole]
structure Bw (w:World) (p:Option Addr) (n c:Nat) (L:List Cs):Prop where
 len:n=L.length
 cap:n<=c
 max:c<=9223372036854775807
 ok:∀(i:Nat) (P:Cs),L[i]? = some P->Av w P
 cells:0<n->∃b off,p=some ⟨b,off,none⟩/\b<w.heap.size/\∀(i:Nat) (P:Cs),L[i]? = some P->w.cell? ⟨b,off+i,none⟩=some (.slice P.p P.n P.c)
theorem Bw.below {w w':World}{p:Option Addr}{n c:Nat}{L:List Cs}(h:Bw w p n c L)(hb:Below w.heap.size w w'):Bw w' p n c L :=
 ⟨h.len,h.cap,h.max,fun i P hP=>(h.ok i P hP).below hb,fun h0=>by
  obtain⟨b,off,h1,h2,h3⟩:=h.cells h0;exact⟨b,off,h1,Nat.lt_of_lt_of_le h2 hb.size,fun i P hP=>by rw[hb.cell (p:=⟨b,off+i,none⟩) h2];exact h3 i P hP⟩⟩
theorem Bw.none (w:World)(p:Option Addr):Bw w p 0 0 []:=⟨rfl,Nat.le_refl _,by omega,fun i P h=>by simp at h,fun h=>absurd h (by omega)⟩
theorem gR (w:World)(p:Option Addr)(n c:Nat)(L:List Cs)(hT:Eg w)(hL:Bw w p n c L):Calls Tryz.prog 228 #[.slice p n c] w (Ms (whole L) w):=by
 have HL:Aa (Bw w p n c L):=⟨hL⟩
 have Ca:Aa (n=L.length):=⟨hL.len⟩
 have hcap:=hL.cap;have hmax:=hL.max;clear hL;go_enter Tryz.func228,Tryz.ntmps228
 go_wp2_with fail
 refine(Ku w hT).mono ?_;rintro e w1 ⟨g,rfl,hg,hb1,hh1⟩;go_wp2
 go_loopw [9] (fun i wr=>∃k:Nat,k<=n/\i=.int .i64 k/\Below w.heap.size w wr/\Bt wr g (whole (L.take k))) (fun i _=>n-(intOf i).toNat)
 case atStart=>exact⟨0,by omega,rfl,hb1,hh1⟩
 case round =>
  obtain⟨k,hk,rfl,hbel,hash⟩:=hrel;have hTr:=hT.below hbel hT.size;have hsz:=hT.size
  by_cases hkn:k<n
  .obtain⟨b,off,rfl,hb,hc⟩:=HL.out.cells (by omega);obtain⟨P,hP⟩:∃P,L[k]? = some P:=⟨_,List.getElem?_eq_getElem (by have:=Ca.out;omega)⟩
   have hok:=(HL.out.ok k P hP).below hbel;have hblt:0<P.n->∀q,P.p=some q->q.block≠g:=fun h0 q hq=>by
    obtain⟨b',off',e,h2,_⟩:=((HL.out.ok k P hP).row.row h0).pos h0;rw[hq]at e;cases e
    show b'≠g;omega
   have hck:wr.cell? ⟨b,off+k,none⟩=some (.slice P.p P.n P.c):=by
    rw[(Cc hbel).1 _ _ hb];exact hc k P hP
   have htk:Aa (whole (L.take (k+1))=whole (L.take k)++P.bs):=⟨by rw[List.take_add_one,hP];exact Ip _ _⟩
   have HOK:Aa (Av wr P):=⟨hok⟩
   have HNE:Aa (0<P.n->∀q,P.p=some q->q.block≠g):=⟨hblt⟩
   clear hc hP hok hblt;obtain⟨pp,pn,pc,pb⟩:=P
   dsimp only at *
   go_wp2_with fail
   refine(El wr g _ pp pn pc pb hTr hash (by omega) HOK.out.row HOK.out.bytes HNE.out).mono ?_;rintro e w2 ⟨rfl,hb2,hh2⟩;rw[<- htk.out]at hh2
   have hz:w.heap.size<=wr.heap.size:=hbel.size;have hbel2:=hbel.trans (hb2.below hg hz);go_wp2;go_roundw
   case rel=>exact⟨k+1,by omega,by go_num,hbel2,hh2⟩
   case measure=>simp[intOf];omega
  .obtain rfl:k=n:=by omega
   rw[List.take_of_length_le (by have:=Ca.out;omega)]at hash
   have hz:w.heap.size<=wr.heap.size:=hbel.size
   go_wp2_with fail
   refine(Kz wr g _ hTr hash).mono ?_;rintro e w3 ⟨q,rfl,hq,hb3,hk3⟩;go_wp2;go_ret;exact⟨q,rfl,by omega,hbel.trans (hb3.mono hz),hk3⟩
theorem mJ (w:World)(P:Cs)(hP:Av w P):Bw (w.alloc (.cells #[.slice P.p P.n P.c] 60)) (some ⟨w.heap.size,0,none⟩) 1 1 [P]:=by
 have hb:Below w.heap.size w (w.alloc (.cells #[.slice P.p P.n P.c] 60)):=Cb;have hn:=heap_alloc_new w (.cells #[.slice P.p P.n P.c] 60);refine⟨rfl,Nat.le_refl _,by omega,fun i X hX=>?_,fun _=>⟨w.heap.size,0,rfl,by simp,fun i X hX=>?_⟩⟩
 .match i,hX with
  | 0,h=>cases h;exact hP.below hb
 .match i,hX with
  | 0,h=>cases h;unfold World.cell?;dsimp only;rw[hn];rfl
theorem Vp (P:Cs):whole [P]=P.bs:=by simp[whole]
theorem rY (w:World)(P Q R:Cs)(hP:Av w P)(hQ:Av w Q)(hR:Av w R):Bw (w.alloc (.cells #[.slice P.p P.n P.c,.slice Q.p Q.n Q.c,.slice R.p R.n R.c] 60)) (some ⟨w.heap.size,0,none⟩) 3 3 [P,Q,R]:=by
 have hb:Below w.heap.size w (w.alloc (.cells #[.slice P.p P.n P.c,.slice Q.p Q.n Q.c,.slice R.p R.n R.c] 60)):=Cb;have hn:=heap_alloc_new w (.cells #[.slice P.p P.n P.c,.slice Q.p Q.n Q.c,.slice R.p R.n R.c] 60);refine⟨rfl,Nat.le_refl _,by omega,fun i X hX=>?_,fun _=>⟨w.heap.size,0,rfl,by simp,fun i X hX=>?_⟩⟩
 .match i,hX with
  | 0,h=>cases h;exact hP.below hb
  | 1,h=>cases h;exact hQ.below hb
  | 2,h=>cases h;exact hR.below hb
 .match i,hX with
  | 0,h=>cases h;unfold World.cell?;dsimp only;rw[hn];rfl
  | 1,h=>cases h;unfold World.cell?;dsimp only;rw[hn];rfl
  | 2,h=>cases h;unfold World.cell?;dsimp only;rw[hn];rfl
open Go Go.RowKit Go.Proofs.YthgoeiegdhphjaaGreatDoor.Flow
structure Yz (w:World) (g:Nat) (H:List Nat):Prop where
 k:w.heap[g]? = some (.cells (Ep Dp) 232 (0,0))
 h:w.heap[g+1]? = some (.cells (Ep H) 233 (0,0))
theorem Yz.lt {w:World}{g:Nat}{H:List Nat}(h:Yz w g H):g+1<w.heap.size:=(Array.getElem?_eq_some_iff.1 h.h).1
theorem Yz.below {w w':World}{g:Nat}{H:List Nat}(h:Yz w g H){B:Nat}(hb:Below B w w')(hg:g+1<B):Yz w' g H:=⟨(hb.block g (by omega)).trans h.k,(hb.block (g+1) hg).trans h.h⟩
structure SG (w0:World) (g:Nat) (H H':List Nat) (d7 d8:Bool) (w':World):Prop where
 but:Da (g+1) w0 w'
 k:w'.heap[g]? = some (.cells (Ep Dp) 232 (0,0))
 ord:d8=true->d7=true
 old:d8=false->w'.heap[g+1]? = some (.cells (Ep H) 233 (0,0))
 new:d8=true->w'.heap[g+1]? = some (.cells (Ep H') 233 (0,0))
theorem SG.open {w0 w':World}{g:Nat}{H H':List Nat}{d8:Bool}(h:SG w0 g H H' false d8 w'):d8=false:=by
 cases d8 with
 | false=>rfl
 | true=>exact absurd (h.ord rfl) (by simp)
theorem qG {w:World}{g:Nat}{l:List Nat}(hl:l.length=8)(h:w.heap[g]? = some (.cells (Ep l) 233 (0,0))):(loadVar 233 ⟨g,0,none⟩).run Tryz.prog w=.ok (.agg (Ep l)) w :=
 run_loadVar_row w g 233 233 _ (0,0) _ h Tryz.underlying233 rfl (Nf hl)
theorem mV {w:World}{g:Nat}{l:List Nat}(hl:l.length=64)(h:w.heap[g]? = some (.cells (Ep l) 232 (0,0))):(loadVar 232 ⟨g,0,none⟩).run Tryz.prog w=.ok (.agg (Ep l)) w :=
 run_loadVar_row w g 232 232 _ (0,0) _ h Tryz.underlying232 rfl (Tt hl)
theorem lF {w:World}{g:Nat}{l l':List Nat}(hl:l.length=8)(hl':l'.length=8)(h:w.heap[g]? = some (.cells (Ep l) 233 (0,0))):(storeVar 233 ⟨g,0,none⟩ (.agg (Ep l'))).run Tryz.prog w=.ok () (w.setRow g (Ep l')) :=
 run_storeVar_row w g 233 233 (Ep l) (Ep l') h (Nf hl') (by rw[Jz,Jz,hl,hl']) (Mw l')
theorem lK (w:World)(b off k N c:Nat)(h1:64*k+64<=N)(h2:N<=c) :
  (Instr.sliceAt 60 (.slice (some ⟨b,off,none⟩) N c) (some (.int .i64 (64*(k:Int)))) (some (.int .i64 (64*(k:Int)+64))) none).run Tryz.prog w=.ok (.slice (some ⟨b,off+64*k,none⟩) 64 (c-64*k)) w:=by
 have hel:Tryz.prog.elem 60 = 5 := by kernel_rfl
 have hu:Tryz.prog.underlying 60 = some (.slice (Tryz.prog.elem 60)):=by rw[hel];exact Tryz.underlying60
 rw[run_sliceAt_slice w 60 _ _ _ _ hu,run_slice_lh w 60 _ _ _ hu .i64 .i64 _ _ (by omega) (by omega) (by omega)];have hs:(sizeOf (Tryz.prog.elem 60)).run Tryz.prog w=.ok 1 w:=by rw[hel];simp[go_sem]
 rw[hs];simp only[Result.andThen_ok,sliced];rw[if_neg (by omega)]
 congr 1
 rw[Option.map_some,Ef]
 congr 1
 .congr 2;omega
 .omega
theorem sZ (a b c d e f g h k:Nat)(hk:k<8)(w:World) :
  (Instr.index 233 (.agg #[Value.int .u32 (a:Nat),Value.int .u32 (b:Nat),Value.int .u32 (c:Nat),Value.int .u32 (d:Nat),Value.int .u32 (e:Nat),Value.int .u32 (f:Nat),Value.int .u32 (g:Nat),Value.int .u32 (h:Nat)]) (.int .i64 (k:Nat))).run Tryz.prog w =
   .ok (.int .u32 ([a,b,c,d,e,f,g,h].getD k 0:Nat)) w:=by
 rcases(by omega:k=0 ∨ k=1 ∨ k=2 ∨ k=3 ∨ k=4 ∨ k=5 ∨ k=6 ∨ k=7) with rfl|rfl|rfl|rfl|rfl|rfl|rfl|rfl<;>kernel_rfl
theorem sC (l:List Nat)(hl:l.length=8)(k:Nat)(hk:k<8)(w:World):(Instr.index 233 (.agg (Ep l)) (.int .i64 k)).run Tryz.prog w=.ok (.int .u32 (l.getD k 0:Nat)) w:=by
 match l,hl with
 | [a,b,c,d,e,f,g,h],_=>exact sZ a b c d e f g h k hk w
theorem Pe {n j:Nat}(hj:j<=Bj n):(n+1+j)%64=56 ↔ j=Bj n:=by
 unfold Bj at *;omega
theorem Xo (w:World)(p:Option Addr)(n c:Nat)(xs:List Nat)(hr:Bk w .u8 p n c xs)(h8:Az xs)(hz:p=none->c=0)(hn:n<=1000000) :
  Calls Tryz.prog 160 #[.slice p n c] w (Uq (Lq xs) w):=by
 have HR:Aa (Bk w .u8 p n c xs):=⟨hr⟩
 have HL:Aa (n=xs.length):=⟨hr.len⟩
 have H8:Aa (Az xs):=⟨h8⟩
 have HZ:Aa (p=none->c=0):=⟨hz⟩
 have hI64:=Ac (Tt Fc);have hI8:=Ac (Nf Pi);clear hr h8 hz;go_enter Tryz.func160,Tryz.ntmps160
 go_wp2_with fail
 refine(Zm w).mono ?_;rintro e w1 ⟨rfl,hb1⟩;have hG0:Aa (((w1.alloc (.cells (zeros .u32 64) 232)).alloc (.cells (zeros .u32 8) 233)).heap[w1.heap.size]? = some (.cells (zeros .u32 64) 232 (0,0))):=⟨heap_alloc2_old w1 _ _⟩
 have hG1:Aa (((w1.alloc (.cells (zeros .u32 64) 232)).alloc (.cells (zeros .u32 8) 233)).heap[w1.heap.size+1]? = some (.cells (zeros .u32 8) 233 (0,0))):=⟨heap_alloc2_new w1 _ _⟩
 have hW:Aa (Below w.heap.size w ((w1.alloc (.cells (zeros .u32 64) 232)).alloc (.cells (zeros .u32 8) 233))):=⟨Ed hb1 (((Below.refl _ _).alloc (Nat.le_refl _) _).alloc (by simp) _)⟩
 have hz1:=hb1.size
 go_wp2_with (first
  | (refine wpList_store_row rfl 232 _ _ rfl w1.heap.size (Ep Dp) rfl rfl 232 (zeros .u32 64) hG0.out hI64.out rfl (Mw Dp) ?_)
  | (refine wpList_store_row rfl 233 _ _ rfl (w1.heap.size+1) (Ep Dy) rfl rfl 233 (zeros .u32 8) ((setRow_other _ w1.heap.size (w1.heap.size+1) _ (by omega)).trans hG1.out) hI8.out rfl (Mw Dy) ?_;refine Gb.out ?_))
 refine⟨?_⟩;refine gL (w':=(((w1.alloc (.cells (zeros .u32 64) 232)).alloc (.cells (zeros .u32 8) 233)).setRow w1.heap.size (Ep Dp)).setRow (w1.heap.size+1) (Ep Dy)) (by kernel_rfl) ?_;have o1:=(setRow_other _ w1.heap.size (w1.heap.size+1) (Ep Dp) (by omega)).trans hG1.out;have k1:=setRow_heap _ w1.heap.size (zeros .u32 64) (Ep Dp) 232 (0,0) hG0.out;have k2:=(setRow_other _ (w1.heap.size+1) w1.heap.size (Ep Dy) (by omega)).trans k1;have k3:=setRow_heap _ (w1.heap.size+1) (zeros .u32 8) (Ep Dy) 233 (0,0) o1;have hb2:=below_setRow (below_setRow hW.out hz1 (Ep Dp)) (show w.heap.size<=w1.heap.size+1 by omega) (Ep Dy);generalize hw2:World.setRow (World.setRow _ _ _) _ _=w2 at *;have HSB:Aa (Yz w2 w1.heap.size Dy):=⟨⟨k2,k3⟩⟩
 have HB2:Aa (Below w.heap.size w w2):=⟨hb2⟩
 have hgw:w1.heap.size+1<w2.heap.size:=HSB.out.lt;obtain⟨G,hG⟩:∃G,w1.heap.size=G:=⟨_,rfl⟩
 rw[hG]at HSB hgw hz1
 simp only[hG];clear o1 k1 k2 k3 hb2 hw2 hG0 hG1 hW hb1 hG hI64 hI8;have hrow0:Aa (Bk (w2.alloc (.cells #[] 5)) .u8 p n c xs):=⟨HR.out.below (HB2.out.trans (((Below.refl _ _).alloc (Nat.le_refl _) _).mono HB2.out.size))⟩
 have hbd:Below w2.heap.size w2 (w2.alloc (.cells #[] 5)):=Cb;have HO0:Aa (Gq (w2.alloc (.cells #[] 5)) w2.heap.size (.slice (some ⟨w2.heap.size,0,none⟩) 0 0) []):=⟨Gq.lit w2 [] (by decide)⟩
 have hmx:Aa (([]:List Nat).length+n<=140737488355328):=⟨by simp;omega⟩
 have hsz3:w2.heap.size<=(w2.alloc (.cells #[] 5)).heap.size:=hbd.size
 go_wp2_with (at_builtin;refine Ds rfl _ _ rfl rfl HO0.out rfl hrow0.out HZ.out hmx.out hsz3 ?_;intro v1 w3 ho1 hg1;refine Gb.out ?_)
 refine⟨?_⟩;rw[List.nil_append]at ho1
 have hb3:Below w2.heap.size w2 w3:=hbd.trans (Di hg1 hsz3 (fun b hb=>by cases hb;exact Nat.le_refl _));clear hg1 hrow0 hbd hmx hsz3 HR HZ;obtain⟨q1,c1,rfl,r1,_,z1,_⟩:=ho1.elim;have HN:Aa (Bj xs.length=Bj n/\xs.length=n):=⟨by rw[HL.out],HL.out.symm⟩
 have hM:((xs.length:Int)*8)%18446744073709551616=((n*8:Nat):Int):=by have:=HL.out;omega
 have hM':IntKind.u64.wrap ((xs.length:Int)*8)=((n*8:Nat):Int):=hM;have HO1:Aa (Gq w3 w2.heap.size (.slice q1 xs.length c1) xs):=⟨ho1⟩
 clear ho1 r1 z1;have hl:xs.length<=1000000:=by have:=HL.out;omega
 have hsz3:=hb3.size;have hb4:Below w3.heap.size w3 (w3.alloc (.cells #[.int .u8 128] 5)):=Cb;have HO2:Aa (Gq (w3.alloc (.cells #[.int .u8 128] 5)) w2.heap.size (.slice q1 xs.length c1) xs):=⟨HO1.out.belowS hb4⟩
 have hrow:Aa (Bk (w3.alloc (.cells #[.int .u8 128] 5)) .u8 (some ⟨w3.heap.size,0,none⟩) 1 1 [128]):=⟨Kx w3 [128] (by decide)⟩
 have hsz4:w2.heap.size<=(w3.alloc (.cells #[.int .u8 128] 5)).heap.size:=Nat.le_trans hsz3 hb4.size
 go_wp2_with (at_builtin;refine Ds rfl _ _ rfl rfl HO2.out rfl hrow.out (fun h=>by cases h) (by omega) hsz4 ?_;intro v2 w4 ho2 hg2;refine Gb.out ?_)
 refine⟨?_⟩;have hb5:Below w2.heap.size w2 w4:=(hb3.trans (hb4.mono hsz3)).trans (Di hg2 hsz4 HO2.out.ge);clear hg2 hb4 HO1 HO2 hrow hsz4 hsz3 hb3;have HX:Aa (w2.heap.size<=w4.heap.size):=⟨hb5.size⟩
 go_wp2
 go_loopw [5] (fun x wr=>∃(j:Nat) (v:Value),j<=Bj n/\v=x/\Aa (Gq wr w2.heap.size v (xs++128::List.replicate j 0))/\Aa (Below w2.heap.size w2 wr)) (fun x _=>n+1+Bj n-(match x with | .slice _ l _=>l|_=>0))
 case atStart=>exact⟨0,v2,by omega,rfl,⟨ho2⟩,⟨hb5⟩⟩
 case round =>
  obtain⟨j,v,hj,rfl,HOW,HBE⟩:=hrel;obtain⟨q,c5,rfl,_,_,_,_⟩:=HOW.out.elim;obtain⟨L,hL⟩:∃L,(xs++128::List.replicate j 0).length=L:=⟨_,rfl⟩
  have hLn:L=n+1+j:=by rw[<- hL];simp;have:=HL.out;omega
  have hnn:Bj n<64:=by unfold Bj;omega
  rw[hL]at HOW ⊢
  have HLe:Aa ((xs++128::List.replicate j 0).length=L):=⟨hL⟩
  clear hL;have hsz:=HBE.out.size
  by_cases hjn:j=Bj n
  .have ht:(L:Int)%64=56:=by have:=(Pe (n:=n) hj).2 hjn;omega
   have ht':(L:Int).tmod 64=56:=by rw[Int.tmod_eq_emod_of_nonneg (by omega)];exact ht
   have hw4:=HX.out;have HP:Aa (xs++128::List.replicate j 0=xs++128::(List.replicate (Bj n) 0++(Zg (n*8)).take 0)):=⟨by rw[hjn,List.take_zero,List.append_nil]⟩
   have HLn:Aa (L=n+1+j):=⟨hLn⟩
   clear hLn;go_wp2
   go_loopw [5,7] (fun x i wr=>∃v:Value,v=x/\Aa (Below w2.heap.size w2 wr)/\((∃k d:Nat,k+d=7/\i=.int .i64 d/\Aa (Gq wr w2.heap.size v (xs++128::(List.replicate (Bj n) 0++(Zg (n*8)).take k)))) ∨ (i=.int .i64 (-1)/\Aa (Gq wr w2.heap.size v (xs++128::(List.replicate (Bj n) 0++(Zg (n*8)).take 8)))))) (fun _ i _=>(intOf i+1).toNat)
   case atStart=>exact⟨_,rfl,HBE,.inl ⟨0,7,rfl,rfl,⟨by rw[<- HP.out];exact HOW.out⟩⟩⟩
   case round =>
    obtain⟨v,rfl,HBE2,hor⟩:=hrel;have hsz2:=HBE2.out.size;rcases hor with ⟨k,d,hkd,rfl,HOW2⟩|⟨rfl,HOW2⟩
    .obtain⟨b,hb⟩:∃b,n*8/2^(8*d)%256=b:=⟨_,rfl⟩
     have hv:(n:Int)*8/2^(8*d)%256=(b:Int):=by
      rw[<- hb,Int.natCast_emod,Int.natCast_ediv,Int.natCast_pow,Int.natCast_mul];rfl
     have hb256:b<256:=by omega
     have HE:Aa ((xs++128::(List.replicate (Bj n) 0++(Zg (n*8)).take k))++[b]=xs++128::(List.replicate (Bj n) 0++(Zg (n*8)).take (k+1))):=⟨by
      have h1:(Zg (n*8))[k]? = some b:=by
       unfold Zg;rw[List.getElem?_map,List.getElem?_range (by omega),Option.map_some,show 7-k=d by omega,hb]
      rw[List.take_add_one,h1,List.append_assoc,List.cons_append,List.append_assoc];rfl⟩
     have HLk:Aa ((xs++128::(List.replicate (Bj n) 0++(Zg (n*8)).take k)).length<=n+80):=⟨by simp[Jc];have:=HL.out;omega⟩
     obtain⟨Y,hY⟩:∃Y,xs++128::(List.replicate (Bj n) 0++(Zg (n*8)).take k)=Y:=⟨_,rfl⟩
     rw[hY]at HOW2 HE HLk
     clear hY hb;obtain⟨q2,c2,rfl,_,_,_,_⟩:=HOW2.out.elim;have hb6:Below wr.heap.size wr (wr.alloc (.cells #[.int .u8 b] 5)):=Cb;have HO3:Aa (Gq (wr.alloc (.cells #[.int .u8 b] 5)) w2.heap.size (.slice q2 Y.length c2) Y):=⟨HOW2.out.belowS hb6⟩
     have hrow:Aa (Bk (wr.alloc (.cells #[.int .u8 b] 5)) .u8 (some ⟨wr.heap.size,0,none⟩) 1 1 [b]):=⟨Kx wr [b] (show 1<=9223372036854775807 by decide)⟩
     have hsz6:w2.heap.size<=(wr.alloc (.cells #[.int .u8 b] 5)).heap.size:=Nat.le_trans hsz2 hb6.size;have hmx:Aa (Y.length+1<=140737488355328):=⟨by have:=HLk.out;omega⟩
     have HB6:Aa (Below w2.heap.size w2 (wr.alloc (.cells #[.int .u8 b] 5))):=⟨HBE2.out.trans (hb6.mono hsz2)⟩
     have a8:(8*(d:Int)).toNat=8*d:=by omega
     have d7:d<=7:=by omega
     clear hb6
     go_wp2_with (at_builtin;refine Ds rfl _ _ rfl rfl HO3.out rfl hrow.out (fun h=>by cases h) hmx.out hsz6 ?_;intro v3 w6 ho3 hg3;refine Gb.out ?_)
     refine⟨?_⟩;have hb7:=Di hg3 hsz6 HO3.out.ge;rw[HE.out]at ho3
     have HO4:=Ac ho3;have HB7:=Ac (HB6.out.trans hb7);clear hg3 ho3 hb7 HB6 HO3 hrow;go_wp2;go_roundw
     case rel =>
      refine⟨_,rfl,HB7,?_⟩;rcases Nat.eq_zero_or_pos d with rfl|hd
      .obtain rfl:k=7:=by omega
       exact .inr ⟨rfl,HO4⟩
      .exact .inl ⟨k+1,d-1,by omega,(show Value.int .i64 ((d:Int)-1)=.int .i64 ((d-1:Nat):Int) from congrArg (Value.int .i64) (by omega)),HO4⟩
     case measure=>simp[intOf]
    .have HMM:Aa (xs++128::(List.replicate (Bj n) 0++(Zg (n*8)).take 8)=xs++Bb xs.length):=⟨by
      unfold Bb;rw[HN.out.1,HN.out.2,List.take_of_length_le (by rw[Jc];exact Nat.le_refl _),Nat.mod_eq_of_lt (show n*8<18446744073709551616 by omega)]⟩
     rw[HMM.out]at HOW2
     have hall:=fI xs.length;obtain⟨K,hK⟩:∃K,(xs.length+(Bb xs.length).length)/64=K:=⟨_,rfl⟩
     have hml:(xs++Bb xs.length).length=64*K:=by rw[List.length_append];omega
     have hK0:0<K:=by have:=Hj xs.length;omega
     have hKb:K<=100000:=by
      have h1:=Hj xs.length;have h2:Bj xs.length<64:=by unfold Bj;omega
      omega
     have H8m:Aa (Az (xs++Bb xs.length)):=⟨fun x hx=>by
      rcases List.mem_append.1 hx with h|h
      .exact H8.out x h
      .exact Pv _ x h⟩
     have HSha:Aa (Lq xs=(Cg (xs++Bb xs.length) K).flatMap Fl):=⟨by unfold Lq;rw[hK]⟩
     obtain⟨mm,hmm⟩:∃mm,xs++Bb xs.length=mm:=⟨_,rfl⟩
     rw[hmm]at HOW2 hml H8m HSha
     clear hmm hall HMM;obtain⟨q3,c7,rfl,hr7,hn7,_,_⟩:=HOW2.out.elim;obtain⟨b,off,rfl,hbl,Br⟩:=(hr7.row (by omega)).pos (by omega);have hbge:w2.heap.size<=b:=hn7 _ rfl;have hcap7:=hr7.cap;have hmax7:=hr7.max;rw[hml]at hcap7 ⊢
     have HCell:Aa (∀w',Da (G+1) wr w'->∀(i x:Nat),mm[i]? = some x->w'.cell? ⟨b,off+i,none⟩=some (.int .u8 (x:Int))):=⟨fun w' hb i x hx=>by
      rw[hb.cell (p:=⟨b,off+i,none⟩) hbl (by show b≠G+1;omega)];exact Br i x hx⟩
     have HS0:Aa (Yz wr G (Cg mm 0)):=⟨HSB.out.below HBE2.out hgw⟩
     have HML:Aa (mm.length=64*K):=⟨hml⟩
     clear hr7 hn7 Br HOW2 hml hK;have HB8:Aa (Below w2.heap.size w2 wr):=HBE2;go_wp2
     go_loopw [8] (fun i w'=>∃k:Nat,k<=K/\i=.int .i64 ((64*k:Nat):Int)/\Aa (Da (G+1) wr w')/\Aa (Yz w' G (Cg mm k))) (fun i _=>64*K-(intOf i).toNat)
     case atStart=>exact⟨0,by omega,rfl,⟨Da.refl _ _⟩,HS0⟩
     case round =>
      obtain⟨k,hk,rfl,HBut,HSk⟩:=hrel
      by_cases hkK:k<K
      .have hlt:64*k<64*K:=by omega
       have hlt':((64*k:Nat):Int)<((64*K:Nat):Int):=by omega
       have hgl:G+1<wr.heap.size:=HSk.out.lt;obtain⟨Hk,hHk⟩:∃H,Cg mm k=H:=⟨_,rfl⟩
       obtain⟨Hn,hHn⟩:∃H,Cg mm (k+1)=H:=⟨_,rfl⟩
       have HHk:Aa (Hk.length=8/\Au Hk/\Hn.length=8):=⟨by rw[<- hHk,<- hHn];exact⟨Cu mm k,Ih mm k,Cu mm (k+1)⟩⟩
       have HStep:Aa (Ql Hk ((mm.drop (64*k)).take 64)=Hn):=⟨by rw[<- hHn,<- hHk];rfl⟩
       rw[hHk]at HSk
       have HPl:Aa (((mm.drop (64*k)).take 64).length=64):=⟨by simp;have:=HML.out;omega⟩
       have HNx:Aa (Cg mm (k+1)=Hn):=⟨hHn⟩
       clear hHk hHn;go_wp2;refine Ai (by kernel_rfl) (by kernel_rfl)
        [some (.agg (Ep Hk)),some (.slice (some ⟨b,off,none⟩) (64*K) c7),some (.int .i64 ((64*k:Nat):Int)),some (.int .i64 ((64*k:Nat):Int)),some (.int .i64 ((64*k:Nat)+64:Int)),some (.slice (some ⟨b,off+64*k,none⟩) 64 (c7-64*k)),some (.agg (Ep Dp)),none,none]
        [false,false,false,false,false,false,false,true,true] rfl
        (fun w1 w2=>Da (G+1) w1 w2) (fun D w'=>SG wr G Hk Hn (D 7) (D 8) w')
        (fun i v w'=>match i with
         | 7=>v=.agg (Ep Hn)
         | _=>True)
        ?_ ⟨Da.drew (Da.refl _ _),HSk.out.k,(fun e=>by cases e),(fun _=>HSk.out.h),fun e=>by cases e⟩ ?_ ?_
       .intro i v w1 w2 hf hb;split at hf
        .exact hf
        .trivial
       .simp only[Bf,Nat.reduceAdd];refine⟨?_,?_,?_,?_,?_,?_,?_,?_,?_,trivial⟩
        case refine_1 =>
         intro D sp w' hD hW hdp hG;have h7:D 7=false:=hW 7 (mq (by kernel_rfl));rw[h7]at hG
         have hk8:=qG HHk.out.1 (hG.old hG.open)
         (with_reducible refine Ag (v:=.agg (Ep Hk)) (w1:=w') ?_ ?_ ⟨rfl,rfl⟩)
         .simp[Region.wanted,go_sem]
         .simp[execOp,Act.eval,Instr.loadAt,Instr.sureAddr,Result.andThen_ok,hk8]
        case refine_6 =>
         intro D sp w' hD hW hdp hG;have hsl:=lK w' b off k (64*K) c7 (by omega) hcap7
         (with_reducible refine Ag (v:=.slice (some ⟨b,off+64*k,none⟩) 64 (c7-64*k)) (w1:=w') ?_ ?_ ⟨rfl,rfl⟩)
         .simp[Region.wanted,go_sem]
         .simp[execOp,Act.eval,Act.put,hsl,Result.andThen_ok]
        case refine_7 =>
         intro D sp w' hD hW hdp hG;have hk8:=mV Fc hG.k
         (with_reducible refine Ag (v:=.agg (Ep Dp)) (w1:=w') ?_ ?_ ⟨rfl,rfl⟩)
         .simp[Region.wanted,go_sem]
         .simp[execOp,Act.eval,Act.put,Instr.loadAt,Instr.sureAddr,Result.andThen_ok,hk8]
        case refine_8 =>
         intro D sp w' hD hW hdp hG;have h8:D 8=false:=hW 8 (mq (by kernel_rfl));have hcl:=HCell.out w' (HBut.out.trans hG.but);have hbw:b<w'.heap.size:=Nat.lt_of_lt_of_le (Nat.lt_of_lt_of_le hbl HBut.out.size) hG.but.size
         (with_reducible refine Ab (w1:=w') (f := 198) (args:=#[.agg (Ep Hk),.slice (some ⟨b,off+64*k,none⟩) 64 (c7-64*k),.agg (Ep Dp)]) ?_ ?_ ?_)
         .simp[Region.wanted,go_sem]
         .simp[Act.eval,Act.put,go_sem]
         .refine(Tc w' Hk ((mm.drop (64*k)).take 64) b (off+64*k) (c7-64*k) HHk.out.1 HHk.out.2.1 HPl.out (fun x hx=>H8m.out x (List.mem_of_mem_drop (List.mem_of_mem_take hx))) hbw (by omega) (by omega) (fun i x hx=>?_)).mono ?_
          .rw[Nat.add_assoc];refine hcl (64*k+i) x ?_;rw[List.getElem?_take]at hx
           split at hx
           .rw[List.getElem?_drop]at hx;exact hx
           .cases hx
          .rintro e w5 ⟨rfl,hb⟩;rw[HStep.out];refine⟨_,rfl,Da.of hb,rfl,hG.but.trans (Da.of hb),?_,(fun e=>?_),(fun _=>?_),fun e=>?_⟩
           .have hx:=hG.k;rw[hb.block G (Array.getElem?_eq_some_iff.1 hx).1];exact hx
           .simp[h8]at e
           .have hx:=hG.old h8;rw[hb.block (G+1) (Array.getElem?_eq_some_iff.1 hx).1];exact hx
           .simp[h8]at e
        case refine_9 =>
         intro D sp w' hD hW hdp hG;have h7:=(hdp 7 (mq (by kernel_rfl))).1;have hv:sp 7=.agg (Ep Hn):=(hdp 7 (mq (by kernel_rfl))).2;have hst:=lF HHk.out.1 HHk.out.2.2 (hG.old hD);have hb5:Da (G+1) w' (w'.setRow (G+1) (Ep Hn)):=Da.setRow _ _
         (with_reducible refine Ap (w1:=w'.setRow (G+1) (Ep Hn)) ?_ ?_ ?_)
         .simp[Region.wanted,go_sem]
         .simp[execOp,Act.eval,Act.put,hv,Instr.storeAt,Instr.sureAddr,Result.andThen_ok,hst]
         .exact⟨hb5,trivial,hG.but.trans hb5,(setRow_other _ (G+1) G _ (by omega)).trans hG.k,(fun _=>by simp[h7]),(fun e=>by simp at e),fun _=>setRow_heap _ _ _ _ _ _ (hG.old hD)⟩
        all_goals
         intro D sp w' hD hW hdp hG;have hwr:IntKind.i64.wrap (64*(k:Int)+64)=64*(k:Int)+64:=IntWalk.i64_in _ (by omega);simp[Ba,Region.wanted,Oper.gives,execOp,Act.eval,Act.put,go_sem,hwr]
       .intro sp w5 hsp hG;have HB9:Aa (Da (G+1) wr w5):=⟨hG.but⟩
        have HS9:Aa (Yz w5 G (Cg mm (k+1))):=⟨⟨hG.k,by rw[HNx.out];exact hG.new rfl⟩⟩
        clear hsp hG;simp only[An,Nat.reduceAdd];generalize sp 7=u7';generalize sp 8=u8';have HB10:=Ac (HBut.out.trans HB9.out);clear HB9 HBut;go_wp2;go_roundw
        case rel=>exact⟨k+1,by omega,(show Value.int .i64 (((64*k:Nat):Int)+64)=.int .i64 ((64*(k+1):Nat):Int) from congrArg (Value.int .i64) (by omega)),HB10,HS9⟩
        case measure=>simp[intOf];omega
      .obtain rfl:k=K:=by omega
       obtain⟨Hf,hHf⟩:∃H,Cg mm k=H:=⟨_,rfl⟩
       rw[hHf]at HSk HSha
       have HHf:Aa (Hf.length=8/\Au Hf):=⟨by rw[<- hHf];exact⟨Cu mm k,Ih mm k⟩⟩
       have hbw8:Below w.heap.size w w2:=HB2.out;have HW8:=(hbw8.trans (HB8.out.mono hbw8.size)).trans (HBut.out.below (show w.heap.size<=G+1 by omega) (Nat.le_trans hbw8.size HB8.out.size));clear hHf hbw8 HB8 HBut HCell HML H8m HS0;have hwz:=HW8.size;have HC8:Aa ((World.alloc _ (.cells #[] 5)).heap[G+1]? = some (.cells (Ep Hf) 233 (0,0))):=⟨(heap_alloc_old _ _ (r:=G+1) HSk.out.lt).trans HSk.out.h⟩
       have HOwn:=(Gq.lit _ [] (by decide)).mono hwz;have HBn:=Ed HW8 ((Below.refl _ _).alloc (Nat.le_refl _) (.cells #[] 5));have HO8:=Ac HOwn;have HB8:=Ac HBn;have HI8:=Ac (Nf HHf.out.1);clear HOwn HBn HW8
       go_wp2_with (refine wpList_load_row rfl 233 _ rfl (G+1) rfl 233 (Ep Hf) (0,0) _ HC8.out Tryz.underlying233 rfl HI8.out ?_)
       go_loopw [9,62] (fun x i w'=>∃(k:Nat) (v:Value),k<=8/\i=.int .i64 k/\v=x/\Aa (Gq w' w.heap.size v ((Hf.take k).flatMap Fl))/\Aa (Below w.heap.size w w')) (fun _ i _=>8-(intOf i).toNat)
       case atStart=>exact⟨0,_,by omega,rfl,rfl,HO8,HB8⟩
       case round =>
        obtain⟨j,v,hj,rfl,rfl,HOj,HBj⟩:=hrel;have hszj:=HBj.out.size
        by_cases hj8:j<8
        .obtain⟨x,hx⟩:∃x,Hf.getD j 0=x:=⟨_,rfl⟩
         have hx32:x<4294967296:=by rw[<- hx];exact HHf.out.2.get j
         have hidx:∀wx:World,(Instr.index 233 (.agg (Ep Hf)) (.int .i64 j)).run Tryz.prog wx=.ok (.int .u32 (x:Nat)) wx:=fun wx=>by rw[<- hx];exact sC Hf HHf.out.1 j hj8 wx
         obtain⟨b0,hb0⟩:∃v,x/16777216%256=v:=⟨_,rfl⟩
         obtain⟨b1,hb1⟩:∃v,x/65536%256=v:=⟨_,rfl⟩
         obtain⟨b2,hb2⟩:∃v,x/256%256=v:=⟨_,rfl⟩
         obtain⟨b3,hb3⟩:∃v,x%256=v:=⟨_,rfl⟩
         have HE:Aa ((Hf.take j).flatMap Fl++[b0,b1,b2,b3]=(Hf.take (j+1)).flatMap Fl):=⟨by
          rw[Gk Hf j (by rw[HHf.out.1];exact hj8),hx,List.flatMap_append,<- hb0,<- hb1,<- hb2,<- hb3];rfl⟩
         have e0:(x:Int)/16777216=(b0:Int):=by omega
         have e1:(x:Int)/65536%256=(b1:Int):=by omega
         have e2:(x:Int)/256%256=(b2:Int):=by omega
         have e3:(x:Int)%256=(b3:Int):=by omega
         have l0:b0<256:=by omega
         have e0':(b0:Int)%256=(b0:Int):=by omega
         have HLj:Aa (((Hf.take j).flatMap Fl).length+4<=140737488355328):=⟨by
          rw[Jp];have:=List.length_take_le j Hf;have:=HHf.out.1;simp;omega⟩
         clear hx hb0 hb1 hb2 hb3;have hb6:∀wr:World,Below wr.heap.size wr (wr.alloc (.cells #[.int .u8 b0,.int .u8 b1,.int .u8 b2,.int .u8 b3] 5)):=fun wr=>(Below.refl _ _).alloc (Nat.le_refl _) _
         have HO3:Aa (Gq (wr.alloc (.cells #[.int .u8 b0,.int .u8 b1,.int .u8 b2,.int .u8 b3] 5)) w.heap.size v ((Hf.take j).flatMap Fl)):=⟨HOj.out.belowS (hb6 wr)⟩
         have hrow:Aa (Bk (wr.alloc (.cells #[.int .u8 b0,.int .u8 b1,.int .u8 b2,.int .u8 b3] 5)) .u8 (some ⟨wr.heap.size,0,none⟩) 4 4 [b0,b1,b2,b3]):=⟨Kx wr [b0,b1,b2,b3] (show 4<=9223372036854775807 by decide)⟩
         have hsz6:w.heap.size<=(wr.alloc (.cells #[.int .u8 b0,.int .u8 b1,.int .u8 b2,.int .u8 b3] 5)).heap.size:=Nat.le_trans hszj (hb6 wr).size;have HB6:Aa (Below w.heap.size w (wr.alloc (.cells #[.int .u8 b0,.int .u8 b1,.int .u8 b2,.int .u8 b3] 5))):=⟨Ed HBj.out (hb6 wr)⟩
         clear hb6
         go_wp2_with (at_builtin;refine Ds rfl _ _ rfl rfl HO3.out rfl hrow.out (fun h=>by cases h) HLj.out hsz6 ?_;intro v3 w6 ho3 hg3;refine Gb.out ?_)
         refine⟨?_⟩;have hb7:=Di hg3 hsz6 HO3.out.ge;rw[HE.out]at ho3
         have HO4:=Ac ho3;have HB7:=Ac (HB6.out.trans hb7);clear hg3 ho3 hb7 HB6 HO3 hrow e0 e1 e2 e3 e0';go_wp2;go_roundw
         case rel=>exact⟨j+1,_,by omega,by go_num,rfl,HO4,HB7⟩
         case measure=>simp[intOf];omega
        .obtain rfl:j=8:=by omega
         have HFin:=HOj.out;rw[List.take_of_length_le (by rw[HHf.out.1];exact Nat.le_refl _),<- HSha.out]at HFin
         have HF:=Ac HFin;clear HFin HOj;go_wp2;go_ret;exact⟨_,rfl,De.mk HF.out,HBj.out⟩
  .have hne:¬(L:Int)%64=56:=by have:=(Pe (n:=n) hj);omega
   have hne':¬(L:Int).tmod 64=56:=by rw[Int.tmod_eq_emod_of_nonneg (by omega)];exact hne
   have hb6:Below wr.heap.size wr (wr.alloc (.cells #[.int .u8 0] 5)):=Cb;have HO3:Aa (Gq (wr.alloc (.cells #[.int .u8 0] 5)) w2.heap.size (.slice q L c5) (xs++128::List.replicate j 0)):=⟨HOW.out.belowS hb6⟩
   have hrow:Aa (Bk (wr.alloc (.cells #[.int .u8 0] 5)) .u8 (some ⟨wr.heap.size,0,none⟩) 1 1 [0]):=⟨Kx wr [0] (by decide)⟩
   have hsz6:w2.heap.size<=(wr.alloc (.cells #[.int .u8 0] 5)).heap.size:=Nat.le_trans hsz hb6.size;have hmx:Aa ((xs++128::List.replicate j 0).length+1<=140737488355328):=⟨by rw[HLe.out];omega⟩
   have HB6:Aa (Below w2.heap.size w2 (wr.alloc (.cells #[.int .u8 0] 5))):=⟨HBE.out.trans (hb6.mono hsz)⟩
   have HE:Aa ((xs++128::List.replicate j 0)++[0]=xs++128::List.replicate (j+1) 0):=⟨by rw[List.append_assoc,List.cons_append,List.replicate_succ']⟩
   clear hb6
   go_wp2_with (at_builtin;refine Ds rfl _ _ rfl rfl HO3.out rfl hrow.out (fun h=>by cases h) hmx.out hsz6 ?_;intro v3 w6 ho3 hg3;refine Gb.out ?_)
   refine⟨?_⟩;have hb7:=Di hg3 hsz6 HO3.out.ge;rw[HE.out]at ho3
   obtain⟨q3,c3,hv3,_,_,_,_⟩:=ho3.elim;have hL3:(xs++128::List.replicate (j+1) 0).length=L+1:=by rw[<- HE.out,List.length_append,HLe.out];rfl
   rw[hL3]at hv3
   subst hv3;have HO4:=Ac ho3;have HB7:=Ac (HB6.out.trans hb7);clear hg3 ho3 hb7 HB6 HO3 hrow;go_wp2;go_roundw
   case rel=>exact⟨j+1,_,by omega,rfl,HO4,HB7⟩
   case measure=>show n+1+Bj n-(L+1)<n+1+Bj n-L;omega
end Go.Proofs.YthgoeiegdhphjaaGreatDoor
