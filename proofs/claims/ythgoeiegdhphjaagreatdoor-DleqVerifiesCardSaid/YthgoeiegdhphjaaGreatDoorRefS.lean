/- The document's sum. -/
import Derived.StillTailTactics
import Derived.Deep.RegionLaw
import Derived.Laws.OwnMore
import Derived.ArgAppend
import Derived.Laws.CopyOwn
import Derived.Tactics
import Derived.Laws.BytesArg
import Derived.Laws.BytesString
import Derived.WideShapes
import Derived.Test.YthgoeiegdhphjaaGreatDoorRefW
set_option maxRecDepth 1000000
set_option maxHeartbeats 16000000
set_option linter.unusedSimpArgs false
set_option linter.unusedVariables false
namespace Go.Proofs.YthgoeiegdhphjaaGreatDoor
open Go Go.RowKit
theorem kH {i:Int}(n:Nat)(hi:i=(n:Nat))(h:n<=4294967296)(w:World):(Instr.makeSlice 60 (.int .u64 i) (.int .u64 i)).run Tryz.prog w =
  .ok (.slice (some ⟨w.heap.size,0,none⟩) n n) (w.alloc (.cells (zeros .u8 n) 5)):=by
 subst hi;obtain⟨i,hi,hz,hs,hb⟩:=info_parts Tryz.info_u8;have:=run_make (P:=Tryz.prog) w 60 5 i (.int .u8 0) Tryz.underlying60 hi hz .u64 .u64 n n (by omega) (Int.le_refl _) (by rw[hb];omega) (by omega);simp only[Int.toNat_natCast,hs,Nat.mul_one]at this;rw[this,<- Kn];rfl
theorem dO (n:Nat):behind (n%18446744073709551616)=behind n:=by
 unfold behind;rw[show Be (n%18446744073709551616)=Be n by unfold Be;omega,show n%18446744073709551616*8%18446744073709551616=n*8%18446744073709551616 by omega]
def On (nn M k:Nat):List Nat:=128::(List.replicate (nn+(8-k)) 0++(Ya M).drop (8-k))
theorem dL (nn M:Nat):On nn M 0=(List.replicate (nn+9) 0).set 0 128:=by
 unfold On;rw[List.drop_of_length_le (by rw[Ia];omega),List.append_nil];rfl
theorem iN (nn M k:Nat)(hk:k<8):(On nn M k).set (nn+8-k) (M/2^(8*k)%256)=On nn M (k+1):=by
 unfold On;rw[show nn+8-k=(nn+(8-(k+1)))+1 by omega,List.set_cons_succ]
 congr 1
 rw[show nn+(8-k)=(nn+(8-(k+1)))+1 by omega,List.replicate_succ',List.append_assoc,List.set_append_right _ _ (by simp),List.length_replicate,Nat.sub_self]
 congr 1
 have h:8-(k+1)<(Ya M).length:=by rw[Ia];omega
 rw[List.singleton_append,List.set_cons_zero,List.drop_eq_getElem_cons h,show 8-(k+1)+1=8-k by omega]
 congr 1
 simp only[Ya,List.getElem_map,List.getElem_range];rw[show 7-(8-(k+1))=k by omega]
theorem iO (nn M k:Nat)(hk:k<8):(On nn M k)[nn+8-k]? = some 0:=by
 unfold On;rw[show nn+8-k=(nn+(8-(k+1)))+1 by omega,List.getElem?_cons_succ,List.getElem?_append_left (by simp;omega)];simp[List.getElem?_replicate];omega
theorem Xo (w:World)(N:Nat)(hN:N<18446744073709551616) :
  Calls Tryz.prog 217 #[.int .u64 N] w fun e w'=>e=.returned (.slice (some ⟨w.heap.size,0,none⟩) (Be N+9) (Be N+9))/\Below w.heap.size w w'/\Bj w' w.heap.size 5 .u8 (behind N):=by
 obtain⟨nn,hnn⟩:∃nn,Be N=nn:=⟨_,rfl⟩
 have hn63:nn<64:=by rw[<- hnn];unfold Be;omega
 have t1:(119-(N:Int)%64)%64=(nn:Int):=by rw[<- hnn];unfold Be;omega
 have HB:Hid (behind N=On nn (N*8%18446744073709551616) 8):=by unfold behind;rw[hnn];rfl
 rw[hnn];clear hnn;have hmk:=fun wx=>kH (i:=1+(nn:Int)+8) (nn+9) (by omega) (by omega) wx
 go_enter Tryz.func217,Tryz.ntmps217;go_wp2;obtain⟨M,hM⟩:∃M,N*8%18446744073709551616=M:=⟨_,rfl⟩
 have hM2:IntKind.u64.wrap ((N:Int)*8)=(M:Int):=by
  show (N:Int)*8%18446744073709551616=(M:Int)
  omega
 have hM64:M<18446744073709551616:=by omega
 rw[hM]at HB
 clear hM;simp only[hM2];clear hM2
 go_loopw [19] (fun i wr=>∃k:Nat,k<=8/\i=.int .i64 k/\w.heap.size<wr.heap.size/\Below w.heap.size w wr/\Bj wr w.heap.size 5 .u8 (On nn M k)) (fun i _=>8-(intOf i).toNat)
 case atStart =>
  refine⟨0,by omega,rfl,by simp,(Below.refl _ _).alloc (Nat.le_refl _) _,?_⟩;rw[dL];have e:(zeros .u8 (nn+9)).setIfInBounds 0 (.int .u8 128)=(((List.replicate (nn+9) 0).set 0 128).map fun(x:Nat)=>Value.int .u8 x).toArray:=by
   unfold zeros;rw[List.map_set];rfl
  rw[e];exact heap_alloc_new w _
 case round =>
  obtain⟨k,hk,rfl,hsz,hbel,hblk⟩:=hrel
  by_cases hk8:k<8
  .have e0:=hblk.cell (iO nn M k hk8);have e1:=hblk.free (nn+8-k);have hset:=Lib.hid (iN nn M k hk8);have a1:((nn:Int)+8-k).toNat=nn+8-k:=by omega
   go_wp2;have hv:(M:Int)/2^(k*8)%256=((M/2^(8*k)%256:Nat):Int):=by
    rw[Int.natCast_emod,Int.natCast_ediv,Int.natCast_pow,Nat.mul_comm k 8];rfl
   rw[hv];go_roundw
   case rel =>
    refine⟨k+1,by omega,by go_num,by simpa using hsz,hbel.setCell (by simp) _,?_⟩;have h:=hblk.set (nn+8-k) (M/2^(8*k)%256);rw[hset.out]at h
    exact h
   case measure=>simp[intOf];omega
  .obtain rfl:k=8:=by omega
   go_wp2;go_ret;refine⟨rfl,hbel,?_⟩;rw[HB.out];exact hblk
theorem Ip {P:Program}{ops:Array Oper}{o:Oper}{a:Act}{w:World}{K:Act->World->Prop}{Q:Exit->Act->World->Prop}{E:Prop}(hgd:o.guard=none)(d s:Operand)(dT sT:TypeId)(ho:o.op=.call { callee:=.builtin .copy,args:=#[d,s],argTypes:=#[dT,sT] })(elem:TypeId)(hu:P.underlying dT=some (.slice elem))(hsz:(P.info? elem).map (·.size)=some 1)(dp sp:Option Addr)(dLen dCap sLen sCap:Nat)(hd:a.eval d=.slice dp dLen dCap)(hs:a.eval s=.slice sp sLen sCap)(g off:Nat)(cur:List Value)(t:TypeId)(hg:w.heap[g]? = some (.cells cur.toArray t (0,0)))(cs:List Value)(hn:cs.length=Nat.min sLen dLen)(hpos:0<cs.length->dp=some ⟨g,off,none⟩/\∃ad,sp=some ad/\∀j v,cs[j]? = some v->w.cell? (ad.add j)=some v)(hfit:off+cs.length<=cur.length)(h1:∀v∈cs,v.oneCell'=true)(h:∀w',Hid (w'.heap[g]? = some (.cells (splice cur off cs).toArray t (0,0)))->Cp g w w'->K (a.put o.dst (goInt cs.length)) w') :
  if Region.wanted o (yielded ops a.tmps)=true then Oper.wp P o a w K Q else E:=by
 have hw:Region.wanted o (yielded ops a.tmps)=true:=by simp[Region.wanted,hgd]
 rw[if_pos hw]
 by_cases h0:cs.length=0
 .obtain rfl:cs=[]:=List.eq_nil_of_length_eq_zero h0;have hrun:=run_copy_none (P:=P) w dT sT o.type elem dp sp dLen dCap sLen sCap hu hsz (by simpa using hn.symm);unfold Oper.wp;simp[execOp,ho,resolve,invoke,builtin,hd,hs,hrun,Result.andThen];exact h w (show _=_ by simpa [splice]using hg) (Cp.refl _ _)
 .obtain⟨rfl,ad,rfl,hsrc⟩:=hpos (by omega);have hrun:=run_copy_row (P:=P) w dT sT o.type elem g off dLen dCap ad sLen sCap cur.toArray t cs hu hsz hg hn hsrc (by simpa using hfit) h1;unfold Oper.wp;simp[execOp,ho,resolve,invoke,builtin,hd,hs,hrun,Result.andThen];exact h _ (show _=_ by simpa [splice]using setRow_heap w g _ _ t _ hg) (Cp.setRow _ _)
theorem Cp.of_drew {g:Nat}{w w':World}(h:Cp g w.drew w'):Cp g w w':=⟨h.os,h.tape,h.output,h.size,h.block⟩
theorem Wa {st pend:List Nat}{len:Nat}{xs:List Nat}(hs:st.length=8)(hx:xs.length=8):splice (Bl st pend len) 0 (xs.map fun(x:Nat)=>Value.int .u32 x)=Bl xs pend len:=by
 unfold splice Bl;simp only[List.take_zero,List.nil_append,List.length_map,Nat.zero_add];rw[List.drop_append_of_le_length (by simp;omega),hx,List.drop_of_length_le (by simp;omega),List.nil_append]
theorem Px {st pend:List Nat}{len:Nat}{xs:List Nat}{r:Nat}(hs:st.length=8)(hx:r+xs.length<=pend.length) :
  splice (Bl st pend len) (8+r) (xs.map fun(x:Nat)=>Value.int .u8 x)=Bl st (splice pend r xs) len:=by
 unfold splice Bl;rw[List.take_append,List.take_of_length_le (by simp;omega),List.length_map,hs,Nat.add_sub_cancel_left,List.take_append_of_le_length (by simp;omega),List.append_assoc]
 congr 1
 rw[List.drop_append,List.drop_of_length_le (by simp;omega),List.nil_append,List.length_map,List.length_map,hs,show 8+r+xs.length-8=r+xs.length by omega,
  List.drop_append_of_le_length (by simp;omega)]
 simp[List.map_take,List.map_drop]
structure rV (m piece pend:List Nat):Prop where
 len:(splice pend (m.length%64) piece).length=64
 bytes:Aw (splice pend (m.length%64) piece)
 some:m.length%64+piece.length<64->blocks (m++piece) ((m++piece).length/64)=blocks m (m.length/64)/\(splice pend (m.length%64) piece).take ((m++piece).length%64)=(m++piece).drop (64*((m++piece).length/64))
 full:m.length%64+piece.length=64->blocks (m++piece) ((m++piece).length/64)=Pi (blocks m (m.length/64)) (splice pend (m.length%64) piece)/\(m++piece).length%64=0/\(m++piece).drop (64*((m++piece).length/64))=[]
theorem grows {m piece pend:List Nat}(hp:pend.length=64)(h8:Aw pend)(hb:Aw piece)(hk:pend.take (m.length%64)=m.drop (64*(m.length/64)))(hl:m.length%64+piece.length<=64):rV m piece pend:=by
 obtain⟨q,r,hq,hr,hm,hr64⟩:∃q r,m.length/64=q/\m.length%64=r/\m.length=64*q+r/\r<64:=⟨_,_,rfl,rfl,by omega,by omega⟩
 have hk':pend.take r=m.drop (64*q):=by rw[<- hr,<- hq];exact hk
 have hlen:(splice pend r piece).length=64:=by rw[length_splice _ _ _ (by omega),hp]
 have ht:(splice pend r piece).take (r+piece.length)=(m++piece).drop (64*q):=by
  rw[List.drop_append_of_le_length (by omega),<- hk'];unfold splice;rw[<- List.append_assoc,List.take_append_of_le_length (by simp;omega),List.take_of_length_le (by simp;omega)]
 refine⟨by rw[hr];exact hlen,?_,fun hs=>?_,fun hf=>?_⟩
 .rw[hr];intro x hx;simp only[splice,List.mem_append]at hx;rcases hx with hx|hx|hx
  .exact h8 x (List.mem_of_mem_take hx)
  .exact hb x hx
  .exact h8 x (List.mem_of_mem_drop hx)
 .have e1:(m++piece).length/64=q:=by rw[List.length_append];omega
  have e2:(m++piece).length%64=r+piece.length:=by rw[List.length_append];omega
  rw[e1,e2,hr,hq];exact⟨Iu (by omega),ht⟩
 .have e1:(m++piece).length/64=q+1:=by rw[List.length_append];omega
  have e2:(m++piece).length%64=0:=by rw[List.length_append];omega
  rw[e1,hr,hq];refine⟨?_,e2,List.drop_of_length_le (by rw[List.length_append];omega)⟩;rw[blocks,Iu (by omega),<- ht,show r+piece.length=64 by omega,List.take_take,Nat.min_self,List.take_of_length_le (by omega)]
theorem eF {n c:Nat}{bs:List Nat}{w:World}{p:Option Addr}(h:Bf w .u8 p n c bs)(k:Nat)(hk:k<=n)(p':Option Addr)(hp:k<n->∃b off,p=some ⟨b,off,none⟩/\p'=some ⟨b,off+k,none⟩) :
  Bf w .u8 p' (n-k) (c-k) (bs.drop k):=by
 have hl:=h.len;have hc:=h.cap;have hm:=h.max;refine⟨by simp;omega,by omega,by omega,fun h0=>?_⟩;obtain⟨b,off,rfl,rfl⟩:=hp (by omega);obtain⟨b',off',e,h2,h3⟩:=(h.row (by omega)).pos (by omega);cases e;refine⟨by simp;omega,by omega,by omega,.inr ⟨b,off+k,rfl,h2,fun i x hx=>?_⟩⟩;rw[Nat.add_assoc];exact h3 (k+i) x (by rw[List.getElem?_drop]at hx;exact hx)
theorem Dr (w:World)(g:Nat)(m:List Nat)(p:Option Addr)(n c:Nat)(bs:List Nat)(hT:Tabs w)(hH:Bm w g m)(hg:(max (1 : Nat) 2 + 1)<=g)(hr:Bf w .u8 p n c bs)(h8:Aw bs)(hne:0<n->∀q,p=some q->q.block≠g) :
  Calls Tryz.prog 190 #[.pointer (some ⟨g,0,none⟩),.slice p n c] w fun e w'=>e=.returned (.tuple #[])/\Cp g w w'/\Bm w' g (m++bs):=by
 have HRow:=Lib.hid hr;have HL:=Lib.hid hr.len;have hcap:=hr.cap;have hmax:=hr.max;clear hr;go_enter Tryz.func190,Tryz.ntmps190;go_wp2
 go_loopw [1] (fun v wr=>∃(k:Nat) (p':Option Addr),k<=n/\v=.slice p' (n-k) (c-k)/\Cp g w wr/\Bm wr g (m++bs.take k)/\(k<n->∃b off,p=some ⟨b,off,none⟩/\p'=some ⟨b,off+k,none⟩)) (fun v _=>match v with | .slice _ l _=>l|_=>0)
 case atStart =>
  refine⟨0,p,by omega,rfl,Cp.refl _ _,by rw[List.take_zero,List.append_nil];exact hH,fun h0=>?_⟩;obtain⟨b,off,h1,_⟩:=(HRow.out.row h0).pos h0;exact⟨b,off,h1,h1⟩
 case round =>
  obtain⟨k,p',hk,rfl,hbut,hash,hp'⟩:=hrel
  by_cases hkn:k<n
  .obtain⟨b,off,hpe,rfl⟩:=hp' hkn;obtain⟨pend,q1,q2,q3,q4⟩:=hash.ex;have hrow:=eF HRow.out k hk _ hp';obtain⟨m1,hm1⟩:∃m1,m++bs.take k=m1:=⟨_,rfl⟩
   have HM1:=Lib.hid hm1;simp only[hm1]at q3 q4;clear hm1;have hcb:∀(j x:Nat),(bs.drop k)[j]? = some x->wr.cell? ⟨b,off+k+j,none⟩=some (.int .u8 (x:Int)):=fun j x hx=>by
    obtain⟨b',off',e,h2,h3⟩:=(hrow.row (by omega)).pos (by omega);cases e;rw[hbut.cell (p:=⟨b,off+k+j,none⟩) h2 (hne (by omega) ⟨b,off,none⟩ hpe)];exact h3 j x hx
   obtain⟨r,hrd⟩:∃r,m1.length%64=r:=⟨_,rfl⟩
   have hr64:r<64:=by omega
   obtain⟨n1,hn1⟩:∃n1,Nat.min (n-k) (64-r)=n1:=⟨_,rfl⟩
   have hn1a:n1<=n-k:=by rw[<- hn1];exact Nat.min_le_left _ _
   have hn1b:n1<=64-r:=by rw[<- hn1];exact Nat.min_le_right _ _
   have hn1c:0<n1:=by rw[<- hn1];exact Nat.lt_min.2 ⟨by omega,by omega⟩
   obtain⟨L,hLd⟩:∃L,m1.length%18446744073709551616=L:=⟨_,rfl⟩
   have hL64:L<18446744073709551616:=by omega
   have tL:(L:Int)%64=(r:Int):=by omega
   have tLm:(L:Int).tmod 64=(r:Int):=by rw[Int.tmod_eq_emod_of_nonneg (by omega)];exact tL
   have hst8:=Cj m1 (m1.length/64);have c72:=q3.cell (Jy hst8 q1);rw[hLd]at q3 c72
   have hpc:((bs.drop k).take n1).length=n1:=by simp;have:=HL.out;omega
   have hsl:=fun wx=>Uq wx g 8 r .u64 (r:Int) rfl hr64
   have hgr:=grows (m:=m1) (piece:=(bs.drop k).take n1) q1 q2 (fun x hx=>h8 x (List.mem_of_mem_drop (List.mem_of_mem_take hx))) q4 (by rw[hrd,hpc];omega);obtain⟨G1,G2,G3,G4⟩:=hgr;rw[hrd]at G1 G2 G3 G4
   have HG3:=Lib.hid G3;have HG4:=Lib.hid G4;have HG1:=Lib.hid G1;have HRD:=Lib.hid hrd;have HLD:=Lib.hid hLd;have HQ4:=Lib.hid q4;have HSp:=Lib.hid (Px (st:=blocks m1 (m1.length/64)) (pend:=pend) (len:=L) (xs:=(bs.drop k).take n1) (r:=r) hst8 (by rw[hpc,q1];omega));have HQ3:=Lib.hid q3;have HN1:=Lib.hid hn1;have HPC:=Lib.hid hpc;have HSL:=Lib.hid hsl;have HV:Hid (∀(j:Nat) (v:Value),(((bs.drop k).take n1).map fun(x:Nat)=>Value.int .u8 x)[j]? = some v->wr.cell? ((⟨b,off+k,none⟩:Addr).add j)=some v):=fun j v hv=>by
    rw[List.getElem?_map]at hv
    obtain⟨x,hx,rfl⟩:=Option.map_eq_some_iff.1 hv;rw[add_plain];refine hcb j x ?_;rw[List.getElem?_take]at hx
    split at hx
    .exact hx
    .cases hx
   have HN:Hid ((((bs.drop k).take n1).map fun(x:Nat)=>Value.int .u8 x).length=Nat.min (n-k) (64-r)):=by
    show List.length _=_;rw[List.length_map,hpc,hn1]
   have HF:Hid (8+r+(((bs.drop k).take n1).map fun(x:Nat)=>Value.int .u8 x).length<=(Bl (blocks m1 (m1.length/64)) pend L).length):=by
    show _<=List.length _;rw[List.length_map,hpc,Ml hst8 q1];omega
   have HO:Hid (∀v∈(((bs.drop k).take n1).map fun(x:Nat)=>Value.int .u8 x),v.oneCell'=true):=fun v hv=>by
    obtain⟨x,_,rfl⟩:=List.mem_map.1 hv;rfl
   have hlt:=q3.lt;clear hn1 hcb q3 hrow hrd hLd G1 G3 G4 q4 hsl;obtain⟨piece,hpd⟩:∃piece,(bs.drop k).take n1=piece:=⟨_,rfl⟩
   have HPD:=Lib.hid hpd;rw[hpd]at HV HN HF HO HSp HPC hpc HG3 HG4 HG1 G2
   clear hpd;obtain⟨cs,hcs⟩:∃cs,(piece.map fun(x:Nat)=>Value.int .u8 x)=cs:=⟨_,rfl⟩
   have hcl:cs.length=n1:=by rw[<- hcs,List.length_map];exact hpc
   rw[hcs]at HV HN HF HO HSp
   clear hcs hpc;have hsl:=HSL.out;obtain⟨L2,hL2⟩:∃L2,(L+n1)%18446744073709551616=L2:=⟨_,rfl⟩
   have tL2:IntKind.u64.wrap ((L:Int)+n1)=(L2:Int):=by
    show ((L:Int)+n1)%18446744073709551616=(L2:Int)
    omega
   have hL2b:L2<18446744073709551616:=by omega
   have HL2:=Lib.hid hL2;have hL2r:(r+n1<64->L2%64=r+n1)/\(r+n1=64->L2%64=0):=⟨by omega,by omega⟩
   have HL2R:=Lib.hid hL2r;clear hL2 hL2r;go_wp2
   go_region_law (refine Ip rfl (.tmp 18) (.tmp 19) 60 60 rfl 5 Tryz.underlying60 (by kernel_rfl) (some ⟨g,8+r,none⟩) (some ⟨b,off+k,none⟩) (64-r) (64-r) (n-k) (c-k) rfl rfl g (8+r) (Bl (blocks m1 (m1.length/64)) pend L) 254 HQ3.out cs HN.out (fun _=>⟨rfl,_,rfl,HV.out⟩) HF.out HO.out ?_;intro w4 hg4 hb4)
   rw[HSp.out]at hg4
   have hx4:El w4 g (blocks m1 (m1.length/64)) (splice pend r piece) L:=hg4.out;clear hg4;obtain⟨P4,hP4⟩:∃P4,splice pend r piece=P4:=⟨_,rfl⟩
   rw[hP4]at hx4 HG1 G2 HG3 HG4
   have hl4:P4.length=64:=HG1.out;have c72':=hx4.cell (Jy hst8 hl4);have e72:=hx4.free 72;have HX4:=Lib.hid hx4;clear hx4 hP4 c72 HQ3 hsl HSL;have hb5:∀v:Value,Cp g w (w4.setCell ⟨g,72,none⟩ v):=fun v=>(hbut.trans hb4.of_drew).trans (Cp.setCell _ _ _)
   have HB5:=Lib.hid hb5;have hx5:El (w4.setCell ⟨g,72,none⟩ (.int .u64 (L2:Nat))) g (blocks m1 (m1.length/64)) P4 L2:=HX4.out.set 72 _ (Lc hst8 hl4);have HX5:=Lib.hid hx5;have ha:m++bs.take (k+n1)=m1++piece:=by rw[List.take_add,<- List.append_assoc,HM1.out,HPD.out]
   have hlen:(m1++piece).length%18446744073709551616=L2:=by
    have h1:=HPC.out;have h2:=HL2.out;have h3:=HLD.out;rw[List.length_append,h1];omega
   have hfin:∀w5,El w5 g (blocks m1 (m1.length/64)) P4 L2->r+n1<64->Bm w5 g (m++bs.take (k+n1)):=fun w5 hx hs=>by
    have h3:=HG3.out (by rw[HPC.out];exact hs);rw[ha];exact⟨P4,hl4,G2,by rw[h3.1,hlen];exact hx,h3.2⟩
   have hfin2:∀w5,El w5 g (Pi (blocks m1 (m1.length/64)) P4) P4 L2->r+n1=64->Bm w5 g (m++bs.take (k+n1)):=fun w5 hx hs=>by
    have h3:=HG4.out (by rw[HPC.out];exact hs);rw[ha];exact⟨P4,hl4,G2,by rw[h3.1,hlen];exact hx,by rw[h3.2.1,h3.2.2];rfl⟩
   have HFIN:=Lib.hid hfin;have HFIN2:=Lib.hid hfin2;have HPT:Hid (k+n1<n->(if c-k=n1 then (some ⟨b,off+k,none⟩:Option Addr) else some ⟨b,off+k+n1,none⟩)=some ⟨b,off+(k+n1),none⟩):=fun h=>by
    rw[if_neg (by omega),Nat.add_assoc]
   clear hb5 hx5 ha hlen hfin hfin2 hb4;have HPE:=Lib.hid hpe
   by_cases hfull:r+n1=64
   .have tz:(L2:Int)%64=0:=by have:=HL2R.out.2 hfull;omega
    have hx5:=HX5.out;have hb5:=HB5.out (.int .u64 (L2:Nat));go_wp2
    all_goals
     generalize w4.setCell ⟨g,72,none⟩ (.int .u64 (L2:Nat))=w5 at *;clear HX4 e72 c72' HV HN HF HO HSp hlt
     go_still_tail 6,(by kernel_rfl)
     change wpList _ _ _ _ _ w5.drew;have hx6:El w5.drew g (blocks m1 (m1.length/64)) P4 L2:=hx5;have hb6:Cp g w w5.drew:=hb5.drew;have hT6:Tabs w5.drew:=hT.but hb6 hg;generalize w5.drew=w6 at *
     go_wp2_with fail
     refine(bG w6 g _ P4 L2 hT6 hst8 (Hd _ _) hl4 G2 hx6 hg).mono ?_;rintro e w7 ⟨rfl,hb7,hx7⟩;go_wp2;go_roundw
     case rel=>exact⟨k+n1,_,by omega,by congr 1<;>omega,hb6.trans hb7,HFIN2.out _ hx7 hfull,fun h=>by first|exact⟨b,off,HPE.out,by rw[Nat.add_assoc]⟩|(exfalso;omega)⟩
     case measure=>show n-k-n1<n-k;omega
   .have tz:(L2:Int)%64=((r+n1:Nat):Int):=by have:=HL2R.out.1 (by omega);omega
    have tz2:¬((r+n1:Nat):Int)=0:=by omega
    go_wp2;go_roundw
    case rel=>exact⟨k+n1,_,by omega,by congr 1<;>omega,HB5.out _,HFIN.out _ HX5.out (by omega),fun h=>⟨b,off,HPE.out,HPT.out h⟩⟩
    case measure=>show n-k-n1<n-k;omega
  .obtain rfl:k=n:=by omega
   have hfin:Bm wr g (m++bs):=by
    have h:=hash;rw[List.take_of_length_le (by have:=HL.out;omega)]at h
    exact h
   go_wp2
   go_end0
   exact⟨rfl,hbut,hfin⟩
def Pr (m:List Nat)(w:World)(e:Ending)(w':World):Prop:=∃g,e=.returned (.pointer (some ⟨g,0,none⟩))/\w.heap.size<=g/\Below w.heap.size w w'/\Bm w' g m
theorem Bm.new {w:World}{g:Nat}(h:El w g Dj (List.replicate 64 0) 0):Bm w g [] :=
 ⟨List.replicate 64 0,by simp,fun x hx=>by have:=(List.mem_replicate.1 hx).2;omega,h,rfl⟩
def Vg:List Value:=Bl (List.replicate 8 0) (List.replicate 64 0) 0
def hlen (L:Nat):List Value:=Bl (List.replicate 8 0) (List.replicate 64 0) L
theorem Zn (L:Nat):(hlen L).length=73:=rfl
theorem Ob:Vg.length=73:=rfl
theorem Uj (w:World):(zeroValue 254).run Tryz.prog w=.ok (.agg Vg.toArray) w:=by
 have h:(Tryz.prog.info? 254).map (·.zero)=some (some (.agg Vg.toArray)):=by kernel_rfl
 cases hi:Tryz.prog.info? 254 with
 | none=>rw[hi]at h;cases h
 | some i =>
  rw[hi]at h
  have hz:i.zero=some (.agg Vg.toArray):=by simpa using h
  simp[zeroValue,typeInfo,hi,hz]
theorem Jr (w:World)(hT:Tabs w):Calls Tryz.prog 189 #[] w (Pr [] w):=by
 have hz:=Uj;have hzl:=Ob;obtain⟨t0,fr0,hf0⟩:=hT.first
 have hi8:(Tryz.prog.info? 252).map (·.size)=some (Dj.map fun(x:Nat)=>Value.int .u32 x).toArray.size:=by
  rw[show (Dj.map fun(x:Nat)=>Value.int .u32 x).toArray.size=8 by rfl];kernel_rfl
 go_enter Tryz.func189,Tryz.ntmps189
 go_wp2_with (refine wpList_load_row rfl 252 _ rfl 1 rfl t0 (Dj.map fun(x:Nat)=>Value.int .u32 x).toArray fr0 _ hf0 Tryz.underlying252 rfl hi8 ?_)
 have hf:(List.foldl (fun(cs:Array Value) x=>cs.setIfInBounds x.snd x.fst) Vg.toArray (Dj.map fun(x:Nat)=>Value.int .u32 x).zipIdx)=(Bl Dj (List.replicate 64 0) 0).toArray:=by kernel_rfl
 refine bodyPost_ret (v:=.pointer (some ⟨w.heap.size,0,none⟩)) (by simp[results,Tryz.results189,go_sem]) rfl ⟨_,rfl,Nat.le_refl _,(Below.refl _ _).alloc (Nat.le_refl _) _,Bm.new ?_⟩;rw[hf];exact heap_alloc_new w _
theorem Yj (w:World)(b off:Nat) :
  (Instr.sliceAt 252 (.pointer (some ⟨b,off,none⟩)) none none none).run Tryz.prog w=.ok (.slice (some ⟨b,off,none⟩) 8 8) w:=by
 have hlen:Tryz.prog.arrayLen 252 = 8:=by kernel_rfl
 rw[run_sliceAt_array_all w 252 ⟨b,off,none⟩ Tryz.underlying252,hlen];have hs:(sizeOf (Tryz.prog.elem 252)).run Tryz.prog w=.ok 1 w:=by
  have:Tryz.prog.elem 252 = 117 := by kernel_rfl
  rw[this];simp[go_sem]
 rw[hs];simp[slicedAt,Addr.add]
theorem Yk (w:World)(b off:Nat) :
  (Instr.sliceAt 248 (.pointer (some ⟨b,off,none⟩)) none none none).run Tryz.prog w=.ok (.slice (some ⟨b,off,none⟩) 64 64) w:=by
 have hlen:Tryz.prog.arrayLen 248 = 64:=by kernel_rfl
 rw[run_sliceAt_array_all w 248 ⟨b,off,none⟩ Tryz.underlying248,hlen];have hs:(sizeOf (Tryz.prog.elem 248)).run Tryz.prog w=.ok 1 w:=by
  have:Tryz.prog.elem 248 = 5 := by kernel_rfl
  rw[this];simp[go_sem]
 rw[hs];simp[slicedAt,Addr.add]
theorem Nd (w:World)(g:Nat)(m:List Nat)(hH:Bm w g m):Calls Tryz.prog 215 #[.pointer (some ⟨g,0,none⟩)] w (Pr m w):=by
 obtain⟨pend,q1,q2,q3,q4⟩:=hH.ex;have hst8:=Cj m (m.length/64);obtain⟨st,hst⟩:∃st,blocks m (m.length/64)=st:=⟨_,rfl⟩
 obtain⟨L,hL⟩:∃L,m.length%18446744073709551616=L:=⟨_,rfl⟩
 have c72:=q3.cell (Jy hst8 q1);have HST:=Lib.hid hst;have HL:=Lib.hid hL;rw[hL]at c72 q3
 rw[hst]at q3 hst8
 have hlt:=q3.lt;have hz:=Uj;have hzl:=Ob;have HQ3:=Lib.hid q3;have hcS:∀(j:Nat) (v:Value),(st.map fun(x:Nat)=>Value.int .u32 x)[j]? = some v->w.cell? ((⟨g,0,none⟩:Addr).add j)=some v:=fun j v hv=>by
  rw[List.getElem?_map]at hv
  obtain⟨x,hx,rfl⟩:=Option.map_eq_some_iff.1 hv;have hj:j<8:=by have:=(List.getElem?_eq_some_iff.1 hx).1;omega
  rw[add_plain,Nat.zero_add];refine q3.cell ?_;rw[Hb hst8 hj,List.getD_eq_getElem?_getD,hx];rfl
 have hcP:∀(j:Nat) (v:Value),(pend.map fun(x:Nat)=>Value.int .u8 x)[j]? = some v->w.cell? ((⟨g,8,none⟩:Addr).add j)=some v:=fun j v hv=>by
  rw[List.getElem?_map]at hv
  obtain⟨x,hx,rfl⟩:=Option.map_eq_some_iff.1 hv;have hj:j<64:=by have:=(List.getElem?_eq_some_iff.1 hx).1;omega
  rw[add_plain];refine q3.cell ?_;rw[Qf hst8 q1 hj,List.getD_eq_getElem?_getD,hx];rfl
 have HS8:=Lib.hid hst8;have HQ1:=Lib.hid q1;have HCS:=Lib.hid hcS;have HCP:=Lib.hid hcP;have hOne:∀(k:IntKind) (xs:List Nat),∀v∈(xs.map fun(x:Nat)=>Value.int k x),v.oneCell'=true:=fun k xs v hv=>by
  obtain⟨x,_,rfl⟩:=List.mem_map.1 hv;rfl
 have HON:=Lib.hid hOne;have hset:Vg.set 72 (.int .u64 (L:Nat))=hlen L:=Lc (by simp) (by simp);clear hL hst q3 hcS hcP hOne;obtain⟨csS,hcsS⟩:∃cs,(st.map fun(x:Nat)=>Value.int .u32 x)=cs:=⟨_,rfl⟩
 obtain⟨csP,hcsP⟩:∃cs,(pend.map fun(x:Nat)=>Value.int .u8 x)=cs:=⟨_,rfl⟩
 have hlS:csS.length=8:=by rw[<- hcsS,List.length_map];exact hst8
 have hlP:csP.length=64:=by rw[<- hcsP,List.length_map];exact q1
 have HSP1:Hid (splice (hlen L) 0 csS=Bl st (List.replicate 64 0) L):=by rw[<- hcsS];exact Wa (by simp) hst8
 have HSP2:Hid (splice (Bl st (List.replicate 64 0) L) 8 csP=Bl st pend L):=by
  rw[<- hcsP];have h:=Px (st:=st) (pend:=List.replicate 64 0) (len:=L) (xs:=pend) (r:=0) hst8 (by simp[q1]);refine h.trans ?_
  congr 1
  unfold splice;rw[List.take_zero,List.nil_append,List.drop_of_length_le (by simp[q1]),List.append_nil]
 rw[hcsS]at HCS
 rw[hcsP]at HCP
 have HO1:Hid (∀v∈csS,v.oneCell'=true):=by rw[<- hcsS];exact HON.out _ _
 have HO2:Hid (∀v∈csP,v.oneCell'=true):=by rw[<- hcsP];exact HON.out _ _
 clear hcsS hcsP hst8 q1;go_enter Tryz.func215,Tryz.ntmps215;go_wp2;have hn0:=heap_alloc_new w (.cells (hlen L).toArray 254);have hb0:Below w.heap.size w (w.alloc (.cells (hlen L).toArray 254)):=Bt;have hsz0:w.heap.size<(w.alloc (.cells (hlen L).toArray 254)).heap.size:=by simp
 generalize w.alloc (.cells (hlen L).toArray 254)=w1 at *;have HN0:=Lib.hid hn0;have hcS1:∀(j:Nat) (v:Value),csS[j]? = some v->w1.cell? ((⟨g,0,none⟩:Addr).add j)=some v:=fun j v hv=>by
  have h:=HCS.out j v hv;rw[add_plain]at h ⊢
  rw[(Bu hb0).1 _ _ hlt];exact h
 have HCS1:=Lib.hid hcS1;have HF1:Hid (0+csS.length<=(hlen L).length):=by show 0+csS.length<=(hlen L).length;rw[hlS,Zn];omega
 have HM1:Hid (csS.length=Nat.min 8 8):=hlS;clear hcS1 hn0 hset;have hsl1:=Yj;have hsl2:=Yk
 go_region_law (refine Ip rfl (.tmp 15) (.tmp 19) 34 34 rfl 117 Tryz.underlying34 (by kernel_rfl) (some ⟨w.heap.size,0,none⟩) (some ⟨g,0,none⟩) 8 8 8 8 (by simp[Act.eval,Act.put,go_sem]) (by simp[Act.eval,Act.put,go_sem]) w.heap.size 0 (hlen L) 254 HN0.out csS HM1.out (fun _=>⟨rfl,_,rfl,HCS1.out⟩) HF1.out HO1.out ?_;intro w4 hg4 hb4)
 rw[HSP1.out]at hg4
 have hb5:Below w.heap.size w w4:=hb0.trans ((hb4.of_drew).below (Nat.le_refl _) (Nat.le_of_lt hsz0));have hcP1:∀(j:Nat) (v:Value),csP[j]? = some v->w4.cell? ((⟨g,8,none⟩:Addr).add j)=some v:=fun j v hv=>by
  have h:=HCP.out j v hv;rw[add_plain]at h ⊢
  rw[(Bu hb5).1 _ _ hlt];exact h
 have HCP1:=Lib.hid hcP1;have HB5:=Lib.hid hb5;have HF2:Hid (8+csP.length<=(Bl st (List.replicate 64 0) L).length):=by show 8+csP.length<=List.length _;rw[hlP,Ml HS8.out (by simp)];omega
 have HM2:Hid (csP.length=Nat.min 64 64):=hlP;obtain⟨cur,hcur⟩:∃cur,Bl st (List.replicate 64 0) L=cur:=⟨_,rfl⟩
 rw[hcur]at hg4 HF2 HSP2
 have HC4:=hg4;clear hcP1 hb5 hcur hg4 HN0 hb4 hb0 hsz0;go_wp2;have hs4:w.heap.size<w4.heap.size:=(Array.getElem?_eq_some_iff.1 HC4.out).1
 go_region_law (refine Ip rfl (.tmp 24) (.tmp 28) 60 60 rfl 5 Tryz.underlying60 (by kernel_rfl) (some ⟨w.heap.size,8,none⟩) (some ⟨g,8,none⟩) 64 64 64 64 (by simp[Act.eval,Act.put,go_sem]) (by simp[Act.eval,Act.put,go_sem]) w.heap.size 8 cur 254 HC4.out csP HM2.out (fun _=>⟨rfl,_,rfl,HCP1.out⟩) HF2.out HO2.out ?_;intro w6 hg6 hb6)
 rw[HSP2.out]at hg6
 have hb7:Below w.heap.size w w6:=HB5.out.trans ((hb6.of_drew).below (Nat.le_refl _) (Nat.le_of_lt hs4));have HB7:=Lib.hid hb7;clear hb6 hb7;go_wp2;go_ret;refine⟨_,rfl,Nat.le_refl _,HB7.out,⟨pend,HQ1.out,q2,?_,q4⟩⟩;rw[HST.out,HL.out];exact hg6.out
def Lq (m:List Nat)(w:World)(e:Ending)(w':World):Prop:=∃q,e=.returned (.slice (some ⟨q,0,none⟩) 32 32)/\w.heap.size<=q/\Below w.heap.size w w'/\Bj w' q 5 .u8 (Km m)
theorem Jw (w:World)(g:Nat)(m:List Nat)(hT:Tabs w)(hH:Bm w g m):Calls Tryz.prog 192 #[.pointer (some ⟨g,0,none⟩)] w (Lq m w):=by
 have hlt:=hH.lt;obtain⟨L,hL⟩:∃L,m.length%18446744073709551616=L:=⟨_,rfl⟩
 have hL64:L<18446744073709551616:=by omega
 have HL:=Lib.hid hL;clear hL;go_enter Tryz.func192,Tryz.ntmps192
 go_wp2_with fail
 refine(Nd w g m hH).mono ?_;rintro e w1 ⟨q,rfl,hq,hb1,hh1⟩;have hT1:=hT.below hb1 hT.size;have c72:w1.cell? ⟨g,72,none⟩=some (.int .u64 (L:Nat)):=by
  obtain⟨pend,q1,_,q3,_⟩:=(hH.below hb1 hlt).ex;have h:=q3.cell (Jy (Cj m _) q1);rw[HL.out]at h
  exact h
 go_wp2_with fail
 refine(Xo w1 L hL64).mono ?_;rintro e w2 ⟨rfl,hb2,hk2⟩;have hh2:=hh1.below hb2 hh1.lt;have hT2:=hT1.below hb2 hT1.size;have hz12:=hb1.size;have hz22:=hb2.size;have hbl:behind L=behind m.length:=by rw[<- HL.out,dO]
 rw[hbl]at hk2
 have hnl:Be L+9=(behind m.length).length:=by rw[<- hbl,Gi]
 have hrow:Bf w2 .u8 (some ⟨w1.heap.size,0,none⟩) (Be L+9) (Be L+9) (behind m.length) :=
  ⟨hnl,Nat.le_refl _,by have:Be L<64:=Nat.mod_lt _ (by omega);omega,fun _=>hk2.row hnl (Nat.le_refl _) (by have:Be L<64:=Nat.mod_lt _ (by omega);omega)⟩
 have hqlt:=hh1.lt;clear hbl hnl
 go_wp2_with fail
 refine(Dr w2 q m _ _ _ (behind m.length) hT2 hh2 (by have:=hT.size;omega) hrow (Oq _) (fun _ a ha=>by cases ha;show w1.heap.size≠q;omega)).mono ?_;rintro e w3 ⟨rfl,hb3,hh3⟩;have hb13:Below w.heap.size w w3:=(hb1.trans (hb2.mono hz12)).trans (hb3.below hq (by omega));obtain⟨pend,q1,q2,q3,q4⟩:=hh3.ex;have hz13:=hb13.size
 go_wp2_with fail
 refine(Ru w3 q _ pend _ (Cj _ _) (Hd _ _) q3).mono ?_;rintro e w4 ⟨rfl,hb4,hk4⟩;rw[List.length_append]at hk4
 go_wp2;go_ret;exact⟨_,rfl,hz13,hb13.trans (hb4.mono hz13),hk4⟩
structure Own (w:World) (B:Nat) (v:Value) (bs:List Nat):Prop where
 owns:w.ownsRow B 5 1 v bs.length (bs.map fun(x:Nat)=>Value.int .u8 (x:Int))
theorem Own.nil (w:World)(B:Nat):Own w B (.slice none 0 0) []:=⟨World.ownsRow_nil w B 5 1⟩
theorem Own.elim {w:World}{B:Nat}{v:Value}{bs:List Nat}(h:Own w B v bs) :
  ∃p c,v=.slice p bs.length c/\Bf w .u8 p bs.length c bs/\Fg B p/\(p=none->c=0)/\(∀q,p=some q->q.block<w.heap.size):=by
 obtain⟨h1,h2⟩:=h.owns;rcases h2 with ⟨rfl,h0⟩|⟨g,cap,cur,rfl,hb,hg,hnc,hcm,hcs,ht⟩
 .refine⟨none,0,by rw[h0],⟨rfl,by omega,by omega,fun h=>absurd h (by omega)⟩,Fg.none _,fun _=>rfl,fun q hq=>(by cases hq)⟩
 .have hlt:g<w.heap.size:=(Array.getElem?_eq_some_iff.1 hg).1;have hcm':cap<=9223372036854775807:=by simpa [maxLen]using hcm
  refine⟨some ⟨g,0,none⟩,cap,rfl,⟨rfl,hnc,hcm',fun _=>⟨rfl,hnc,hcm',.inr ⟨g,0,rfl,hlt,fun i x hx=>?_⟩⟩⟩,fun q hq=>(by cases hq;exact hb),fun h=>(by cases h),fun q hq=>(by cases hq;exact hlt)⟩;have hi:i<bs.length:=(List.getElem?_eq_some_iff.1 hx).1;have hx2:(bs.map fun(x:Nat)=>Value.int .u8 (x:Int))[i]? = some (.int .u8 (x:Int)):=by rw[List.getElem?_map,hx];rfl
  rw[<- ht,List.getElem?_take]at hx2
  split at hx2
  .unfold World.cell?
   dsimp only
   rw[hg];simp only[Nat.zero_add];rw[Array.getElem?_toList]at hx2
   exact hx2
  .cases hx2
theorem Own.below {w w':World}{B C:Nat}{v:Value}{bs:List Nat}(h:Own w B v bs)(hb:Below C w w')(hc:∀g,v.ownBlock=some g->g<C):Own w' B v bs:=by
 refine⟨⟨h.owns.1,?_⟩⟩;rcases h.owns.2 with h2|⟨g,cap,cur,rfl,hbg,hg,h3⟩
 .exact .inl h2
 .refine .inr ⟨g,cap,cur,rfl,hbg,?_,h3⟩;rw[hb.block g (hc g rfl)];exact hg
theorem Own.lt {w:World}{B:Nat}{v:Value}{bs:List Nat}(h:Own w B v bs):∀g,v.ownBlock=some g->g<w.heap.size:=by
 intro g hg;rcases h.owns.2 with ⟨rfl,_⟩|⟨g',cap,cur,rfl,hbg,hg',h3⟩
 .cases hg
 .obtain rfl:g'=g:=by simpa [Value.ownBlock]using hg
  exact(Array.getElem?_eq_some_iff.1 hg').1
theorem Own.ge {w:World}{B:Nat}{v:Value}{bs:List Nat}(h:Own w B v bs):∀g,v.ownBlock=some g->B<=g:=by
 intro g hg;rcases h.owns.2 with ⟨rfl,_⟩|⟨g',cap,cur,rfl,hbg,hg',h3⟩
 .cases hg
 .obtain rfl:g'=g:=by simpa [Value.ownBlock]using hg
  exact hbg
theorem Own.belowS {w w':World}{B:Nat}{v:Value}{bs:List Nat}(h:Own w B v bs)(hb:Below w.heap.size w w'):Own w' B v bs:=h.below hb h.lt
theorem Own.mono {w:World}{B B':Nat}{v:Value}{bs:List Nat}(h:Own w B v bs)(hb:B'<=B):Own w B' v bs:=by
 refine⟨⟨h.owns.1,?_⟩⟩;rcases h.owns.2 with h2|⟨g,cap,cur,h1,hbg,h3⟩
 .exact .inl h2
 .exact .inr ⟨g,cap,cur,h1,by omega,h3⟩
theorem grown_below {w w':World}{g:Option Nat}(h:w.grownBy w' g){B:Nat}(hB:B<=w.heap.size)(hg:∀b,g=some b->B<=b):Below B w w' :=
 ⟨h.os,h.tape,h.output,h.size,fun k hk=>h.block k (by omega) (fun e=>by have:=hg k e.symm;omega)⟩
theorem Own.lit (w:World)(bs:List Nat)(hm:bs.length<=9223372036854775807):Own (w.alloc (.cells (bs.map fun(x:Nat)=>Value.int .u8 (x:Int)).toArray 5)) w.heap.size (.slice (some ⟨w.heap.size,0,none⟩) bs.length bs.length) bs:=by
 refine⟨⟨by simp,.inr ⟨w.heap.size,bs.length,_,rfl,Nat.le_refl _,heap_alloc_new w _,Nat.le_refl _,by simpa [maxLen]using hm,by simp,?_⟩⟩⟩;rw[List.take_of_length_le (by simp)]
theorem oC {w:World}{B:Nat}{v:Value}{xs:List Nat}(h:Own w B v xs){p:Option Addr}{m c:Nat}{bs:List Nat}(hr:Bf w .u8 p m c bs)(hn:p=none->c=0)(hmax:xs.length+m<=140737488355328)(hB:B<=w.heap.size)(ty:TypeId) :
  ∃v' w',(Builtin.append_ #[60, 60] ty #[v,.slice p m c]).run Tryz.prog w=.ok v' w'/\Own w' B v' (xs++bs)/\w.grownBy w' v.ownBlock:=by
 obtain⟨i,hi,hz,hs,hb⟩:=info_parts Tryz.info_u8;have hl:=hr.len
 cases p with
 | none =>
  obtain rfl:=hn rfl;have hc:=hr.cap;obtain rfl:m=0:=by omega
  have hbs:bs=[]:=List.eq_nil_of_length_eq_zero hl.symm;refine⟨v,w,run_append_owned_none (P:=Tryz.prog) w B 60 ty 5 i 1 Tryz.underlying60 hi v xs.length _ h.owns,?_,⟨rfl,rfl,rfl,Nat.le_refl _,fun _ _ _=>rfl⟩⟩;rw[hbs,List.append_nil];exact h
 | some a =>
  have hmx:xs.length+m<=maxLen:=by simp only[maxLen];omega
  obtain⟨v',w',h1,h2,h3,_⟩:=run_append_own (P:=Tryz.prog) w B 60 ty 5 i (.int .u8 0) 1 1 Tryz.underlying60 hi hz hs hb (by rfl) (by decide) v xs.length _ h.owns a m c (bs.map fun(x:Nat)=>Value.int .u8 (x:Int)) (by simp[hl])
   (fun j u hu=>by
    rw[List.getElem?_map]at hu
    obtain⟨x,hx,rfl⟩:=Option.map_eq_some_iff.1 hu;have h0:0<m:=by have:=(List.getElem?_eq_some_iff.1 hx).1;omega
    obtain⟨b,off,e,h2,h3⟩:=(hr.row h0).pos h0;cases e;rw[add_plain];exact h3 j x hx)
   (fun u hu=>by obtain⟨x,_,rfl⟩:=List.mem_map.1 hu;rfl) hmx (by omega) hB
  refine⟨v',w',h1,⟨?_⟩,h3⟩;rw[<- List.map_append,hl,<- List.length_append]at h2
  exact h2
theorem De {w:World}{ops:Array Oper}{rest:List Oper}{o:Oper}{a:Act}{Q:Exit->Act->World->Prop}(hgd:o.guard=none)(s x:Operand)(ho:o.op=.call { callee:=.builtin .append,args:=#[s,x],argTypes:=#[60, 60] }){B:Nat}{v:Value}{xs:List Nat}(hs:a.eval s=v)(h:Own w B v xs){p:Option Addr}{m c:Nat}{bs:List Nat}(hx:a.eval x=.slice p m c)(hr:Bf w .u8 p m c bs)(hn:p=none->c=0)(hmax:xs.length+m<=140737488355328)(hB:B<=w.heap.size)(hk:∀v' w',Own w' B v' (xs++bs)->w.grownBy w' v.ownBlock->wpList Tryz.prog ops Q rest (a.put o.dst v') w'):wpList Tryz.prog ops Q (o::rest) a w:=by
 obtain⟨v',w',h1,h2,h3⟩:=oC h hr hn hmax hB o.type;refine wpList_plain hgd fun K hK=>?_
 unfold Oper.wp;simp[execOp,ho,resolve,invoke,builtin,hs,hx,h1,Result.andThen];exact hK _ _ (hk v' w' h2 h3)
inductive Cs (lo:Nat) (bs:List Nat):Value->World->Prop where
 | of (p:Option Addr) (c:Nat) (w:World) (h:Bf w .u8 p bs.length c bs) (hn:Fg lo p) (hz:p=none->c=0) (hp:∀q,p=some q->q.block<w.heap.size):Cs lo bs (.slice p bs.length c) w
theorem Cs.mk {w:World}{B:Nat}{v:Value}{bs:List Nat}(h:Own w B v bs):Cs B bs v w:=by
 obtain⟨p,c,rfl,h1,h2,h3,h4⟩:=h.elim;exact .of p c w h1 h2 h3 h4
theorem Cs.elim {lo:Nat}{bs:List Nat}{v:Value}{w:World}(h:Cs lo bs v w){C:Prop}(k:∀p c,v=.slice p bs.length c->Bf w .u8 p bs.length c bs->Fg lo p->(p=none->c=0)->C):C:=by
 cases h with
 | of p c _ h hn hz hp=>exact k p c rfl h hn hz
theorem Cs.below {lo:Nat}{bs:List Nat}{v:Value}{w w':World}(h:Cs lo bs v w)(hb:Below w.heap.size w w'):Cs lo bs v w':=by
 cases h with
 | of p c _ h hn hz hp=>exact .of p c w' (h.below hb) hn hz (fun q hq=>Nat.lt_of_lt_of_le (hp q hq) hb.size)
theorem Cs.zero {lo:Nat}{bs:List Nat}{v:Value}{w:World}(h:Cs lo bs v w):Cs 0 bs v w:=by
 cases h with
 | of p c _ h hn hz hp=>exact .of p c w h (fun _ _=>Nat.zero_le _) hz hp
def Tl (bs:List Nat)(w:World)(e:Ending)(w':World):Prop:=∃v,e=.returned v/\Cs w.heap.size bs v w'/\Below w.heap.size w w'
theorem Ju (w:World)(bs:List Nat)(hm:bs.length<=9223372036854775807):Bf (w.alloc (.cells (bs.map fun(x:Nat)=>Value.int .u8 (x:Int)).toArray 5)) .u8 (some ⟨w.heap.size,0,none⟩) bs.length bs.length bs:=by
 have h:=Bj.row (w:=w.alloc (.cells (bs.map fun(x:Nat)=>Value.int .u8 (x:Int)).toArray 5)) (g:=w.heap.size) (e := 5) (k:=.u8) (xs:=bs) (heap_alloc_new w _) (n:=bs.length) (c:=bs.length) rfl (Nat.le_refl _) hm;exact⟨rfl,Nat.le_refl _,hm,fun _=>h⟩
structure Part where
 p:Option Addr
 n:Nat
 c:Nat
 bs:List Nat
structure Ar (w:World) (P:Part):Prop where
 row:Bf w .u8 P.p P.n P.c P.bs
 bytes:Aw P.bs
theorem Ar.below {w w':World}{P:Part}(h:Ar w P)(hb:Below w.heap.size w w'):Ar w' P:=⟨h.row.below hb,h.bytes⟩
def whole (L:List Part):List Nat:=L.flatMap (·.bs)
theorem Ho (L:List Part)(P:Part):whole (L++[P])=whole L++P.bs:=by simp[whole]
structure Bp (w:World) (p:Option Addr) (n c:Nat) (L:List Part):Prop where
 len:n=L.length
 cap:n<=c
 max:c<=9223372036854775807
 ok:∀(i:Nat) (P:Part),L[i]? = some P->Ar w P
 cells:0<n->∃b off,p=some ⟨b,off,none⟩/\b<w.heap.size/\∀(i:Nat) (P:Part),L[i]? = some P->w.cell? ⟨b,off+i,none⟩=some (.slice P.p P.n P.c)
theorem Bp.below {w w':World}{p:Option Addr}{n c:Nat}{L:List Part}(h:Bp w p n c L)(hb:Below w.heap.size w w'):Bp w' p n c L :=
 ⟨h.len,h.cap,h.max,fun i P hP=>(h.ok i P hP).below hb,fun h0=>by
  obtain⟨b,off,h1,h2,h3⟩:=h.cells h0;exact⟨b,off,h1,Nat.lt_of_lt_of_le h2 hb.size,fun i P hP=>by rw[hb.cell (p:=⟨b,off+i,none⟩) h2];exact h3 i P hP⟩⟩
theorem Bp.none (w:World)(p:Option Addr):Bp w p 0 0 []:=⟨rfl,Nat.le_refl _,by omega,fun i P h=>by simp at h,fun h=>absurd h (by omega)⟩
theorem fD (w:World)(p:Option Addr)(n c:Nat)(L:List Part)(hT:Tabs w)(hL:Bp w p n c L):Calls Tryz.prog 228 #[.slice p n c] w (Lq (whole L) w):=by
 have HL:Aa (Bp w p n c L):=⟨hL⟩
 have hlen:Aa (n=L.length):=⟨hL.len⟩
 have hcap:=hL.cap;have hmax:=hL.max;clear hL;go_enter Tryz.func228,Tryz.ntmps228
 go_wp2_with fail
 refine(Jr w hT).mono ?_;rintro e w1 ⟨g,rfl,hg,hb1,hh1⟩;go_wp2
 go_loopw [9] (fun i wr=>∃k:Nat,k<=n/\i=.int .i64 k/\Below w.heap.size w wr/\Bm wr g (whole (L.take k))) (fun i _=>n-(intOf i).toNat)
 case atStart=>exact⟨0,by omega,rfl,hb1,hh1⟩
 case round =>
  obtain⟨k,hk,rfl,hbel,hash⟩:=hrel;have hTr:=hT.below hbel hT.size;have hsz:=hT.size
  by_cases hkn:k<n
  .obtain⟨b,off,rfl,hb,hc⟩:=HL.out.cells (by omega);obtain⟨P,hP⟩:∃P,L[k]? = some P:=⟨_,List.getElem?_eq_getElem (by have:=hlen.out;omega)⟩
   have hok:=(HL.out.ok k P hP).below hbel;have hblt:0<P.n->∀q,P.p=some q->q.block≠g:=fun h0 q hq=>by
    obtain⟨b',off',e,h2,_⟩:=((HL.out.ok k P hP).row.row h0).pos h0;rw[hq]at e;cases e
    show b'≠g;omega
   have hck:wr.cell? ⟨b,off+k,none⟩=some (.slice P.p P.n P.c):=by
    rw[(Bu hbel).1 _ _ hb];exact hc k P hP
   have htk:Aa (whole (L.take (k+1))=whole (L.take k)++P.bs):=⟨by rw[List.take_add_one,hP];exact Ho _ _⟩
   have HOK:Aa (Ar wr P):=⟨hok⟩
   have HNE:Aa (0<P.n->∀q,P.p=some q->q.block≠g):=⟨hblt⟩
   clear hc hP hok hblt;obtain⟨pp,pn,pc,pb⟩:=P
   dsimp only at *
   go_wp2_with fail
   refine(Dr wr g _ pp pn pc pb hTr hash (by omega) HOK.out.row HOK.out.bytes HNE.out).mono ?_;rintro e w2 ⟨rfl,hb2,hh2⟩;rw[<- htk.out]at hh2
   have hz:w.heap.size<=wr.heap.size:=hbel.size;have hbel2:=hbel.trans (hb2.below hg hz);go_wp2;go_roundw
   case rel=>exact⟨k+1,by omega,by go_num,hbel2,hh2⟩
   case measure=>simp[intOf];omega
  .obtain rfl:k=n:=by omega
   rw[List.take_of_length_le (by have:=hlen.out;omega)]at hash
   have hz:w.heap.size<=wr.heap.size:=hbel.size
   go_wp2_with fail
   refine(Jw wr g _ hTr hash).mono ?_;rintro e w3 ⟨q,rfl,hq,hb3,hk3⟩;go_wp2;go_ret;exact⟨q,rfl,by omega,hbel.trans (hb3.mono hz),hk3⟩
theorem kA (w:World)(P:Part)(hP:Ar w P):Bp (w.alloc (.cells #[.slice P.p P.n P.c] 60)) (some ⟨w.heap.size,0,none⟩) 1 1 [P]:=by
 have hb:Below w.heap.size w (w.alloc (.cells #[.slice P.p P.n P.c] 60)):=Bt;have hn:=heap_alloc_new w (.cells #[.slice P.p P.n P.c] 60);refine⟨rfl,Nat.le_refl _,by omega,fun i X hX=>?_,fun _=>⟨w.heap.size,0,rfl,by simp,fun i X hX=>?_⟩⟩
 .match i,hX with
  | 0,h=>cases h;exact hP.below hb
 .match i,hX with
  | 0,h=>cases h;unfold World.cell?;dsimp only;rw[hn];rfl
theorem Uk (P:Part):whole [P]=P.bs:=by simp[whole]
theorem qG (w:World)(P Q R:Part)(hP:Ar w P)(hQ:Ar w Q)(hR:Ar w R):Bp (w.alloc (.cells #[.slice P.p P.n P.c,.slice Q.p Q.n Q.c,.slice R.p R.n R.c] 60)) (some ⟨w.heap.size,0,none⟩) 3 3 [P,Q,R]:=by
 have hb:Below w.heap.size w (w.alloc (.cells #[.slice P.p P.n P.c,.slice Q.p Q.n Q.c,.slice R.p R.n R.c] 60)):=Bt;have hn:=heap_alloc_new w (.cells #[.slice P.p P.n P.c,.slice Q.p Q.n Q.c,.slice R.p R.n R.c] 60);refine⟨rfl,Nat.le_refl _,by omega,fun i X hX=>?_,fun _=>⟨w.heap.size,0,rfl,by simp,fun i X hX=>?_⟩⟩
 .match i,hX with
  | 0,h=>cases h;exact hP.below hb
  | 1,h=>cases h;exact hQ.below hb
  | 2,h=>cases h;exact hR.below hb
 .match i,hX with
  | 0,h=>cases h;unfold World.cell?;dsimp only;rw[hn];rfl
  | 1,h=>cases h;unfold World.cell?;dsimp only;rw[hn];rfl
  | 2,h=>cases h;unfold World.cell?;dsimp only;rw[hn];rfl
open Go Go.RowKit Go.Proofs.YthgoeiegdhphjaaGreatDoor.Flow
structure Xt (w:World) (g:Nat) (H:List Nat):Prop where
 k:w.heap[g]? = some (.cells (Du Db) 232 (0,0))
 h:w.heap[g+1]? = some (.cells (Du H) 233 (0,0))
theorem Xt.lt {w:World}{g:Nat}{H:List Nat}(h:Xt w g H):g+1<w.heap.size:=(Array.getElem?_eq_some_iff.1 h.h).1
theorem Xt.below {w w':World}{g:Nat}{H:List Nat}(h:Xt w g H){B:Nat}(hb:Below B w w')(hg:g+1<B):Xt w' g H:=⟨(hb.block g (by omega)).trans h.k,(hb.block (g+1) hg).trans h.h⟩
structure SG (w0:World) (g:Nat) (H H':List Nat) (d7 d8:Bool) (w':World):Prop where
 but:Cp (g+1) w0 w'
 k:w'.heap[g]? = some (.cells (Du Db) 232 (0,0))
 ord:d8=true->d7=true
 old:d8=false->w'.heap[g+1]? = some (.cells (Du H) 233 (0,0))
 new:d8=true->w'.heap[g+1]? = some (.cells (Du H') 233 (0,0))
theorem SG.open {w0 w':World}{g:Nat}{H H':List Nat}{d8:Bool}(h:SG w0 g H H' false d8 w'):d8=false:=by
 cases d8 with
 | false=>rfl
 | true=>exact absurd (h.ord rfl) (by simp)
theorem oL {w:World}{g:Nat}{l:List Nat}(hl:l.length=8)(h:w.heap[g]? = some (.cells (Du l) 233 (0,0))):(loadVar 233 ⟨g,0,none⟩).run Tryz.prog w=.ok (.agg (Du l)) w :=
 run_loadVar_row w g 233 233 _ (0,0) _ h Tryz.underlying233 rfl (Mc hl)
theorem kM {w:World}{g:Nat}{l:List Nat}(hl:l.length=64)(h:w.heap[g]? = some (.cells (Du l) 232 (0,0))):(loadVar 232 ⟨g,0,none⟩).run Tryz.prog w=.ok (.agg (Du l)) w :=
 run_loadVar_row w g 232 232 _ (0,0) _ h Tryz.underlying232 rfl (Sp hl)
theorem jM {w:World}{g:Nat}{l l':List Nat}(hl:l.length=8)(hl':l'.length=8)(h:w.heap[g]? = some (.cells (Du l) 233 (0,0))):(storeVar 233 ⟨g,0,none⟩ (.agg (Du l'))).run Tryz.prog w=.ok () (w.setRow g (Du l')) :=
 run_storeVar_row w g 233 233 (Du l) (Du l') h (Mc hl') (by rw[Iy,Iy,hl,hl']) (Lu l')
theorem jP (w:World)(b off k N c:Nat)(h1:64*k+64<=N)(h2:N<=c) :
  (Instr.sliceAt 60 (.slice (some ⟨b,off,none⟩) N c) (some (.int .i64 (64*(k:Int)))) (some (.int .i64 (64*(k:Int)+64))) none).run Tryz.prog w=.ok (.slice (some ⟨b,off+64*k,none⟩) 64 (c-64*k)) w:=by
 have hel:Tryz.prog.elem 60 = 5 := by kernel_rfl
 have hu:Tryz.prog.underlying 60 = some (.slice (Tryz.prog.elem 60)):=by rw[hel];exact Tryz.underlying60
 rw[run_sliceAt_slice w 60 _ _ _ _ hu,run_slice_lh w 60 _ _ _ hu .i64 .i64 _ _ (by omega) (by omega) (by omega)];have hs:(sizeOf (Tryz.prog.elem 60)).run Tryz.prog w=.ok 1 w:=by rw[hel];simp[go_sem]
 rw[hs];simp only[Result.andThen_ok,sliced];rw[if_neg (by omega)]
 congr 1
 rw[Option.map_some,add_plain]
 congr 1
 .congr 2;omega
 .omega
theorem rG (a b c d e f g h k:Nat)(hk:k<8)(w:World) :
  (Instr.index 233 (.agg #[Value.int .u32 (a:Nat),Value.int .u32 (b:Nat),Value.int .u32 (c:Nat),Value.int .u32 (d:Nat),Value.int .u32 (e:Nat),Value.int .u32 (f:Nat),Value.int .u32 (g:Nat),Value.int .u32 (h:Nat)]) (.int .i64 (k:Nat))).run Tryz.prog w =
   .ok (.int .u32 ([a,b,c,d,e,f,g,h].getD k 0:Nat)) w:=by
 rcases(by omega:k=0 ∨ k=1 ∨ k=2 ∨ k=3 ∨ k=4 ∨ k=5 ∨ k=6 ∨ k=7) with rfl|rfl|rfl|rfl|rfl|rfl|rfl|rfl<;>kernel_rfl
theorem qK (l:List Nat)(hl:l.length=8)(k:Nat)(hk:k<8)(w:World):(Instr.index 233 (.agg (Du l)) (.int .i64 k)).run Tryz.prog w=.ok (.int .u32 (l.getD k 0:Nat)) w:=by
 match l,hl with
 | [a,b,c,d,e,f,g,h],_=>exact rG a b c d e f g h k hk w
theorem Ny {n j:Nat}(hj:j<=Be n):(n+1+j)%64=56 ↔ j=Be n:=by
 unfold Be at *;omega
theorem Wg (w:World)(p:Option Addr)(n c:Nat)(xs:List Nat)(hr:Bf w .u8 p n c xs)(h8:Aw xs)(hz:p=none->c=0)(hn:n<=1000000) :
  Calls Tryz.prog 160 #[.slice p n c] w (Tl (Km xs) w):=by
 have HR:Aa (Bf w .u8 p n c xs):=⟨hr⟩
 have HL:Aa (n=xs.length):=⟨hr.len⟩
 have H8:Aa (Aw xs):=⟨h8⟩
 have HZ:Aa (p=none->c=0):=⟨hz⟩
 have hI64:=Ac (Sp Ef);have hI8:=Ac (Mc Oc);clear hr h8 hz;go_enter Tryz.func160,Tryz.ntmps160
 go_wp2_with fail
 refine(Yg w).mono ?_;rintro e w1 ⟨rfl,hb1⟩;have hG0:Aa (((w1.alloc (.cells (zeros .u32 64) 232)).alloc (.cells (zeros .u32 8) 233)).heap[w1.heap.size]? = some (.cells (zeros .u32 64) 232 (0,0))):=⟨heap_alloc2_old w1 _ _⟩
 have hG1:Aa (((w1.alloc (.cells (zeros .u32 64) 232)).alloc (.cells (zeros .u32 8) 233)).heap[w1.heap.size+1]? = some (.cells (zeros .u32 8) 233 (0,0))):=⟨heap_alloc2_new w1 _ _⟩
 have hW:Aa (Below w.heap.size w ((w1.alloc (.cells (zeros .u32 64) 232)).alloc (.cells (zeros .u32 8) 233))):=⟨Dn hb1 (((Below.refl _ _).alloc (Nat.le_refl _) _).alloc (by simp) _)⟩
 have hz1:=hb1.size
 go_wp2_with (first
  | (refine wpList_store_row rfl 232 _ _ rfl w1.heap.size (Du Db) rfl rfl 232 (zeros .u32 64) hG0.out hI64.out rfl (Lu Db) ?_)
  | (refine wpList_store_row rfl 233 _ _ rfl (w1.heap.size+1) (Du Dj) rfl rfl 233 (zeros .u32 8) ((setRow_other _ w1.heap.size (w1.heap.size+1) _ (by omega)).trans hG1.out) hI8.out rfl (Lu Dj) ?_;refine Ff.out ?_))
 refine⟨?_⟩;refine eT (w':=(((w1.alloc (.cells (zeros .u32 64) 232)).alloc (.cells (zeros .u32 8) 233)).setRow w1.heap.size (Du Db)).setRow (w1.heap.size+1) (Du Dj)) (by kernel_rfl) ?_;have o1:=(setRow_other _ w1.heap.size (w1.heap.size+1) (Du Db) (by omega)).trans hG1.out;have k1:=setRow_heap _ w1.heap.size (zeros .u32 64) (Du Db) 232 (0,0) hG0.out;have k2:=(setRow_other _ (w1.heap.size+1) w1.heap.size (Du Dj) (by omega)).trans k1;have k3:=setRow_heap _ (w1.heap.size+1) (zeros .u32 8) (Du Dj) 233 (0,0) o1;have hb2:=below_setRow (below_setRow hW.out hz1 (Du Db)) (show w.heap.size<=w1.heap.size+1 by omega) (Du Dj);generalize hw2:World.setRow (World.setRow _ _ _) _ _=w2 at *;have HSB:Aa (Xt w2 w1.heap.size Dj):=⟨⟨k2,k3⟩⟩
 have HB2:Aa (Below w.heap.size w w2):=⟨hb2⟩
 have hgw:w1.heap.size+1<w2.heap.size:=HSB.out.lt;obtain⟨G,hG⟩:∃G,w1.heap.size=G:=⟨_,rfl⟩
 rw[hG]at HSB hgw hz1
 simp only[hG];clear o1 k1 k2 k3 hb2 hw2 hG0 hG1 hW hb1 hG hI64 hI8;have hrow0:Aa (Bf (w2.alloc (.cells #[] 5)) .u8 p n c xs):=⟨HR.out.below (HB2.out.trans (((Below.refl _ _).alloc (Nat.le_refl _) _).mono HB2.out.size))⟩
 have hbd:Below w2.heap.size w2 (w2.alloc (.cells #[] 5)):=Bt;have HO0:Aa (Own (w2.alloc (.cells #[] 5)) w2.heap.size (.slice (some ⟨w2.heap.size,0,none⟩) 0 0) []):=⟨Own.lit w2 [] (by decide)⟩
 have hmx:Aa (([]:List Nat).length+n<=140737488355328):=⟨by simp;omega⟩
 have hsz3:w2.heap.size<=(w2.alloc (.cells #[] 5)).heap.size:=hbd.size
 go_wp2_with (at_builtin;refine De rfl _ _ rfl rfl HO0.out rfl hrow0.out HZ.out hmx.out hsz3 ?_;intro v1 w3 ho1 hg1;refine Ff.out ?_)
 refine⟨?_⟩;rw[List.nil_append]at ho1
 have hb3:Below w2.heap.size w2 w3:=hbd.trans (grown_below hg1 hsz3 (fun b hb=>by cases hb;exact Nat.le_refl _));clear hg1 hrow0 hbd hmx hsz3 HR HZ;obtain⟨q1,c1,rfl,r1,_,z1,_⟩:=ho1.elim;have HN:Aa (Be xs.length=Be n/\xs.length=n):=⟨by rw[HL.out],HL.out.symm⟩
 have hM:((xs.length:Int)*8)%18446744073709551616=((n*8:Nat):Int):=by have:=HL.out;omega
 have hM':IntKind.u64.wrap ((xs.length:Int)*8)=((n*8:Nat):Int):=hM;have HO1:Aa (Own w3 w2.heap.size (.slice q1 xs.length c1) xs):=⟨ho1⟩
 clear ho1 r1 z1;have hl:xs.length<=1000000:=by have:=HL.out;omega
 have hsz3:=hb3.size;have hb4:Below w3.heap.size w3 (w3.alloc (.cells #[.int .u8 128] 5)):=Bt;have HO2:Aa (Own (w3.alloc (.cells #[.int .u8 128] 5)) w2.heap.size (.slice q1 xs.length c1) xs):=⟨HO1.out.belowS hb4⟩
 have hrow:Aa (Bf (w3.alloc (.cells #[.int .u8 128] 5)) .u8 (some ⟨w3.heap.size,0,none⟩) 1 1 [128]):=⟨Ju w3 [128] (by decide)⟩
 have hsz4:w2.heap.size<=(w3.alloc (.cells #[.int .u8 128] 5)).heap.size:=Nat.le_trans hsz3 hb4.size
 go_wp2_with (at_builtin;refine De rfl _ _ rfl rfl HO2.out rfl hrow.out (fun h=>by cases h) (by omega) hsz4 ?_;intro v2 w4 ho2 hg2;refine Ff.out ?_)
 refine⟨?_⟩;have hb5:Below w2.heap.size w2 w4:=(hb3.trans (hb4.mono hsz3)).trans (grown_below hg2 hsz4 HO2.out.ge);clear hg2 hb4 HO1 HO2 hrow hsz4 hsz3 hb3;have HX:Aa (w2.heap.size<=w4.heap.size):=⟨hb5.size⟩
 go_wp2
 go_loopw [5] (fun x wr=>∃(j:Nat) (v:Value),j<=Be n/\v=x/\Aa (Own wr w2.heap.size v (xs++128::List.replicate j 0))/\Aa (Below w2.heap.size w2 wr)) (fun x _=>n+1+Be n-(match x with | .slice _ l _=>l|_=>0))
 case atStart=>exact⟨0,v2,by omega,rfl,⟨ho2⟩,⟨hb5⟩⟩
 case round =>
  obtain⟨j,v,hj,rfl,HOW,HBE⟩:=hrel;obtain⟨q,c5,rfl,_,_,_,_⟩:=HOW.out.elim;obtain⟨L,hL⟩:∃L,(xs++128::List.replicate j 0).length=L:=⟨_,rfl⟩
  have hLn:L=n+1+j:=by rw[<- hL];simp;have:=HL.out;omega
  have hnn:Be n<64:=by unfold Be;omega
  rw[hL]at HOW ⊢
  have HLe:Aa ((xs++128::List.replicate j 0).length=L):=⟨hL⟩
  clear hL;have hsz:=HBE.out.size
  by_cases hjn:j=Be n
  .have ht:(L:Int)%64=56:=by have:=(Ny (n:=n) hj).2 hjn;omega
   have ht':(L:Int).tmod 64=56:=by rw[Int.tmod_eq_emod_of_nonneg (by omega)];exact ht
   have hw4:=HX.out;have HP:Aa (xs++128::List.replicate j 0=xs++128::(List.replicate (Be n) 0++(Ya (n*8)).take 0)):=⟨by rw[hjn,List.take_zero,List.append_nil]⟩
   have HLn:Aa (L=n+1+j):=⟨hLn⟩
   clear hLn;go_wp2
   go_loopw [5,7] (fun x i wr=>∃v:Value,v=x/\Aa (Below w2.heap.size w2 wr)/\((∃k d:Nat,k+d=7/\i=.int .i64 d/\Aa (Own wr w2.heap.size v (xs++128::(List.replicate (Be n) 0++(Ya (n*8)).take k)))) ∨ (i=.int .i64 (-1)/\Aa (Own wr w2.heap.size v (xs++128::(List.replicate (Be n) 0++(Ya (n*8)).take 8)))))) (fun _ i _=>(intOf i+1).toNat)
   case atStart=>exact⟨_,rfl,HBE,.inl ⟨0,7,rfl,rfl,⟨by rw[<- HP.out];exact HOW.out⟩⟩⟩
   case round =>
    obtain⟨v,rfl,HBE2,hor⟩:=hrel;have hsz2:=HBE2.out.size;rcases hor with ⟨k,d,hkd,rfl,HOW2⟩|⟨rfl,HOW2⟩
    .obtain⟨b,hb⟩:∃b,n*8/2^(8*d)%256=b:=⟨_,rfl⟩
     have hv:(n:Int)*8/2^(8*d)%256=(b:Int):=by
      rw[<- hb,Int.natCast_emod,Int.natCast_ediv,Int.natCast_pow,Int.natCast_mul];rfl
     have hb256:b<256:=by omega
     have HE:Aa ((xs++128::(List.replicate (Be n) 0++(Ya (n*8)).take k))++[b]=xs++128::(List.replicate (Be n) 0++(Ya (n*8)).take (k+1))):=⟨by
      have h1:(Ya (n*8))[k]? = some b:=by
       unfold Ya;rw[List.getElem?_map,List.getElem?_range (by omega),Option.map_some,show 7-k=d by omega,hb]
      rw[List.take_add_one,h1,List.append_assoc,List.cons_append,List.append_assoc];rfl⟩
     have HLk:Aa ((xs++128::(List.replicate (Be n) 0++(Ya (n*8)).take k)).length<=n+80):=⟨by simp[Ia];have:=HL.out;omega⟩
     obtain⟨Y,hY⟩:∃Y,xs++128::(List.replicate (Be n) 0++(Ya (n*8)).take k)=Y:=⟨_,rfl⟩
     rw[hY]at HOW2 HE HLk
     clear hY hb;obtain⟨q2,c2,rfl,_,_,_,_⟩:=HOW2.out.elim;have hb6:Below wr.heap.size wr (wr.alloc (.cells #[.int .u8 b] 5)):=Bt;have HO3:Aa (Own (wr.alloc (.cells #[.int .u8 b] 5)) w2.heap.size (.slice q2 Y.length c2) Y):=⟨HOW2.out.belowS hb6⟩
     have hrow:Aa (Bf (wr.alloc (.cells #[.int .u8 b] 5)) .u8 (some ⟨wr.heap.size,0,none⟩) 1 1 [b]):=⟨Ju wr [b] (show 1<=9223372036854775807 by decide)⟩
     have hsz6:w2.heap.size<=(wr.alloc (.cells #[.int .u8 b] 5)).heap.size:=Nat.le_trans hsz2 hb6.size;have hmx:Aa (Y.length+1<=140737488355328):=⟨by have:=HLk.out;omega⟩
     have HB6:Aa (Below w2.heap.size w2 (wr.alloc (.cells #[.int .u8 b] 5))):=⟨HBE2.out.trans (hb6.mono hsz2)⟩
     have a8:(8*(d:Int)).toNat=8*d:=by omega
     have d7:d<=7:=by omega
     clear hb6
     go_wp2_with (at_builtin;refine De rfl _ _ rfl rfl HO3.out rfl hrow.out (fun h=>by cases h) hmx.out hsz6 ?_;intro v3 w6 ho3 hg3;refine Ff.out ?_)
     refine⟨?_⟩;have hb7:=grown_below hg3 hsz6 HO3.out.ge;rw[HE.out]at ho3
     have HO4:=Ac ho3;have HB7:=Ac (HB6.out.trans hb7);clear hg3 ho3 hb7 HB6 HO3 hrow;go_wp2;go_roundw
     case rel =>
      refine⟨_,rfl,HB7,?_⟩;rcases Nat.eq_zero_or_pos d with rfl|hd
      .obtain rfl:k=7:=by omega
       exact .inr ⟨rfl,HO4⟩
      .exact .inl ⟨k+1,d-1,by omega,(show Value.int .i64 ((d:Int)-1)=.int .i64 ((d-1:Nat):Int) from congrArg (Value.int .i64) (by omega)),HO4⟩
     case measure=>simp[intOf]
    .have HMM:Aa (xs++128::(List.replicate (Be n) 0++(Ya (n*8)).take 8)=xs++behind xs.length):=⟨by
      unfold behind;rw[HN.out.1,HN.out.2,List.take_of_length_le (by rw[Ia];exact Nat.le_refl _),Nat.mod_eq_of_lt (show n*8<18446744073709551616 by omega)]⟩
     rw[HMM.out]at HOW2
     have hall:=dP xs.length;obtain⟨K,hK⟩:∃K,(xs.length+(behind xs.length).length)/64=K:=⟨_,rfl⟩
     have hml:(xs++behind xs.length).length=64*K:=by rw[List.length_append];omega
     have hK0:0<K:=by have:=Gi xs.length;omega
     have hKb:K<=100000:=by
      have h1:=Gi xs.length;have h2:Be xs.length<64:=by unfold Be;omega
      omega
     have H8m:Aa (Aw (xs++behind xs.length)):=⟨fun x hx=>by
      rcases List.mem_append.1 hx with h|h
      .exact H8.out x h
      .exact Oq _ x h⟩
     have HSha:Aa (Km xs=(blocks (xs++behind xs.length) K).flatMap Eo):=⟨by unfold Km;rw[hK]⟩
     obtain⟨mm,hmm⟩:∃mm,xs++behind xs.length=mm:=⟨_,rfl⟩
     rw[hmm]at HOW2 hml H8m HSha
     clear hmm hall HMM;obtain⟨q3,c7,rfl,hr7,hn7,_,_⟩:=HOW2.out.elim;obtain⟨b,off,rfl,hbl,Bl⟩:=(hr7.row (by omega)).pos (by omega);have hbge:w2.heap.size<=b:=hn7 _ rfl;have hcap7:=hr7.cap;have hmax7:=hr7.max;rw[hml]at hcap7 ⊢
     have HCell:Aa (∀w',Cp (G+1) wr w'->∀(i x:Nat),mm[i]? = some x->w'.cell? ⟨b,off+i,none⟩=some (.int .u8 (x:Int))):=⟨fun w' hb i x hx=>by
      rw[hb.cell (p:=⟨b,off+i,none⟩) hbl (by show b≠G+1;omega)];exact Bl i x hx⟩
     have HS0:Aa (Xt wr G (blocks mm 0)):=⟨HSB.out.below HBE2.out hgw⟩
     have HML:Aa (mm.length=64*K):=⟨hml⟩
     clear hr7 hn7 Bl HOW2 hml hK;have HB8:Aa (Below w2.heap.size w2 wr):=HBE2;go_wp2
     go_loopw [8] (fun i w'=>∃k:Nat,k<=K/\i=.int .i64 ((64*k:Nat):Int)/\Aa (Cp (G+1) wr w')/\Aa (Xt w' G (blocks mm k))) (fun i _=>64*K-(intOf i).toNat)
     case atStart=>exact⟨0,by omega,rfl,⟨Cp.refl _ _⟩,HS0⟩
     case round =>
      obtain⟨k,hk,rfl,HBut,HSk⟩:=hrel
      by_cases hkK:k<K
      .have hlt:64*k<64*K:=by omega
       have hlt':((64*k:Nat):Int)<((64*K:Nat):Int):=by omega
       have hgl:G+1<wr.heap.size:=HSk.out.lt;obtain⟨Hk,hHk⟩:∃H,blocks mm k=H:=⟨_,rfl⟩
       obtain⟨Hn,hHn⟩:∃H,blocks mm (k+1)=H:=⟨_,rfl⟩
       have HHk:Aa (Hk.length=8/\Words Hk/\Hn.length=8):=⟨by rw[<- hHk,<- hHn];exact⟨Cj mm k,Hd mm k,Cj mm (k+1)⟩⟩
       have HStep:Aa (Pi Hk ((mm.drop (64*k)).take 64)=Hn):=⟨by rw[<- hHn,<- hHk];rfl⟩
       rw[hHk]at HSk
       have HPl:Aa (((mm.drop (64*k)).take 64).length=64):=⟨by simp;have:=HML.out;omega⟩
       have HNx:Aa (blocks mm (k+1)=Hn):=⟨hHn⟩
       clear hHk hHn;go_wp2;refine Ai (by kernel_rfl) (by kernel_rfl)
        [some (.agg (Du Hk)),some (.slice (some ⟨b,off,none⟩) (64*K) c7),some (.int .i64 ((64*k:Nat):Int)),some (.int .i64 ((64*k:Nat):Int)),some (.int .i64 ((64*k:Nat)+64:Int)),some (.slice (some ⟨b,off+64*k,none⟩) 64 (c7-64*k)),some (.agg (Du Db)),none,none]
        [false,false,false,false,false,false,false,true,true] rfl
        (fun w1 w2=>Cp (G+1) w1 w2) (fun D w'=>SG wr G Hk Hn (D 7) (D 8) w')
        (fun i v w'=>match i with
         | 7=>v=.agg (Du Hn)
         | _=>True)
        ?_ ⟨Cp.drew (Cp.refl _ _),HSk.out.k,(fun e=>by cases e),(fun _=>HSk.out.h),fun e=>by cases e⟩ ?_ ?_
       .intro i v w1 w2 hf hb;split at hf
        .exact hf
        .trivial
       .simp only[Ba,Nat.reduceAdd];refine⟨?_,?_,?_,?_,?_,?_,?_,?_,?_,trivial⟩
        case refine_1 =>
         intro D sp w' hD hW hdp hG;have h7:D 7=false:=hW 7 (mq (by kernel_rfl));rw[h7]at hG
         have hk8:=oL HHk.out.1 (hG.old hG.open)
         (with_reducible refine Ag (v:=.agg (Du Hk)) (w1:=w') ?_ ?_ ⟨rfl,rfl⟩)
         .simp[Region.wanted,go_sem]
         .simp[execOp,Act.eval,Instr.loadAt,Instr.sureAddr,Result.andThen_ok,hk8]
        case refine_6 =>
         intro D sp w' hD hW hdp hG;have hsl:=jP w' b off k (64*K) c7 (by omega) hcap7
         (with_reducible refine Ag (v:=.slice (some ⟨b,off+64*k,none⟩) 64 (c7-64*k)) (w1:=w') ?_ ?_ ⟨rfl,rfl⟩)
         .simp[Region.wanted,go_sem]
         .simp[execOp,Act.eval,Act.put,hsl,Result.andThen_ok]
        case refine_7 =>
         intro D sp w' hD hW hdp hG;have hk8:=kM Ef hG.k
         (with_reducible refine Ag (v:=.agg (Du Db)) (w1:=w') ?_ ?_ ⟨rfl,rfl⟩)
         .simp[Region.wanted,go_sem]
         .simp[execOp,Act.eval,Act.put,Instr.loadAt,Instr.sureAddr,Result.andThen_ok,hk8]
        case refine_8 =>
         intro D sp w' hD hW hdp hG;have h8:D 8=false:=hW 8 (mq (by kernel_rfl));have hcl:=HCell.out w' (HBut.out.trans hG.but);have hbw:b<w'.heap.size:=Nat.lt_of_lt_of_le (Nat.lt_of_lt_of_le hbl HBut.out.size) hG.but.size
         (with_reducible refine Ab (w1:=w') (f := 198) (args:=#[.agg (Du Hk),.slice (some ⟨b,off+64*k,none⟩) 64 (c7-64*k),.agg (Du Db)]) ?_ ?_ ?_)
         .simp[Region.wanted,go_sem]
         .simp[Act.eval,Act.put,go_sem]
         .refine(Rx w' Hk ((mm.drop (64*k)).take 64) b (off+64*k) (c7-64*k) HHk.out.1 HHk.out.2.1 HPl.out (fun x hx=>H8m.out x (List.mem_of_mem_drop (List.mem_of_mem_take hx))) hbw (by omega) (by omega) (fun i x hx=>?_)).mono ?_
          .rw[Nat.add_assoc];refine hcl (64*k+i) x ?_;rw[List.getElem?_take]at hx
           split at hx
           .rw[List.getElem?_drop]at hx;exact hx
           .cases hx
          .rintro e w5 ⟨rfl,hb⟩;rw[HStep.out];refine⟨_,rfl,Cp.of hb,rfl,hG.but.trans (Cp.of hb),?_,(fun e=>?_),(fun _=>?_),fun e=>?_⟩
           .have hx:=hG.k;rw[hb.block G (Array.getElem?_eq_some_iff.1 hx).1];exact hx
           .simp[h8]at e
           .have hx:=hG.old h8;rw[hb.block (G+1) (Array.getElem?_eq_some_iff.1 hx).1];exact hx
           .simp[h8]at e
        case refine_9 =>
         intro D sp w' hD hW hdp hG;have h7:=(hdp 7 (mq (by kernel_rfl))).1;have hv:sp 7=.agg (Du Hn):=(hdp 7 (mq (by kernel_rfl))).2;have hst:=jM HHk.out.1 HHk.out.2.2 (hG.old hD);have hb5:Cp (G+1) w' (w'.setRow (G+1) (Du Hn)):=Cp.setRow _ _
         (with_reducible refine Ao (w1:=w'.setRow (G+1) (Du Hn)) ?_ ?_ ?_)
         .simp[Region.wanted,go_sem]
         .simp[execOp,Act.eval,Act.put,hv,Instr.storeAt,Instr.sureAddr,Result.andThen_ok,hst]
         .exact⟨hb5,trivial,hG.but.trans hb5,(setRow_other _ (G+1) G _ (by omega)).trans hG.k,(fun _=>by simp[h7]),(fun e=>by simp at e),fun _=>setRow_heap _ _ _ _ _ _ (hG.old hD)⟩
        all_goals
         intro D sp w' hD hW hdp hG;have hwr:IntKind.i64.wrap (64*(k:Int)+64)=64*(k:Int)+64:=IntWalk.i64_in _ (by omega);simp[asked,Region.wanted,Oper.gives,execOp,Act.eval,Act.put,go_sem,hwr]
       .intro sp w5 hsp hG;have HB9:Aa (Cp (G+1) wr w5):=⟨hG.but⟩
        have HS9:Aa (Xt w5 G (blocks mm (k+1))):=⟨⟨hG.k,by rw[HNx.out];exact hG.new rfl⟩⟩
        clear hsp hG;simp only[An,Nat.reduceAdd];generalize sp 7=u7';generalize sp 8=u8';have HB10:=Ac (HBut.out.trans HB9.out);clear HB9 HBut;go_wp2;go_roundw
        case rel=>exact⟨k+1,by omega,(show Value.int .i64 (((64*k:Nat):Int)+64)=.int .i64 ((64*(k+1):Nat):Int) from congrArg (Value.int .i64) (by omega)),HB10,HS9⟩
        case measure=>simp[intOf];omega
      .obtain rfl:k=K:=by omega
       obtain⟨Hf,hHf⟩:∃H,blocks mm k=H:=⟨_,rfl⟩
       rw[hHf]at HSk HSha
       have HHf:Aa (Hf.length=8/\Words Hf):=⟨by rw[<- hHf];exact⟨Cj mm k,Hd mm k⟩⟩
       have hbw8:Below w.heap.size w w2:=HB2.out;have HW8:=(hbw8.trans (HB8.out.mono hbw8.size)).trans (HBut.out.below (show w.heap.size<=G+1 by omega) (Nat.le_trans hbw8.size HB8.out.size));clear hHf hbw8 HB8 HBut HCell HML H8m HS0;have hwz:=HW8.size;have HC8:Aa ((World.alloc _ (.cells #[] 5)).heap[G+1]? = some (.cells (Du Hf) 233 (0,0))):=⟨(heap_alloc_old _ _ (r:=G+1) HSk.out.lt).trans HSk.out.h⟩
       have HOwn:=(Own.lit _ [] (by decide)).mono hwz;have HBn:=Dn HW8 ((Below.refl _ _).alloc (Nat.le_refl _) (.cells #[] 5));have HO8:=Ac HOwn;have HB8:=Ac HBn;have HI8:=Ac (Mc HHf.out.1);clear HOwn HBn HW8
       go_wp2_with (refine wpList_load_row rfl 233 _ rfl (G+1) rfl 233 (Du Hf) (0,0) _ HC8.out Tryz.underlying233 rfl HI8.out ?_)
       go_loopw [9,62] (fun x i w'=>∃(k:Nat) (v:Value),k<=8/\i=.int .i64 k/\v=x/\Aa (Own w' w.heap.size v ((Hf.take k).flatMap Eo))/\Aa (Below w.heap.size w w')) (fun _ i _=>8-(intOf i).toNat)
       case atStart=>exact⟨0,_,by omega,rfl,rfl,HO8,HB8⟩
       case round =>
        obtain⟨j,v,hj,rfl,rfl,HOj,HBj⟩:=hrel;have hszj:=HBj.out.size
        by_cases hj8:j<8
        .obtain⟨x,hx⟩:∃x,Hf.getD j 0=x:=⟨_,rfl⟩
         have hx32:x<4294967296:=by rw[<- hx];exact HHf.out.2.get j
         have hidx:∀wx:World,(Instr.index 233 (.agg (Du Hf)) (.int .i64 j)).run Tryz.prog wx=.ok (.int .u32 (x:Nat)) wx:=fun wx=>by rw[<- hx];exact qK Hf HHf.out.1 j hj8 wx
         obtain⟨b0,hb0⟩:∃v,x/16777216%256=v:=⟨_,rfl⟩
         obtain⟨b1,hb1⟩:∃v,x/65536%256=v:=⟨_,rfl⟩
         obtain⟨b2,hb2⟩:∃v,x/256%256=v:=⟨_,rfl⟩
         obtain⟨b3,hb3⟩:∃v,x%256=v:=⟨_,rfl⟩
         have HE:Aa ((Hf.take j).flatMap Eo++[b0,b1,b2,b3]=(Hf.take (j+1)).flatMap Eo):=⟨by
          rw[Fo Hf j (by rw[HHf.out.1];exact hj8),hx,List.flatMap_append,<- hb0,<- hb1,<- hb2,<- hb3];rfl⟩
         have e0:(x:Int)/16777216=(b0:Int):=by omega
         have e1:(x:Int)/65536%256=(b1:Int):=by omega
         have e2:(x:Int)/256%256=(b2:Int):=by omega
         have e3:(x:Int)%256=(b3:Int):=by omega
         have l0:b0<256:=by omega
         have e0':(b0:Int)%256=(b0:Int):=by omega
         have HLj:Aa (((Hf.take j).flatMap Eo).length+4<=140737488355328):=⟨by
          rw[Io];have:=List.length_take_le j Hf;have:=HHf.out.1;simp;omega⟩
         clear hx hb0 hb1 hb2 hb3;have hb6:∀wr:World,Below wr.heap.size wr (wr.alloc (.cells #[.int .u8 b0,.int .u8 b1,.int .u8 b2,.int .u8 b3] 5)):=fun wr=>(Below.refl _ _).alloc (Nat.le_refl _) _
         have HO3:Aa (Own (wr.alloc (.cells #[.int .u8 b0,.int .u8 b1,.int .u8 b2,.int .u8 b3] 5)) w.heap.size v ((Hf.take j).flatMap Eo)):=⟨HOj.out.belowS (hb6 wr)⟩
         have hrow:Aa (Bf (wr.alloc (.cells #[.int .u8 b0,.int .u8 b1,.int .u8 b2,.int .u8 b3] 5)) .u8 (some ⟨wr.heap.size,0,none⟩) 4 4 [b0,b1,b2,b3]):=⟨Ju wr [b0,b1,b2,b3] (show 4<=9223372036854775807 by decide)⟩
         have hsz6:w.heap.size<=(wr.alloc (.cells #[.int .u8 b0,.int .u8 b1,.int .u8 b2,.int .u8 b3] 5)).heap.size:=Nat.le_trans hszj (hb6 wr).size;have HB6:Aa (Below w.heap.size w (wr.alloc (.cells #[.int .u8 b0,.int .u8 b1,.int .u8 b2,.int .u8 b3] 5))):=⟨Dn HBj.out (hb6 wr)⟩
         clear hb6
         go_wp2_with (at_builtin;refine De rfl _ _ rfl rfl HO3.out rfl hrow.out (fun h=>by cases h) HLj.out hsz6 ?_;intro v3 w6 ho3 hg3;refine Ff.out ?_)
         refine⟨?_⟩;have hb7:=grown_below hg3 hsz6 HO3.out.ge;rw[HE.out]at ho3
         have HO4:=Ac ho3;have HB7:=Ac (HB6.out.trans hb7);clear hg3 ho3 hb7 HB6 HO3 hrow e0 e1 e2 e3 e0';go_wp2;go_roundw
         case rel=>exact⟨j+1,_,by omega,by go_num,rfl,HO4,HB7⟩
         case measure=>simp[intOf];omega
        .obtain rfl:j=8:=by omega
         have HFin:=HOj.out;rw[List.take_of_length_le (by rw[HHf.out.1];exact Nat.le_refl _),<- HSha.out]at HFin
         have HF:=Ac HFin;clear HFin HOj;go_wp2;go_ret;exact⟨_,rfl,Cs.mk HF.out,HBj.out⟩
  .have hne:¬(L:Int)%64=56:=by have:=(Ny (n:=n) hj);omega
   have hne':¬(L:Int).tmod 64=56:=by rw[Int.tmod_eq_emod_of_nonneg (by omega)];exact hne
   have hb6:Below wr.heap.size wr (wr.alloc (.cells #[.int .u8 0] 5)):=Bt;have HO3:Aa (Own (wr.alloc (.cells #[.int .u8 0] 5)) w2.heap.size (.slice q L c5) (xs++128::List.replicate j 0)):=⟨HOW.out.belowS hb6⟩
   have hrow:Aa (Bf (wr.alloc (.cells #[.int .u8 0] 5)) .u8 (some ⟨wr.heap.size,0,none⟩) 1 1 [0]):=⟨Ju wr [0] (by decide)⟩
   have hsz6:w2.heap.size<=(wr.alloc (.cells #[.int .u8 0] 5)).heap.size:=Nat.le_trans hsz hb6.size;have hmx:Aa ((xs++128::List.replicate j 0).length+1<=140737488355328):=⟨by rw[HLe.out];omega⟩
   have HB6:Aa (Below w2.heap.size w2 (wr.alloc (.cells #[.int .u8 0] 5))):=⟨HBE.out.trans (hb6.mono hsz)⟩
   have HE:Aa ((xs++128::List.replicate j 0)++[0]=xs++128::List.replicate (j+1) 0):=⟨by rw[List.append_assoc,List.cons_append,List.replicate_succ']⟩
   clear hb6
   go_wp2_with (at_builtin;refine De rfl _ _ rfl rfl HO3.out rfl hrow.out (fun h=>by cases h) hmx.out hsz6 ?_;intro v3 w6 ho3 hg3;refine Ff.out ?_)
   refine⟨?_⟩;have hb7:=grown_below hg3 hsz6 HO3.out.ge;rw[HE.out]at ho3
   obtain⟨q3,c3,hv3,_,_,_,_⟩:=ho3.elim;have hL3:(xs++128::List.replicate (j+1) 0).length=L+1:=by rw[<- HE.out,List.length_append,HLe.out];rfl
   rw[hL3]at hv3
   subst hv3;have HO4:=Ac ho3;have HB7:=Ac (HB6.out.trans hb7);clear hg3 ho3 hb7 HB6 HO3 hrow;go_wp2;go_roundw
   case rel=>exact⟨j+1,_,by omega,rfl,HO4,HB7⟩
   case measure=>show n+1+Be n-(L+1)<n+1+Be n-L;omega
end Go.Proofs.YthgoeiegdhphjaaGreatDoor
