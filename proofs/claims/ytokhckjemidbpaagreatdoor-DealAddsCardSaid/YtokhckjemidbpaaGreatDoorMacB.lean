/- A key's block, and the two sums under a key. -/
import Derived.Test.YtokhckjemidbpaaGreatDoorShaT
import Derived.StillTailTactics
import Derived.Deep.RegionLaw
import Derived.Laws.OwnMore
import Derived.ArgAppend
import Derived.Laws.CopyOwn
import Derived.Tactics
import Derived.Laws.BytesArg
import Derived.Laws.BytesString
import Derived.WideShapes
set_option maxRecDepth 1000000
set_option maxHeartbeats 16000000
set_option linter.all false
namespace Go.Proofs.YtokhckjemidbpaaGreatDoor
open Go Go.RowKit
theorem kL {i:Int}(n:Nat)(hi:i=(n:Nat))(h:n<=4294967296)(w:World):(Instr.makeSlice 23 (.int .u64 i) (.int .u64 i)).run Tryz.prog w =
  .ok (.slice (some ⟨w.heap.size,0,none⟩) n n) (w.alloc (.cells (zeros .u8 n) 5)):=by
 subst hi;obtain⟨i,hi,hz,hs,hb⟩:=info_parts Tryz.info_u8;have:=run_make (P:=Tryz.prog) w 23 5 i (.int .u8 0) Tryz.underlying23 hi hz .u64 .u64 n n (by omega) (Int.le_refl _) (by rw[hb];omega) (by omega);simp only[Int.toNat_natCast,hs,Nat.mul_one]at this;rw[this,<-Nh];rfl
theorem dY (n:Nat):behind (n%18446744073709551616)=behind n:=by
 unfold behind;rw[show Dr (n%18446744073709551616)=Dr n by unfold Dr;omega,show n%18446744073709551616*8%18446744073709551616=n*8%18446744073709551616 by omega]
def Od (nn M k:Nat):List Nat:=128::(List.replicate (nn+(8-k)) 0++(oV M).drop (8-k))
theorem dW (nn M:Nat):Od nn M 0=(List.replicate (nn+9) 0).set 0 128:=by
 unfold Od;rw[List.drop_of_length_le (by rw[Nf];omega),List.append_nil];rfl
theorem iM (nn M k:Nat)(hk:k<8):(Od nn M k).set (nn+8-k) (M/2^(8*k)%256)=Od nn M (k+1):=by
 unfold Od;rw[show nn+8-k=(nn+(8-(k+1)))+1 by omega,List.set_cons_succ]
 congr 1
 rw[show nn+(8-k)=(nn+(8-(k+1)))+1 by omega,List.replicate_succ',List.append_assoc,List.set_append_right _ _ (by simp),List.length_replicate,Nat.sub_self]
 congr 1
 have h:8-(k+1)<(oV M).length:=by rw[Nf];omega
 rw[List.singleton_append,List.set_cons_zero,List.drop_eq_getElem_cons h,show 8-(k+1)+1=8-k by omega]
 congr 1
 simp only[oV,List.getElem_map,List.getElem_range];rw[show 7-(8-(k+1))=k by omega]
theorem iN (nn M k:Nat)(hk:k<8):(Od nn M k)[nn+8-k]? = some 0:=by
 unfold Od;rw[show nn+8-k=(nn+(8-(k+1)))+1 by omega,List.getElem?_cons_succ,List.getElem?_append_left (by simp;omega)];simp[List.getElem?_replicate];omega
theorem Xu (w:World)(N:Nat)(hN:N<18446744073709551616) :
  Calls Tryz.prog 225 #[.int .u64 N] w fun e w'=>e=.returned (.slice (some ⟨w.heap.size,0,none⟩) (Dr N+9) (Dr N+9))/\Below w.heap.size w w'/\Bp w' w.heap.size 5 .u8 (behind N):=by
 obtain⟨nn,hnn⟩:∃nn,Dr N=nn:=⟨_,rfl⟩
 have hn63:nn<64:=by rw[<-hnn];unfold Dr;omega
 have t1:(119-(N:Int)%64)%64=(nn:Int):=by rw[<-hnn];unfold Dr;omega
 have HB:Hid (behind N=Od nn (N*8%18446744073709551616) 8):=by unfold behind;rw[hnn];rfl
 rw[hnn];clear hnn;have hmk:=fun wx=>kL (i:=1+(nn:Int)+8) (nn+9) (by omega) (by omega) wx
 go_enter Tryz.func225,Tryz.ntmps225;go_wp2;obtain⟨M,hM⟩:∃M,N*8%18446744073709551616=M:=⟨_,rfl⟩
 have hM2:IntKind.u64.wrap ((N:Int)*8)=(M:Int):=by
  show (N:Int)*8%18446744073709551616=(M:Int)
  omega
 have hM64:M<18446744073709551616:=by omega
 rw[hM]at HB
 clear hM;simp only[hM2];clear hM2
 go_loopw [19] (fun i wr=>∃k:Nat,k<=8/\i=.int .i64 k/\w.heap.size<wr.heap.size/\Below w.heap.size w wr/\Bp wr w.heap.size 5 .u8 (Od nn M k)) (fun i _=>8-(intOf i).toNat)
 case atStart=>
  refine⟨0,by omega,rfl,by simp,(Ba _ _).alloc (Aw _) _,?_⟩;rw[dW];have e:(zeros .u8 (nn+9)).setIfInBounds 0 (.int .u8 128)=(((List.replicate (nn+9) 0).set 0 128).map fun(x:Nat)=>Value.int .u8 x).toArray:=by
   unfold zeros;rw[List.map_set];rfl
  rw[e];exact heap_alloc_new w _
 case round=>
  obtain⟨k,hk,rfl,hsz,hbel,hblk⟩:=hrel
  by_cases hk8:k<8
  .have e0:=hblk.cell (iN nn M k hk8);have e1:=hblk.free (nn+8-k);have hset:=Ai (iM nn M k hk8);have a1:((nn:Int)+8-k).toNat=nn+8-k:=by omega
   go_wp2;have hv:(M:Int)/2^(k*8)%256=((M/2^(8*k)%256:Nat):Int):=by
    rw[Int.natCast_emod,Int.natCast_ediv,Int.natCast_pow,Nat.mul_comm k 8];rfl
   rw[hv];go_roundw
   case rel=>
    refine⟨k+1,by omega,by go_num,by simpa using hsz,hbel.setCell (by simp) _,?_⟩;have h:=hblk.set (nn+8-k) (M/2^(8*k)%256);rw[hset.out]at h
    exact h
   case measure=>simp[intOf];omega
  .obtain rfl:k=8:=by omega
   go_wp2;go_ret;refine⟨rfl,hbel,?_⟩;rw[HB.out];exact hblk
theorem Hw {P:Program}{ops:Array Oper}{o:Oper}{a:Act}{w:World}{K:Act->World->Prop}{Q:Exit->Act->World->Prop}{E:Prop}(hgd:o.guard=none)(d s:Operand)(dT sT:TypeId)(ho:o.op=.call { callee:=.builtin .copy,args:=#[d,s],argTypes:=#[dT,sT] })(elem:TypeId)(hu:P.underlying dT=some (.slice elem))(hsz:(P.info? elem).map (·.size)=some 1)(dp sp:Option Addr)(dLen dCap sLen sCap:Nat)(hd:a.eval d=.slice dp dLen dCap)(hs:a.eval s=.slice sp sLen sCap)(g off:Nat)(cur:List Value)(t:TypeId)(hg:w.heap[g]? = some (.cells cur.toArray t (0,0)))(cs:List Value)(hn:cs.length=Nat.min sLen dLen)(hpos:0<cs.length->dp=some ⟨g,off,none⟩/\∃ad,sp=some ad/\∀j v,cs[j]? = some v->w.cell? (ad.add j)=some v)(hfit:off+cs.length<=cur.length)(h1:∀v∈cs,v.oneCell'=true)(h:∀w',Hid (w'.heap[g]? = some (.cells (splice cur off cs).toArray t (0,0)))->Ev g w w'->K (a.put o.dst (goInt cs.length)) w') :
  if Region.wanted o (yielded ops a.tmps)=true then Oper.wp P o a w K Q else E:=by
 have hw:Region.wanted o (yielded ops a.tmps)=true:=by simp[Region.wanted,hgd]
 rw[if_pos hw]
 by_cases h0:cs.length=0
 .obtain rfl:cs=[]:=List.eq_nil_of_length_eq_zero h0;have hrun:=run_copy_none (P:=P) w dT sT o.type elem dp sp dLen dCap sLen sCap hu hsz (by simpa using hn.symm);unfold Oper.wp;simp[execOp,ho,resolve,invoke,builtin,hd,hs,hrun,Result.andThen];exact h w (show _=_ by simpa [splice]using hg) (Ev.refl _ _)
 .obtain⟨rfl,ad,rfl,hsrc⟩:=hpos (by omega);have hrun:=run_copy_row (P:=P) w dT sT o.type elem g off dLen dCap ad sLen sCap cur.toArray t cs hu hsz hg hn hsrc (by simpa using hfit) h1;unfold Oper.wp;simp[execOp,ho,resolve,invoke,builtin,hd,hs,hrun,Result.andThen];exact h _ (show _=_ by simpa [splice]using setRow_heap w g _ _ t _ hg) (Ev.setRow _ _)
theorem Ev.of_drew {g:Nat}{w w':World}(h:Ev g w.drew w'):Ev g w w':=⟨h.os,h.tape,h.output,h.size,h.block⟩
theorem Wk {st pend:List Nat}{len:Nat}{xs:List Nat}(hs:st.length=8)(hx:xs.length=8):splice (Bg st pend len) 0 (xs.map fun(x:Nat)=>Value.int .u32 x)=Bg xs pend len:=by
 unfold splice Bg;simp only[List.take_zero,List.nil_append,List.length_map,Nat.zero_add];rw[List.drop_append_of_le_length (by simp;omega),hx,List.drop_of_length_le (by simp;omega),List.nil_append]
theorem Py {st pend:List Nat}{len:Nat}{xs:List Nat}{r:Nat}(hs:st.length=8)(hx:r+xs.length<=pend.length) :
  splice (Bg st pend len) (8+r) (xs.map fun(x:Nat)=>Value.int .u8 x)=Bg st (splice pend r xs) len:=by
 unfold splice Bg;rw[List.take_append,List.take_of_length_le (by simp;omega),List.length_map,hs,Nat.add_sub_cancel_left,List.take_append_of_le_length (by simp;omega),List.append_assoc]
 congr 1
 rw[List.drop_append,List.drop_of_length_le (by simp;omega),List.nil_append,List.length_map,List.length_map,hs,show 8+r+xs.length-8=r+xs.length by omega,
  List.drop_append_of_le_length (by simp;omega)]
 simp[List.map_take,List.map_drop]
structure qP (m piece pend:List Nat):Prop where
 len:(splice pend (m.length%64) piece).length=64
 bytes:Bc (splice pend (m.length%64) piece)
 some:m.length%64+piece.length<64->blocks (m++piece) ((m++piece).length/64)=blocks m (m.length/64)/\(splice pend (m.length%64) piece).take ((m++piece).length%64)=(m++piece).drop (64*((m++piece).length/64))
 full:m.length%64+piece.length=64->blocks (m++piece) ((m++piece).length/64)=Xp (blocks m (m.length/64)) (splice pend (m.length%64) piece)/\(m++piece).length%64=0/\(m++piece).drop (64*((m++piece).length/64))=[]
theorem grows {m piece pend:List Nat}(hp:pend.length=64)(h8:Bc pend)(hb:Bc piece)(hk:pend.take (m.length%64)=m.drop (64*(m.length/64)))(hl:m.length%64+piece.length<=64):qP m piece pend:=by
 obtain⟨q,r,hq,hr,hm,hr64⟩:∃q r,m.length/64=q/\m.length%64=r/\m.length=64*q+r/\r<64:=⟨_,_,rfl,rfl,by omega,by omega⟩
 have hk':pend.take r=m.drop (64*q):=by rw[<-hr,<-hq];exact hk
 have hlen:(splice pend r piece).length=64:=by rw[length_splice _ _ _ (by omega),hp]
 have ht:(splice pend r piece).take (r+piece.length)=(m++piece).drop (64*q):=by
  rw[List.drop_append_of_le_length (by omega),<-hk'];unfold splice;rw[<-List.append_assoc,List.take_append_of_le_length (by simp;omega),List.take_of_length_le (by simp;omega)]
 refine⟨by rw[hr];exact hlen,?_,fun hs=>?_,fun hf=>?_⟩
 .rw[hr];intro x hx;simp only[splice,List.mem_append]at hx;rcases hx with hx|hx|hx
  .exact h8 x (List.mem_of_mem_take hx)
  .exact hb x hx
  .exact h8 x (List.mem_of_mem_drop hx)
 .have e1:(m++piece).length/64=q:=by rw[List.length_append];omega
  have e2:(m++piece).length%64=r+piece.length:=by rw[List.length_append];omega
  rw[e1,e2,hr,hq];exact⟨Ic (by omega),ht⟩
 .have e1:(m++piece).length/64=q+1:=by rw[List.length_append];omega
  have e2:(m++piece).length%64=0:=by rw[List.length_append];omega
  rw[e1,hr,hq];refine⟨?_,e2,List.drop_of_length_le (by rw[List.length_append];omega)⟩;rw[blocks,Ic (by omega),<-ht,show r+piece.length=64 by omega,List.take_take,Nat.min_self,List.take_of_length_le (by omega)]
theorem eJ {n c:Nat}{bs:List Nat}{w:World}{p:Option Addr}(h:Bq w .u8 p n c bs)(k:Nat)(hk:k<=n)(p':Option Addr)(hp:k<n->∃b off,p=some ⟨b,off,none⟩/\p'=some ⟨b,off+k,none⟩) :
  Bq w .u8 p' (n-k) (c-k) (bs.drop k):=by
 have hl:=h.len;have hc:=h.cap;have hm:=h.max;refine⟨by simp;omega,by omega,by omega,fun h0=>?_⟩;obtain⟨b,off,rfl,rfl⟩:=hp (by omega);obtain⟨b',off',e,h2,h3⟩:=(h.row (by omega)).pos (by omega);cases e;refine⟨by simp;omega,by omega,by omega,.inr ⟨b,off+k,rfl,h2,fun i x hx=>?_⟩⟩;rw[Nat.add_assoc];exact h3 (k+i) x (by rw[List.getElem?_drop]at hx;exact hx)
theorem Fk (w:World)(g:Nat)(m:List Nat)(p:Option Addr)(n c:Nat)(bs:List Nat)(hT:Tabs w)(hH:Bn w g m)(hg:(max (0 : Nat) 2 + 1)<=g)(hr:Bq w .u8 p n c bs)(h8:Bc bs)(hne:0<n->∀q,p=some q->q.block≠g) :
  Calls Tryz.prog 188 #[.pointer (some ⟨g,0,none⟩),.slice p n c] w fun e w'=>e=.returned (.tuple #[])/\Ev g w w'/\Bn w' g (m++bs):=by
 have HRow:=Ai hr;have HL:=Ai hr.len;have hcap:=hr.cap;have hmax:=hr.max;clear hr;go_enter Tryz.func188,Tryz.ntmps188;go_wp2
 go_loopw [1] (fun v wr=>∃(k:Nat) (p':Option Addr),k<=n/\v=.slice p' (n-k) (c-k)/\Ev g w wr/\Bn wr g (m++bs.take k)/\(k<n->∃b off,p=some ⟨b,off,none⟩/\p'=some ⟨b,off+k,none⟩)) (fun v _=>match v with | .slice _ l _=>l|_=>0)
 case atStart=>
  refine⟨0,p,by omega,rfl,Ev.refl _ _,by rw[List.take_zero,List.append_nil];exact hH,fun h0=>?_⟩;obtain⟨b,off,h1,_⟩:=(HRow.out.row h0).pos h0;exact⟨b,off,h1,h1⟩
 case round=>
  obtain⟨k,p',hk,rfl,hbut,hash,hp'⟩:=hrel
  by_cases hkn:k<n
  .obtain⟨b,off,hpe,rfl⟩:=hp' hkn;obtain⟨pend,q1,q2,q3,q4⟩:=hash.ex;have hrow:=eJ HRow.out k hk _ hp';obtain⟨m1,hm1⟩:∃m1,m++bs.take k=m1:=⟨_,rfl⟩
   have HM1:=Ai hm1;simp only[hm1]at q3 q4;clear hm1;have hcb:∀(j x:Nat),(bs.drop k)[j]? = some x->wr.cell? ⟨b,off+k+j,none⟩=some (.int .u8 (x:Int)):=fun j x hx=>by
    obtain⟨b',off',e,h2,h3⟩:=(hrow.row (by omega)).pos (by omega);cases e;rw[hbut.cell (p:=⟨b,off+k+j,none⟩) h2 (hne (by omega) ⟨b,off,none⟩ hpe)];exact h3 j x hx
   obtain⟨r,hrd⟩:∃r,m1.length%64=r:=⟨_,rfl⟩
   have hr64:r<64:=by omega
   obtain⟨n1,hn1⟩:∃n1,Nat.min (n-k) (64-r)=n1:=⟨_,rfl⟩
   have hn1a:n1<=n-k:=by rw[<-hn1];exact Nat.min_le_left _ _
   have hn1b:n1<=64-r:=by rw[<-hn1];exact Nat.min_le_right _ _
   have hn1c:0<n1:=by rw[<-hn1];exact Nat.lt_min.2 ⟨by omega,by omega⟩
   obtain⟨L,hLd⟩:∃L,m1.length%18446744073709551616=L:=⟨_,rfl⟩
   have hL64:L<18446744073709551616:=by omega
   have tL:(L:Int)%64=(r:Int):=by omega
   have tLm:(L:Int).tmod 64=(r:Int):=by rw[Int.tmod_eq_emod_of_nonneg (by omega)];exact tL
   have hst8:=Dz m1 (m1.length/64);have c72:=q3.cell (Jm hst8 q1);rw[hLd]at q3 c72
   have hpc:((bs.drop k).take n1).length=n1:=by simp;have:=HL.out;omega
   have hsl:=fun wx=>Ut wx g 8 r .u64 (r:Int) rfl hr64
   have hgr:=grows (m:=m1) (piece:=(bs.drop k).take n1) q1 q2 (fun x hx=>h8 x (List.mem_of_mem_drop (List.mem_of_mem_take hx))) q4 (by rw[hrd,hpc];omega);obtain⟨G1,G2,G3,G4⟩:=hgr;rw[hrd]at G1 G2 G3 G4
   have HG3:=Ai G3;have HG4:=Ai G4;have HG1:=Ai G1;have HRD:=Ai hrd;have HLD:=Ai hLd;have HQ4:=Ai q4;have HSp:=Ai (Py (st:=blocks m1 (m1.length/64)) (pend:=pend) (len:=L) (xs:=(bs.drop k).take n1) (r:=r) hst8 (by rw[hpc,q1];omega));have HQ3:=Ai q3;have HN1:=Ai hn1;have HPC:=Ai hpc;have HSL:=Ai hsl;have HV:Hid (∀(j:Nat) (v:Value),(((bs.drop k).take n1).map fun(x:Nat)=>Value.int .u8 x)[j]? = some v->wr.cell? ((⟨b,off+k,none⟩:Addr).add j)=some v):=fun j v hv=>by
    rw[List.getElem?_map]at hv
    obtain⟨x,hx,rfl⟩:=Option.map_eq_some_iff.1 hv;rw[add_plain];refine hcb j x ?_;rw[List.getElem?_take]at hx
    split at hx
    .exact hx
    .cases hx
   have HN:Hid ((((bs.drop k).take n1).map fun(x:Nat)=>Value.int .u8 x).length=Nat.min (n-k) (64-r)):=by
    show List.length _=_;rw[List.length_map,hpc,hn1]
   have HF:Hid (8+r+(((bs.drop k).take n1).map fun(x:Nat)=>Value.int .u8 x).length<=(Bg (blocks m1 (m1.length/64)) pend L).length):=by
    show _<=List.length _;rw[List.length_map,hpc,Mj hst8 q1];omega
   have HO:Hid (∀v∈(((bs.drop k).take n1).map fun(x:Nat)=>Value.int .u8 x),v.oneCell'=true):=fun v hv=>by
    obtain⟨x,_,rfl⟩:=List.mem_map.1 hv;rfl
   have hlt:=q3.lt;clear hn1 hcb q3 hrow hrd hLd G1 G3 G4 q4 hsl;obtain⟨piece,hpd⟩:∃piece,(bs.drop k).take n1=piece:=⟨_,rfl⟩
   have HPD:=Ai hpd;rw[hpd]at HV HN HF HO HSp HPC hpc HG3 HG4 HG1 G2
   clear hpd;obtain⟨cs,hcs⟩:∃cs,(piece.map fun(x:Nat)=>Value.int .u8 x)=cs:=⟨_,rfl⟩
   have hcl:cs.length=n1:=by rw[<-hcs,List.length_map];exact hpc
   rw[hcs]at HV HN HF HO HSp
   clear hcs hpc;have hsl:=HSL.out;obtain⟨L2,hL2⟩:∃L2,(L+n1)%18446744073709551616=L2:=⟨_,rfl⟩
   have tL2:IntKind.u64.wrap ((L:Int)+n1)=(L2:Int):=by
    show ((L:Int)+n1)%18446744073709551616=(L2:Int)
    omega
   have hL2b:L2<18446744073709551616:=by omega
   have HL2:=Ai hL2;have hL2r:(r+n1<64->L2%64=r+n1)/\(r+n1=64->L2%64=0):=⟨by omega,by omega⟩
   have HL2R:=Ai hL2r;clear hL2 hL2r;go_wp2
   go_region_law (refine Hw rfl (.tmp 18) (.tmp 19) 23 23 rfl 5 Tryz.underlying23 (by kernel_rfl) (some ⟨g,8+r,none⟩) (some ⟨b,off+k,none⟩) (64-r) (64-r) (n-k) (c-k) rfl rfl g (8+r) (Bg (blocks m1 (m1.length/64)) pend L) 278 HQ3.out cs HN.out (fun _=>⟨rfl,_,rfl,HV.out⟩) HF.out HO.out ?_;intro w4 hg4 hb4)
   rw[HSp.out]at hg4
   have hx4:Ej w4 g (blocks m1 (m1.length/64)) (splice pend r piece) L:=hg4.out;clear hg4;obtain⟨P4,hP4⟩:∃P4,splice pend r piece=P4:=⟨_,rfl⟩
   rw[hP4]at hx4 HG1 G2 HG3 HG4
   have hl4:P4.length=64:=HG1.out;have c72':=hx4.cell (Jm hst8 hl4);have e72:=hx4.free 72;have HX4:=Ai hx4;clear hx4 hP4 c72 HQ3 hsl HSL;have hb5:∀v:Value,Ev g w (w4.setCell ⟨g,72,none⟩ v):=fun v=>(hbut.trans hb4.of_drew).trans (Ev.setCell _ _ _)
   have HB5:=Ai hb5;have hx5:Ej (w4.setCell ⟨g,72,none⟩ (.int .u64 (L2:Nat))) g (blocks m1 (m1.length/64)) P4 L2:=HX4.out.set 72 _ (Kt hst8 hl4);have HX5:=Ai hx5;have ha:m++bs.take (k+n1)=m1++piece:=by rw[List.take_add,<-List.append_assoc,HM1.out,HPD.out]
   have hlen:(m1++piece).length%18446744073709551616=L2:=by
    have h1:=HPC.out;have h2:=HL2.out;have h3:=HLD.out;rw[List.length_append,h1];omega
   have hfin:∀w5,Ej w5 g (blocks m1 (m1.length/64)) P4 L2->r+n1<64->Bn w5 g (m++bs.take (k+n1)):=fun w5 hx hs=>by
    have h3:=HG3.out (by rw[HPC.out];exact hs);rw[ha];exact⟨P4,hl4,G2,by rw[h3.1,hlen];exact hx,h3.2⟩
   have hfin2:∀w5,Ej w5 g (Xp (blocks m1 (m1.length/64)) P4) P4 L2->r+n1=64->Bn w5 g (m++bs.take (k+n1)):=fun w5 hx hs=>by
    have h3:=HG4.out (by rw[HPC.out];exact hs);rw[ha];exact⟨P4,hl4,G2,by rw[h3.1,hlen];exact hx,by rw[h3.2.1,h3.2.2];rfl⟩
   have HFIN:=Ai hfin;have HFIN2:=Ai hfin2;have HPT:Hid (k+n1<n->(if c-k=n1 then (some ⟨b,off+k,none⟩:Option Addr) else some ⟨b,off+k+n1,none⟩)=some ⟨b,off+(k+n1),none⟩):=fun h=>by
    rw[if_neg (by omega),Nat.add_assoc]
   clear hb5 hx5 ha hlen hfin hfin2 hb4;have HPE:=Ai hpe
   by_cases hfull:r+n1=64
   .have tz:(L2:Int)%64=0:=by have:=HL2R.out.2 hfull;omega
    have hx5:=HX5.out;have hb5:=HB5.out (.int .u64 (L2:Nat));go_wp2
    all_goals
     generalize w4.setCell ⟨g,72,none⟩ (.int .u64 (L2:Nat))=w5 at *;clear HX4 e72 c72' HV HN HF HO HSp hlt
     go_still_tail 6,(by kernel_rfl)
     change wpList _ _ _ _ _ w5.drew;have hx6:Ej w5.drew g (blocks m1 (m1.length/64)) P4 L2:=hx5;have hb6:Ev g w w5.drew:=hb5.drew;have hT6:Tabs w5.drew:=hT.but hb6 hg;generalize w5.drew=w6 at *
     go_wp2_with fail
     refine(bT w6 g _ P4 L2 hT6 hst8 (Oe _ _) hl4 G2 hx6 hg).mono ?_;rintro e w7 ⟨rfl,hb7,hx7⟩;go_wp2;go_roundw
     case rel=>exact⟨k+n1,_,by omega,by congr 1<;>omega,hb6.trans hb7,HFIN2.out _ hx7 hfull,fun h=>by first|exact⟨b,off,HPE.out,by rw[Nat.add_assoc]⟩|(exfalso;omega)⟩
     case measure=>show n-k-n1<n-k;omega
   .have tz:(L2:Int)%64=((r+n1:Nat):Int):=by have:=HL2R.out.1 (by omega);omega
    have tz2:¬((r+n1:Nat):Int)=0:=by omega
    go_wp2;go_roundw
    case rel=>exact⟨k+n1,_,by omega,by congr 1<;>omega,HB5.out _,HFIN.out _ HX5.out (by omega),fun h=>⟨b,off,HPE.out,HPT.out h⟩⟩
    case measure=>show n-k-n1<n-k;omega
  .obtain rfl:k=n:=by omega
   have hfin:Bn wr g (m++bs):=by
    have h:=hash;rw[List.take_of_length_le (by have:=HL.out;omega)]at h
    exact h
   go_wp2
   go_end0
   exact⟨rfl,hbut,hfin⟩
def Pr (m:List Nat)(w:World)(e:Ending)(w':World):Prop:=∃g,e=.returned (.pointer (some ⟨g,0,none⟩))/\w.heap.size<=g/\Below w.heap.size w w'/\Bn w' g m
theorem Bn.new {w:World}{g:Nat}(h:Ej w g Io (List.replicate 64 0) 0):Bn w g [] :=
 ⟨List.replicate 64 0,by simp,fun x hx=>by have:=(List.mem_replicate.1 hx).2;omega,h,rfl⟩
def Vh:List Value:=Bg (List.replicate 8 0) (List.replicate 64 0) 0
def hlen (L:Nat):List Value:=Bg (List.replicate 8 0) (List.replicate 64 0) L
theorem aB (L:Nat):(hlen L).length=73:=rfl
theorem Ny:Vh.length=73:=rfl
theorem Ub (w:World):(zeroValue 278).run Tryz.prog w=.ok (.agg Vh.toArray) w:=by
 have h:(Tryz.prog.info? 278).map (·.zero)=some (some (.agg Vh.toArray)):=by kernel_rfl
 cases hi:Tryz.prog.info? 278 with
 | none=>rw[hi]at h;cases h
 | some i=>
  rw[hi]at h
  have hz:i.zero=some (.agg Vh.toArray):=by simpa using h
  simp[zeroValue,typeInfo,hi,hz]
theorem Nn (w:World)(hT:Tabs w):Calls Tryz.prog 187 #[] w (Pr [] w):=by
 have hz:=Ub;have hzl:=Ny;obtain⟨t0,fr0,hf0⟩:=hT.first
 have hi8:(Tryz.prog.info? 276).map (·.size)=some (Io.map fun(x:Nat)=>Value.int .u32 x).toArray.size:=by
  rw[show (Io.map fun(x:Nat)=>Value.int .u32 x).toArray.size=8 by rfl];kernel_rfl
 go_enter Tryz.func187,Tryz.ntmps187
 go_wp2_with (refine wpList_load_row rfl 276 _ rfl 0 rfl t0 (Io.map fun(x:Nat)=>Value.int .u32 x).toArray fr0 _ hf0 Tryz.underlying276 rfl hi8 ?_)
 have hf:(List.foldl (fun(cs:Array Value) x=>cs.setIfInBounds x.snd x.fst) Vh.toArray (Io.map fun(x:Nat)=>Value.int .u32 x).zipIdx)=(Bg Io (List.replicate 64 0) 0).toArray:=by kernel_rfl
 refine bodyPost_ret (v:=.pointer (some ⟨w.heap.size,0,none⟩)) (by simp[results,Tryz.results187,go_sem]) rfl ⟨_,rfl,Aw _,(Ba _ _).alloc (Aw _) _,Bn.new ?_⟩;rw[hf];exact heap_alloc_new w _
theorem Yq (w:World)(b off:Nat) :
  (Instr.sliceAt 276 (.pointer (some ⟨b,off,none⟩)) none none none).run Tryz.prog w=.ok (.slice (some ⟨b,off,none⟩) 8 8) w:=by
 have hlen:Tryz.prog.arrayLen 276 = 8:=by kernel_rfl
 rw[run_sliceAt_array_all w 276 ⟨b,off,none⟩ Tryz.underlying276,hlen];have hs:(sizeOf (Tryz.prog.elem 276)).run Tryz.prog w=.ok 1 w:=by
  have:Tryz.prog.elem 276 = 129 := by kernel_rfl
  rw[this];simp[go_sem]
 rw[hs];simp[slicedAt,Addr.add]
theorem Yr (w:World)(b off:Nat) :
  (Instr.sliceAt 272 (.pointer (some ⟨b,off,none⟩)) none none none).run Tryz.prog w=.ok (.slice (some ⟨b,off,none⟩) 64 64) w:=by
 have hlen:Tryz.prog.arrayLen 272 = 64:=by kernel_rfl
 rw[run_sliceAt_array_all w 272 ⟨b,off,none⟩ Tryz.underlying272,hlen];have hs:(sizeOf (Tryz.prog.elem 272)).run Tryz.prog w=.ok 1 w:=by
  have:Tryz.prog.elem 272 = 5 := by kernel_rfl
  rw[this];simp[go_sem]
 rw[hs];simp[slicedAt,Addr.add]
theorem Nb (w:World)(g:Nat)(m:List Nat)(hH:Bn w g m):Calls Tryz.prog 223 #[.pointer (some ⟨g,0,none⟩)] w (Pr m w):=by
 obtain⟨pend,q1,q2,q3,q4⟩:=hH.ex;have hst8:=Dz m (m.length/64);obtain⟨st,hst⟩:∃st,blocks m (m.length/64)=st:=⟨_,rfl⟩
 obtain⟨L,hL⟩:∃L,m.length%18446744073709551616=L:=⟨_,rfl⟩
 have c72:=q3.cell (Jm hst8 q1);have HST:=Ai hst;have HL:=Ai hL;rw[hL]at c72 q3
 rw[hst]at q3 hst8
 have hlt:=q3.lt;have hz:=Ub;have hzl:=Ny;have HQ3:=Ai q3;have hcS:∀(j:Nat) (v:Value),(st.map fun(x:Nat)=>Value.int .u32 x)[j]? = some v->w.cell? ((⟨g,0,none⟩:Addr).add j)=some v:=fun j v hv=>by
  rw[List.getElem?_map]at hv
  obtain⟨x,hx,rfl⟩:=Option.map_eq_some_iff.1 hv;have hj:j<8:=by have:=(List.getElem?_eq_some_iff.1 hx).1;omega
  rw[add_plain,Nat.zero_add];refine q3.cell ?_;rw[Gv hst8 hj,Dn,hx];rfl
 have hcP:∀(j:Nat) (v:Value),(pend.map fun(x:Nat)=>Value.int .u8 x)[j]? = some v->w.cell? ((⟨g,8,none⟩:Addr).add j)=some v:=fun j v hv=>by
  rw[List.getElem?_map]at hv
  obtain⟨x,hx,rfl⟩:=Option.map_eq_some_iff.1 hv;have hj:j<64:=by have:=(List.getElem?_eq_some_iff.1 hx).1;omega
  rw[add_plain];refine q3.cell ?_;rw[Qk hst8 q1 hj,Dn,hx];rfl
 have HS8:=Ai hst8;have HQ1:=Ai q1;have HCS:=Ai hcS;have HCP:=Ai hcP;have hOne:∀(k:IntKind) (xs:List Nat),∀v∈(xs.map fun(x:Nat)=>Value.int k x),v.oneCell'=true:=fun k xs v hv=>by
  obtain⟨x,_,rfl⟩:=List.mem_map.1 hv;rfl
 have HON:=Ai hOne;have hset:Vh.set 72 (.int .u64 (L:Nat))=hlen L:=Kt (by simp) (by simp);clear hL hst q3 hcS hcP hOne;obtain⟨csS,hcsS⟩:∃cs,(st.map fun(x:Nat)=>Value.int .u32 x)=cs:=⟨_,rfl⟩
 obtain⟨csP,hcsP⟩:∃cs,(pend.map fun(x:Nat)=>Value.int .u8 x)=cs:=⟨_,rfl⟩
 have hlS:csS.length=8:=by rw[<-hcsS,List.length_map];exact hst8
 have hlP:csP.length=64:=by rw[<-hcsP,List.length_map];exact q1
 have HSP1:Hid (splice (hlen L) 0 csS=Bg st (List.replicate 64 0) L):=by rw[<-hcsS];exact Wk (by simp) hst8
 have HSP2:Hid (splice (Bg st (List.replicate 64 0) L) 8 csP=Bg st pend L):=by
  rw[<-hcsP];have h:=Py (st:=st) (pend:=List.replicate 64 0) (len:=L) (xs:=pend) (r:=0) hst8 (by simp[q1]);refine h.trans ?_
  congr 1
  unfold splice;rw[List.take_zero,List.nil_append,List.drop_of_length_le (by simp[q1]),List.append_nil]
 rw[hcsS]at HCS
 rw[hcsP]at HCP
 have HO1:Hid (∀v∈csS,v.oneCell'=true):=by rw[<-hcsS];exact HON.out _ _
 have HO2:Hid (∀v∈csP,v.oneCell'=true):=by rw[<-hcsP];exact HON.out _ _
 clear hcsS hcsP hst8 q1;go_enter Tryz.func223,Tryz.ntmps223;go_wp2;have hn0:=heap_alloc_new w (.cells (hlen L).toArray 278);have hb0:Below w.heap.size w (w.alloc (.cells (hlen L).toArray 278)):=Bt;have hsz0:w.heap.size<(w.alloc (.cells (hlen L).toArray 278)).heap.size:=by simp
 generalize w.alloc (.cells (hlen L).toArray 278)=w1 at *;have HN0:=Ai hn0;have hcS1:∀(j:Nat) (v:Value),csS[j]? = some v->w1.cell? ((⟨g,0,none⟩:Addr).add j)=some v:=fun j v hv=>by
  have h:=HCS.out j v hv;rw[add_plain]at h ⊢
  rw[(Cp hb0).1 _ _ hlt];exact h
 have HCS1:=Ai hcS1;have HF1:Hid (0+csS.length<=(hlen L).length):=by show 0+csS.length<=(hlen L).length;rw[hlS,aB];omega
 have HM1:Hid (csS.length=Nat.min 8 8):=hlS;clear hcS1 hn0 hset;have hsl1:=Yq;have hsl2:=Yr
 go_region_law (refine Hw rfl (.tmp 15) (.tmp 19) 35 35 rfl 129 Tryz.underlying35 (by kernel_rfl) (some ⟨w.heap.size,0,none⟩) (some ⟨g,0,none⟩) 8 8 8 8 (by simp[Act.eval,Act.put,go_sem]) (by simp[Act.eval,Act.put,go_sem]) w.heap.size 0 (hlen L) 278 HN0.out csS HM1.out (fun _=>⟨rfl,_,rfl,HCS1.out⟩) HF1.out HO1.out ?_;intro w4 hg4 hb4)
 rw[HSP1.out]at hg4
 have hb5:Below w.heap.size w w4:=hb0.trans ((hb4.of_drew).below (Aw _) (Nat.le_of_lt hsz0));have hcP1:∀(j:Nat) (v:Value),csP[j]? = some v->w4.cell? ((⟨g,8,none⟩:Addr).add j)=some v:=fun j v hv=>by
  have h:=HCP.out j v hv;rw[add_plain]at h ⊢
  rw[(Cp hb5).1 _ _ hlt];exact h
 have HCP1:=Ai hcP1;have HB5:=Ai hb5;have HF2:Hid (8+csP.length<=(Bg st (List.replicate 64 0) L).length):=by show 8+csP.length<=List.length _;rw[hlP,Mj HS8.out (by simp)];omega
 have HM2:Hid (csP.length=Nat.min 64 64):=hlP;obtain⟨cur,hcur⟩:∃cur,Bg st (List.replicate 64 0) L=cur:=⟨_,rfl⟩
 rw[hcur]at hg4 HF2 HSP2
 have HC4:=hg4;clear hcP1 hb5 hcur hg4 HN0 hb4 hb0 hsz0;go_wp2;have hs4:w.heap.size<w4.heap.size:=(Gs HC4.out).1
 go_region_law (refine Hw rfl (.tmp 24) (.tmp 28) 23 23 rfl 5 Tryz.underlying23 (by kernel_rfl) (some ⟨w.heap.size,8,none⟩) (some ⟨g,8,none⟩) 64 64 64 64 (by simp[Act.eval,Act.put,go_sem]) (by simp[Act.eval,Act.put,go_sem]) w.heap.size 8 cur 278 HC4.out csP HM2.out (fun _=>⟨rfl,_,rfl,HCP1.out⟩) HF2.out HO2.out ?_;intro w6 hg6 hb6)
 rw[HSP2.out]at hg6
 have hb7:Below w.heap.size w w6:=HB5.out.trans ((hb6.of_drew).below (Aw _) (Nat.le_of_lt hs4));have HB7:=Ai hb7;clear hb6 hb7;go_wp2;go_ret;refine⟨_,rfl,Aw _,HB7.out,⟨pend,HQ1.out,q2,?_,q4⟩⟩;rw[HST.out,HL.out];exact hg6.out
def Ll (m:List Nat)(w:World)(e:Ending)(w':World):Prop:=∃q,e=.returned (.slice (some ⟨q,0,none⟩) 32 32)/\w.heap.size<=q/\Below w.heap.size w w'/\Bp w' q 5 .u8 (bL m)
theorem Mv (w:World)(g:Nat)(m:List Nat)(hT:Tabs w)(hH:Bn w g m):Calls Tryz.prog 190 #[.pointer (some ⟨g,0,none⟩)] w (Ll m w):=by
 have hlt:=hH.lt;obtain⟨L,hL⟩:∃L,m.length%18446744073709551616=L:=⟨_,rfl⟩
 have hL64:L<18446744073709551616:=by omega
 have HL:=Ai hL;clear hL;go_enter Tryz.func190,Tryz.ntmps190
 go_wp2_with fail
 refine(Nb w g m hH).mono ?_;rintro e w1 ⟨q,rfl,hq,hb1,hh1⟩;have hT1:=hT.below hb1 hT.size;have c72:w1.cell? ⟨g,72,none⟩=some (.int .u64 (L:Nat)):=by
  obtain⟨pend,q1,_,q3,_⟩:=(hH.below hb1 hlt).ex;have h:=q3.cell (Jm (Dz m _) q1);rw[HL.out]at h
  exact h
 go_wp2_with fail
 refine(Xu w1 L hL64).mono ?_;rintro e w2 ⟨rfl,hb2,hk2⟩;have hh2:=hh1.below hb2 hh1.lt;have hT2:=hT1.below hb2 hT1.size;have hz12:=hb1.size;have hz22:=hb2.size;have hbl:behind L=behind m.length:=by rw[<-HL.out,dY]
 rw[hbl]at hk2
 have hnl:Dr L+9=(behind m.length).length:=by rw[<-hbl,Tx]
 have hrow:Bq w2 .u8 (some ⟨w1.heap.size,0,none⟩) (Dr L+9) (Dr L+9) (behind m.length) :=
  ⟨hnl,Aw _,by have:Dr L<64:=Nat.mod_lt _ (by omega);omega,fun _=>hk2.row hnl (Aw _) (by have:Dr L<64:=Nat.mod_lt _ (by omega);omega)⟩
 have hqlt:=hh1.lt;clear hbl hnl
 go_wp2_with fail
 refine(Fk w2 q m _ _ _ (behind m.length) hT2 hh2 (by have:=hT.size;omega) hrow (Xv _) (fun _ a ha=>by cases ha;show w1.heap.size≠q;omega)).mono ?_;rintro e w3 ⟨rfl,hb3,hh3⟩;have hb13:Below w.heap.size w w3:=(hb1.trans (hb2.mono hz12)).trans (hb3.below hq (by omega));obtain⟨pend,q1,q2,q3,q4⟩:=hh3.ex;have hz13:=hb13.size
 go_wp2_with fail
 refine(Rw w3 q _ pend _ (Dz _ _) (Oe _ _) q3).mono ?_;rintro e w4 ⟨rfl,hb4,hk4⟩;rw[List.length_append]at hk4
 go_wp2;go_ret;exact⟨_,rfl,hz13,hb13.trans (hb4.mono hz13),hk4⟩
structure Own (w:World) (B:Nat) (v:Value) (bs:List Nat):Prop where
 owns:w.ownsRow B 5 1 v bs.length (bs.map fun(x:Nat)=>Value.int .u8 (x:Int))
theorem Own.elim {w:World}{B:Nat}{v:Value}{bs:List Nat}(h:Own w B v bs) :
  ∃p c,v=.slice p bs.length c/\Bq w .u8 p bs.length c bs/\Gw B p/\(p=none->c=0)/\(∀q,p=some q->q.block<w.heap.size):=by
 obtain⟨h1,h2⟩:=h.owns;rcases h2 with ⟨rfl,h0⟩|⟨g,cap,cur,rfl,hb,hg,hnc,hcm,hcs,ht⟩
 .refine⟨none,0,by rw[h0],⟨rfl,by omega,by omega,fun h=>absurd h (by omega)⟩,Gw.none _,fun _=>rfl,fun q hq=>(by cases hq)⟩
 .have hlt:g<w.heap.size:=(Gs hg).1;have hcm':cap<=9223372036854775807:=by simpa [maxLen]using hcm
  refine⟨some ⟨g,0,none⟩,cap,rfl,⟨rfl,hnc,hcm',fun _=>⟨rfl,hnc,hcm',.inr ⟨g,0,rfl,hlt,fun i x hx=>?_⟩⟩⟩,fun q hq=>(by cases hq;exact hb),fun h=>(by cases h),fun q hq=>(by cases hq;exact hlt)⟩;have hi:i<bs.length:=(List.getElem?_eq_some_iff.1 hx).1;have hx2:(bs.map fun(x:Nat)=>Value.int .u8 (x:Int))[i]? = some (.int .u8 (x:Int)):=by rw[List.getElem?_map,hx];rfl
  rw[<-ht,List.getElem?_take]at hx2
  split at hx2
  .unfold World.cell?
   dsimp only
   rw[hg];simp only[Nat.zero_add];rw[Array.getElem?_toList]at hx2
   exact hx2
  .cases hx2
theorem Own.below {w w':World}{B C:Nat}{v:Value}{bs:List Nat}(h:Own w B v bs)(hb:Below C w w')(hc:∀g,v.ownBlock=some g->g<C):Own w' B v bs:=by
 refine⟨⟨h.owns.1,?_⟩⟩;rcases h.owns.2 with h2|⟨g,cap,cur,rfl,hbg,hg,h3⟩
 .exact .inl h2
 .refine .inr ⟨g,cap,cur,rfl,hbg,?_,h3⟩;rw[hb.block g (hc g rfl)];exact hg
theorem Own.lt {w:World}{B:Nat}{v:Value}{bs:List Nat}(h:Own w B v bs):∀g,v.ownBlock=some g->g<w.heap.size:=by
 intro g hg;rcases h.owns.2 with ⟨rfl,_⟩|⟨g',cap,cur,rfl,hbg,hg',h3⟩
 .cases hg
 .obtain rfl:g'=g:=by simpa [Value.ownBlock]using hg
  exact(Gs hg').1
theorem Own.ge {w:World}{B:Nat}{v:Value}{bs:List Nat}(h:Own w B v bs):∀g,v.ownBlock=some g->B<=g:=by
 intro g hg;rcases h.owns.2 with ⟨rfl,_⟩|⟨g',cap,cur,rfl,hbg,hg',h3⟩
 .cases hg
 .obtain rfl:g'=g:=by simpa [Value.ownBlock]using hg
  exact hbg
theorem Own.belowS {w w':World}{B:Nat}{v:Value}{bs:List Nat}(h:Own w B v bs)(hb:Below w.heap.size w w'):Own w' B v bs:=h.below hb h.lt
theorem Own.mono {w:World}{B B':Nat}{v:Value}{bs:List Nat}(h:Own w B v bs)(hb:B'<=B):Own w B' v bs:=by
 refine⟨⟨h.owns.1,?_⟩⟩;rcases h.owns.2 with h2|⟨g,cap,cur,h1,hbg,h3⟩
 .exact .inl h2
 .exact .inr ⟨g,cap,cur,h1,by omega,h3⟩
theorem grown_below {w w':World}{g:Option Nat}(h:w.grownBy w' g){B:Nat}(hB:B<=w.heap.size)(hg:∀b,g=some b->B<=b):Below B w w' :=
 ⟨h.os,h.tape,h.output,h.size,fun k hk=>h.block k (by omega) (fun e=>by have:=hg k e.symm;omega)⟩
theorem nK {w:World}{B:Nat}{v:Value}{xs:List Nat}(h:Own w B v xs){p:Option Addr}{m c:Nat}{bs:List Nat}(hr:Bq w .u8 p m c bs)(hn:p=none->c=0)(hmax:xs.length+m<=140737488355328)(hB:B<=w.heap.size)(ty:TypeId) :
  ∃v' w',(Builtin.append_ #[23, 23] ty #[v,.slice p m c]).run Tryz.prog w=.ok v' w'/\Own w' B v' (xs++bs)/\w.grownBy w' v.ownBlock:=by
 obtain⟨i,hi,hz,hs,hb⟩:=info_parts Tryz.info_u8;have hl:=hr.len
 cases p with
 | none=>
  obtain rfl:=hn rfl;have hc:=hr.cap;obtain rfl:m=0:=by omega
  have hbs:bs=[]:=List.eq_nil_of_length_eq_zero hl.symm;refine⟨v,w,run_append_owned_none (P:=Tryz.prog) w B 23 ty 5 i 1 Tryz.underlying23 hi v xs.length _ h.owns,?_,⟨rfl,rfl,rfl,Aw _,fun _ _ _=>rfl⟩⟩;rw[hbs,List.append_nil];exact h
 | some a=>
  have hmx:xs.length+m<=maxLen:=by simp only[maxLen];omega
  obtain⟨v',w',h1,h2,h3,_⟩:=run_append_own (P:=Tryz.prog) w B 23 ty 5 i (.int .u8 0) 1 1 Tryz.underlying23 hi hz hs hb (by rfl) (by decide) v xs.length _ h.owns a m c (bs.map fun(x:Nat)=>Value.int .u8 (x:Int)) (by simp[hl])
   (fun j u hu=>by
    rw[List.getElem?_map]at hu
    obtain⟨x,hx,rfl⟩:=Option.map_eq_some_iff.1 hu;have h0:0<m:=by have:=(List.getElem?_eq_some_iff.1 hx).1;omega
    obtain⟨b,off,e,h2,h3⟩:=(hr.row h0).pos h0;cases e;rw[add_plain];exact h3 j x hx)
   (fun u hu=>by obtain⟨x,_,rfl⟩:=List.mem_map.1 hu;rfl) hmx (by omega) hB
  refine⟨v',w',h1,⟨?_⟩,h3⟩;rw[<-List.map_append,hl,<-List.length_append]at h2
  exact h2
theorem bO {w:World}{ops:Array Oper}{rest:List Oper}{o:Oper}{a:Act}{Q:Exit->Act->World->Prop}(hgd:o.guard=none)(s x:Operand)(ho:o.op=.call { callee:=.builtin .append,args:=#[s,x],argTypes:=#[23, 23] }){B:Nat}{v:Value}{xs:List Nat}(hs:a.eval s=v)(h:Own w B v xs){p:Option Addr}{m c:Nat}{bs:List Nat}(hx:a.eval x=.slice p m c)(hr:Bq w .u8 p m c bs)(hn:p=none->c=0)(hmax:xs.length+m<=140737488355328)(hB:B<=w.heap.size)(hk:∀v' w',Own w' B v' (xs++bs)->w.grownBy w' v.ownBlock->wpList Tryz.prog ops Q rest (a.put o.dst v') w'):wpList Tryz.prog ops Q (o::rest) a w:=by
 obtain⟨v',w',h1,h2,h3⟩:=nK h hr hn hmax hB o.type;refine wpList_plain hgd fun K hK=>?_
 unfold Oper.wp;simp[execOp,ho,resolve,invoke,builtin,hs,hx,h1,Result.andThen];exact hK _ _ (hk v' w' h2 h3)
inductive bG (lo:Nat) (bs:List Nat):Value->World->Prop where
 | of (p:Option Addr) (c:Nat) (w:World) (h:Bq w .u8 p bs.length c bs) (hn:Gw lo p) (hz:p=none->c=0) (hp:∀q,p=some q->q.block<w.heap.size):bG lo bs (.slice p bs.length c) w
theorem eP (w:World)(bs:List Nat)(hm:bs.length<=9223372036854775807):Bq (w.alloc (.cells (bs.map fun(x:Nat)=>Value.int .u8 (x:Int)).toArray 5)) .u8 (some ⟨w.heap.size,0,none⟩) bs.length bs.length bs:=by
 have h:=Bp.row (w:=w.alloc (.cells (bs.map fun(x:Nat)=>Value.int .u8 (x:Int)).toArray 5)) (g:=w.heap.size) (e := 5) (k:=.u8) (xs:=bs) (heap_alloc_new w _) (n:=bs.length) (c:=bs.length) rfl (Aw _) hm;exact⟨rfl,Aw _,hm,fun _=>h⟩
structure Part where
 p:Option Addr
 n:Nat
 c:Nat
 bs:List Nat
structure Ct (w:World) (P:Part):Prop where
 row:Bq w .u8 P.p P.n P.c P.bs
 bytes:Bc P.bs
theorem Ct.below {w w':World}{P:Part}(h:Ct w P)(hb:Below w.heap.size w w'):Ct w' P:=⟨h.row.below hb,h.bytes⟩
def whole (L:List Part):List Nat:=L.flatMap (·.bs)
theorem Rm (L:List Part)(P:Part):whole (L++[P])=whole L++P.bs:=by simp[whole]
structure Fm (w:World) (p:Option Addr) (n c:Nat) (L:List Part):Prop where
 len:n=L.length
 cap:n<=c
 max:c<=9223372036854775807
 ok:∀(i:Nat) (P:Part),L[i]? = some P->Ct w P
 cells:0<n->∃b off,p=some ⟨b,off,none⟩/\b<w.heap.size/\∀(i:Nat) (P:Part),L[i]? = some P->w.cell? ⟨b,off+i,none⟩=some (.slice P.p P.n P.c)
theorem Fm.below {w w':World}{p:Option Addr}{n c:Nat}{L:List Part}(h:Fm w p n c L)(hb:Below w.heap.size w w'):Fm w' p n c L :=
 ⟨h.len,h.cap,h.max,fun i P hP=>(h.ok i P hP).below hb,fun h0=>by
  obtain⟨b,off,h1,h2,h3⟩:=h.cells h0;exact⟨b,off,h1,Da h2 hb.size,fun i P hP=>by rw[hb.cell (p:=⟨b,off+i,none⟩) h2];exact h3 i P hP⟩⟩
theorem fG (w:World)(p:Option Addr)(n c:Nat)(L:List Part)(hT:Tabs w)(hL:Fm w p n c L):Calls Tryz.prog 242 #[.slice p n c] w (Ll (whole L) w):=by
 have HL:Aa (Fm w p n c L):=⟨hL⟩
 have hlen:Aa (n=L.length):=⟨hL.len⟩
 have hcap:=hL.cap;have hmax:=hL.max;clear hL;go_enter Tryz.func242,Tryz.ntmps242
 go_wp2_with fail
 refine(Nn w hT).mono ?_;rintro e w1 ⟨g,rfl,hg,hb1,hh1⟩;go_wp2
 go_loopw [9] (fun i wr=>∃k:Nat,k<=n/\i=.int .i64 k/\Below w.heap.size w wr/\Bn wr g (whole (L.take k))) (fun i _=>n-(intOf i).toNat)
 case atStart=>exact⟨0,by omega,rfl,hb1,hh1⟩
 case round=>
  obtain⟨k,hk,rfl,hbel,hash⟩:=hrel;have hTr:=hT.below hbel hT.size;have hsz:=hT.size
  by_cases hkn:k<n
  .obtain⟨b,off,rfl,hb,hc⟩:=HL.out.cells (by omega);obtain⟨P,hP⟩:∃P,L[k]? = some P:=⟨_,List.getElem?_eq_getElem (by have:=hlen.out;omega)⟩
   have hok:=(HL.out.ok k P hP).below hbel;have hblt:0<P.n->∀q,P.p=some q->q.block≠g:=fun h0 q hq=>by
    obtain⟨b',off',e,h2,_⟩:=((HL.out.ok k P hP).row.row h0).pos h0;rw[hq]at e;cases e
    show b'≠g;omega
   have hck:wr.cell? ⟨b,off+k,none⟩=some (.slice P.p P.n P.c):=by
    rw[(Cp hbel).1 _ _ hb];exact hc k P hP
   have htk:Aa (whole (L.take (k+1))=whole (L.take k)++P.bs):=⟨by rw[List.take_add_one,hP];exact Rm _ _⟩
   have HOK:Aa (Ct wr P):=⟨hok⟩
   have HNE:Aa (0<P.n->∀q,P.p=some q->q.block≠g):=⟨hblt⟩
   clear hc hP hok hblt;obtain⟨pp,pn,pc,pb⟩:=P
   dsimp only at *
   go_wp2_with fail
   refine(Fk wr g _ pp pn pc pb hTr hash (by omega) HOK.out.row HOK.out.bytes HNE.out).mono ?_;rintro e w2 ⟨rfl,hb2,hh2⟩;rw[<-htk.out]at hh2
   have hz:w.heap.size<=wr.heap.size:=hbel.size;have hbel2:=hbel.trans (hb2.below hg hz);go_wp2;go_roundw
   case rel=>exact⟨k+1,by omega,by go_num,hbel2,hh2⟩
   case measure=>simp[intOf];omega
  .obtain rfl:k=n:=by omega
   rw[List.take_of_length_le (by have:=hlen.out;omega)]at hash
   have hz:w.heap.size<=wr.heap.size:=hbel.size
   go_wp2_with fail
   refine(Mv wr g _ hTr hash).mono ?_;rintro e w3 ⟨q,rfl,hq,hb3,hk3⟩;go_wp2;go_ret;exact⟨q,rfl,by omega,hbel.trans (hb3.mono hz),hk3⟩
theorem jY (w:World)(P:Part)(hP:Ct w P):Fm (w.alloc (.cells #[.slice P.p P.n P.c] 23)) (some ⟨w.heap.size,0,none⟩) 1 1 [P]:=by
 have hb:Below w.heap.size w (w.alloc (.cells #[.slice P.p P.n P.c] 23)):=Bt;have hn:=heap_alloc_new w (.cells #[.slice P.p P.n P.c] 23);refine⟨rfl,Aw _,by omega,fun i X hX=>?_,fun _=>⟨w.heap.size,0,rfl,by simp,fun i X hX=>?_⟩⟩
 .match i,hX with
  | 0,h=>cases h;exact hP.below hb
 .match i,hX with
  | 0,h=>cases h;unfold World.cell?;dsimp only;rw[hn];rfl
theorem Uh (P:Part):whole [P]=P.bs:=by simp[whole]
theorem pJ (w:World)(P Q R:Part)(hP:Ct w P)(hQ:Ct w Q)(hR:Ct w R):Fm (w.alloc (.cells #[.slice P.p P.n P.c,.slice Q.p Q.n Q.c,.slice R.p R.n R.c] 23)) (some ⟨w.heap.size,0,none⟩) 3 3 [P,Q,R]:=by
 have hb:Below w.heap.size w (w.alloc (.cells #[.slice P.p P.n P.c,.slice Q.p Q.n Q.c,.slice R.p R.n R.c] 23)):=Bt;have hn:=heap_alloc_new w (.cells #[.slice P.p P.n P.c,.slice Q.p Q.n Q.c,.slice R.p R.n R.c] 23);refine⟨rfl,Aw _,by omega,fun i X hX=>?_,fun _=>⟨w.heap.size,0,rfl,by simp,fun i X hX=>?_⟩⟩
 .match i,hX with
  | 0,h=>cases h;exact hP.below hb
  | 1,h=>cases h;exact hQ.below hb
  | 2,h=>cases h;exact hR.below hb
 .match i,hX with
  | 0,h=>cases h;unfold World.cell?;dsimp only;rw[hn];rfl
  | 1,h=>cases h;unfold World.cell?;dsimp only;rw[hn];rfl
  | 2,h=>cases h;unfold World.cell?;dsimp only;rw[hn];rfl
open Go Go.RowKit Go.Proofs.YtokhckjemidbpaaGreatDoor.Flow
theorem Kh (w:World)(b off:Nat) :
  (Instr.sliceAt 273 (.pointer (some ⟨b,off,none⟩)) none none none).run Tryz.prog w=.ok (.slice (some ⟨b,off,none⟩) 64 64) w:=by
 have hlen:Tryz.prog.arrayLen 273 = 64:=by kernel_rfl
 rw[run_sliceAt_array_all w 273 ⟨b,off,none⟩ Tryz.underlying273,hlen];have hs:(sizeOf (Tryz.prog.elem 273)).run Tryz.prog w=.ok 1 w:=by
  have:Tryz.prog.elem 273 = 5 := by kernel_rfl
  rw[this];simp[go_sem]
 rw[hs];simp[slicedAt,Addr.add]
theorem Rg (b:List Nat)(h:b.length=64):(Tryz.prog.info? 273).map (·.size)=some (b.map fun(x:Nat)=>Value.int .u8 x).toArray.size:=by
 rw[show (b.map fun(x:Nat)=>Value.int .u8 x).toArray.size=64 by simp[h]];kernel_rfl
theorem Rs {kk:List Nat}(_h:kk.length<=64) :
  splice ((List.replicate 64 0).map fun(x:Nat)=>Value.int .u8 x) 0 (kk.map fun(x:Nat)=>Value.int .u8 x)=(kk++List.replicate (64-kk.length) 0).map fun(x:Nat)=>Value.int .u8 x:=by
 unfold splice;rw[List.take_zero,List.nil_append,List.length_map,Nat.zero_add,<-List.map_drop,List.drop_replicate,List.map_append]
theorem fM {w:World}{p:Option Addr}{n c:Nat}{bs:List Nat}(h:Bq w .u8 p n c bs)(hn:0<n):∃ad,p=some ad/\ad.block<w.heap.size/\∀(j:Nat) (v:Value),(bs.map fun(x:Nat)=>Value.int .u8 (x:Int))[j]? = some v->w.cell? (ad.add j)=some v:=by
 obtain⟨b,off,rfl,hb,h3⟩:=(h.row hn).pos hn;refine⟨_,rfl,hb,fun j v hv=>?_⟩;rw[List.getElem?_map]at hv
 obtain⟨x,hx,rfl⟩:=Option.map_eq_some_iff.1 hv;rw[add_plain];exact h3 j x hx
def box2 (w:World):World:=(w.alloc (.cells (zeros .u8 64) 273)).alloc (.cells (zeros .u8 64) 273)
theorem Jr (w:World):Below w.heap.size w (box2 w):=((Ba _ _).alloc (Aw _) _).alloc (by simp) _
theorem mB (w:World):Bp (box2 w) (w.heap.size+1) 273 .u8 (List.replicate 64 0):=by
 have:=Bp.zeros (w.alloc (.cells (zeros .u8 64) 273)) 273 .u8 64;rw[show (w.alloc (.cells (zeros .u8 64) 273)).heap.size=w.heap.size+1 by simp]at this
 exact this
theorem mA (w:World):Bp (box2 w) w.heap.size 273 .u8 (List.replicate 64 0):=(Bp.zeros w 273 .u8 64).alloc _
theorem aV {w:World}{p:Option Addr}{n c:Nat}{key:List Nat}(hr:Bq w .u8 p n c key) :
  0<(key.map fun(x:Nat)=>Value.int .u8 (x:Int)).length->∃ad,p=some ad/\∀(j:Nat) (v:Value),(key.map fun(x:Nat)=>Value.int .u8 (x:Int))[j]? = some v->w.cell? (ad.add j)=some v:=fun h=>by
 obtain⟨ad,h1,_,h2⟩:=fM hr (by have:=hr.len;simpa [this]using h);exact⟨ad,h1,h2⟩
theorem jH (key:List Nat):∀v∈(key.map fun(x:Nat)=>Value.int .u8 (x:Int)),v.oneCell'=true:=fun v hv=>by
 obtain⟨x,_,rfl⟩:=List.mem_map.1 hv;rfl
theorem bC (w:World)(p:Option Addr)(n c:Nat)(key:List Nat)(hT:Tabs w)(hr:Bq w .u8 p n c key)(h8:Bc key) :
  Calls Tryz.prog 221 #[.slice p n c] w fun e w'=>e=.returned (.agg ((Ey key).map fun(x:Nat)=>Value.int .u8 (x:Int)).toArray)/\Below w.heap.size w w':=by
 have hm:=hr.max;have hcap:=hr.cap;have hsl:=Kh;have HI:=Ai (Rg (Ey key) (Hz key));have H1:=Ai (Nx .u8 (Ey key));have HS:Hid (((List.replicate 64 0).map fun(x:Nat)=>Value.int .u8 x).toArray.size=((Ey key).map fun(x:Nat)=>Value.int .u8 x).toArray.size):=Ai (by simp[Hz]);have HSp:Hid (splice ((List.replicate 64 0).map fun(x:Nat)=>Value.int .u8 x) 0 ((Mt key).map fun(x:Nat)=>Value.int .u8 x)=(Ey key).map fun(x:Nat)=>Value.int .u8 x):=Ai (Rs (kk:=Mt key) (Kn key));have HG:=Ai (mB w);have HW:=Ai (Jr w);have HO:=Ai (mA w);obtain⟨Z,hZ⟩:∃Z,((List.replicate 64 0).map fun(x:Nat)=>Value.int .u8 x)=Z:=⟨_,rfl⟩
 have HZ:=Ai hZ;have HFit:Hid (0+((Mt key).map fun(x:Nat)=>Value.int .u8 (x:Int)).length<=((List.replicate 64 0).map fun(x:Nat)=>Value.int .u8 (x:Int)).length):=Ai (by have:=Kn key;simp;omega);simp only[Bp,hZ]at HG HSp HFit HS HO;clear hZ
 by_cases hn:n<=64
 .have HKK:Hid (Mt key=key):=by
   show Mt key=_;unfold Mt;rw[if_neg (by have:=hr.len;omega)]
  rw[HKK.out]at HSp HFit
  have HSrc:=Ab (aV (hr.below (Jr w)));have HN:Hid ((key.map fun(x:Nat)=>Value.int .u8 (x:Int)).length=Nat.min n 64):=by
   show List.length _=_;rw[List.length_map,<-hr.len];exact(Nat.min_eq_left hn).symm
  generalize Ey key=B at *;go_enter Tryz.func221,Tryz.ntmps221
  go_wp2_with (refine wpList_copy_splice rfl (.tmp 10) (.tmp 11) 23 23 rfl 5 Tryz.underlying23 (by kernel_rfl) (some ⟨w.heap.size+1,0,none⟩) p 64 64 n c rfl rfl (w.heap.size+1) 0 Z 273 HG.out (key.map fun(x:Nat)=>Value.int .u8 (x:Int)) HN.out (fun h=>⟨rfl,HSrc.out h⟩) HFit.out (jH key) (w.heap.size+1) (box2 w) (Ba _ _) (Aw _) ?_)
  intro w2 hg2 hb2;have hg3:Hid (Bp w2 (w.heap.size+1) 273 .u8 B):=by
   show w2.heap[_]? = _;rw[hg2.out,HSp.out]
  have ho3:Hid (w2.heap[w.heap.size]? = some (.cells Z.toArray 273 (0,0))):=(hb2.block w.heap.size (by omega)).trans HO.out;have hb3:Hid (Below w.heap.size w w2):=HW.out.trans (hb2.mono (by omega));clear hg2 hb2 HSp HFit HSrc HN HO HG HW
  go_wp2_with (first|(refine wpList_load_row rfl 273 _ rfl (w.heap.size+1) rfl 273 (B.map fun(x:Nat)=>Value.int .u8 x).toArray (0,0) _ hg3.out Tryz.underlying273 rfl HI.out ?_)|(refine wpList_store_row rfl 273 _ _ rfl w.heap.size (B.map fun(x:Nat)=>Value.int .u8 x).toArray rfl rfl 273 Z.toArray ho3.out HI.out HS.out H1.out ?_))
  have hend:=setRow_heap w2 w.heap.size Z.toArray (B.map fun(x:Nat)=>Value.int .u8 x).toArray 273 (0,0) ho3.out;exact bodyPost_ret (v:=.agg (B.map fun(x:Nat)=>Value.int .u8 x).toArray) (results_cell_row Tryz.results221 _ _ w.heap.size 273 _ (0,0) _ rfl hend Tryz.underlying273 rfl HI.out) rfl ⟨rfl,below_setRow hb3.out (Aw _) _⟩
 .have HKK:Hid (Mt key=bL key):=by
   show Mt key=_;unfold Mt;rw[if_pos (by have:=hr.len;omega)]
  rw[HKK.out]at HSp HFit
  have hz:(box2 w).heap.size=w.heap.size+1+1:=by simp[box2]
  have hP:=jY (box2 w) ⟨p,n,c,key⟩ ⟨hr.below (Jr w),h8⟩;rw[hz]at hP
  have HP:=Ai hP;clear hP;have HT2:=Ai (hT.below (Jr w) hT.size);have HN:Hid (((bL key).map fun(x:Nat)=>Value.int .u8 (x:Int)).length=Nat.min 32 64):=by
   show List.length _=_;rw[List.length_map,Ef];rfl
  generalize Ey key=B at *;have HW1:Hid (Below (box2 w).heap.size (box2 w) ((box2 w).alloc (.cells #[.slice p n c] 23))):=Ai ((Ba _ _).alloc (Aw _) _);go_enter Tryz.func221,Tryz.ntmps221
  go_wp2_with fail
  refine aZ (w1:=(box2 w).alloc (.cells #[.slice p n c] 23)) (by kernel_rfl) ?_;refine(fG ((box2 w).alloc (.cells #[.slice p n c] 23)) (some ⟨w.heap.size+1+1,0,none⟩) 1 1 [⟨p,n,c,key⟩] (HT2.out.below HW1.out HT2.out.size) HP.out).mono ?_;rintro e w1 ⟨q,rfl,hq,hb1,hk1⟩;rw[Uh]at hk1
  dsimp only at hk1
  have hb2:Below (box2 w).heap.size (box2 w) w1:=HW1.out.trans (hb1.mono HW1.out.size);have hrow:Bq w1 .u8 (some ⟨q,0,none⟩) 32 32 (bL key):=⟨(Ef _).symm,Aw _,by omega,fun _=>hk1.row (Ef _).symm (Aw _) (by omega)⟩
  have HSrc:=Ab (aV hrow);have HG1:Hid (w1.heap[w.heap.size+1]? = some (.cells Z.toArray 273 (0,0))):=(hb2.block (w.heap.size+1) (by omega)).trans HG.out;have HO1:Hid (w1.heap[w.heap.size]? = some (.cells Z.toArray 273 (0,0))):=(hb2.block w.heap.size (by omega)).trans HO.out;have HW2:Hid (Below w.heap.size w w1):=HW.out.trans (hb2.mono (by omega));clear hrow hk1 hb1 hb2 HG HO HW HP HT2 HW1 hq
  go_wp2_with (refine wpList_copy_splice rfl (.tmp 10) (.tmp 11) 23 23 rfl 5 Tryz.underlying23 (by kernel_rfl) (some ⟨w.heap.size+1,0,none⟩) (some ⟨q,0,none⟩) 64 64 32 32 rfl rfl (w.heap.size+1) 0 Z 273 HG1.out ((bL key).map fun(x:Nat)=>Value.int .u8 (x:Int)) HN.out (fun h=>⟨rfl,HSrc.out h⟩) HFit.out (jH _) (w.heap.size+1) w1 (Ba _ _) (Aw _) ?_)
  intro w2 hg2 hb2;have hg3:Hid (Bp w2 (w.heap.size+1) 273 .u8 B):=by
   show w2.heap[_]? = _;rw[hg2.out,HSp.out]
  have ho3:Hid (w2.heap[w.heap.size]? = some (.cells Z.toArray 273 (0,0))):=(hb2.block w.heap.size (by omega)).trans HO1.out;have hb3:Hid (Below w.heap.size w w2):=HW2.out.trans (hb2.mono (by omega));clear hg2 hb2 HSp HFit HSrc HN HO1 HG1 HW2
  go_wp2_with (first|(refine wpList_load_row rfl 273 _ rfl (w.heap.size+1) rfl 273 (B.map fun(x:Nat)=>Value.int .u8 x).toArray (0,0) _ hg3.out Tryz.underlying273 rfl HI.out ?_)|(refine wpList_store_row rfl 273 _ _ rfl w.heap.size (B.map fun(x:Nat)=>Value.int .u8 x).toArray rfl rfl 273 Z.toArray ho3.out HI.out HS.out H1.out ?_))
  have hend:=setRow_heap w2 w.heap.size Z.toArray (B.map fun(x:Nat)=>Value.int .u8 x).toArray 273 (0,0) ho3.out;exact bodyPost_ret (v:=.agg (B.map fun(x:Nat)=>Value.int .u8 x).toArray) (results_cell_row Tryz.results221 _ _ w.heap.size 273 _ (0,0) _ rfl hend Tryz.underlying273 rfl HI.out) rfl ⟨rfl,below_setRow hb3.out (Aw _) _⟩
end Go.Proofs.YtokhckjemidbpaaGreatDoor
