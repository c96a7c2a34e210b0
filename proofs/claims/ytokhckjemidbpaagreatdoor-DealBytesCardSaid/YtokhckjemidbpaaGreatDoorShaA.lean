/- A hash's bytes grow. -/
import Derived.Test.YtokhckjemidbpaaGreatDoorShaT
import Derived.BigRegion
import Derived.StillTailTactics
import Derived.Deep.RegionLaw
set_option maxRecDepth 1000000
set_option maxHeartbeats 16000000
set_option linter.all false
namespace Go.Proofs.YtokhckjemidbpaaGreatDoor
open Go Go.RowKit
theorem cI {i:Int}(n:Nat)(hi:i=(n:Nat))(h:n<=4294967296)(w:World):(Instr.makeSlice 23 (.int .i64 i) (.int .i64 i)).run Tryz.prog w =
  .ok (.slice (some ⟨w.heap.size,0,none⟩) n n) (w.alloc (.cells (zeros .u8 n) 5)):=by subst hi;exact Sg n h w
theorem Om:∀(st:List Nat) (q r:Nat),q<st.length->r<4->(st.flatMap Gt)[4*q+r]? = some (st.getD q 0/256^(3-r)%256)
 | [],q,r,h,_=>by simp at h
 | x::st,0,r,_,hr=>by
  rw[List.flatMap_cons]
  match r,hr with
  | 0,_=>rfl
  | 1,_=>rfl
  | 2,_=>rfl
  | 3,_=>simp[Gt]
 | x::st,q+1,r,h,hr=>by
  rw[List.flatMap_cons,List.getElem?_append_right (by simp[Gt];omega)];simp only[Gt,List.length_cons,List.length_nil];rw[show 4*(q+1)+r-(0+1+1+1+1)=4*q+r by omega,Om st q r (by simpa using h) hr];simp
theorem Ki:∀(st:List Nat),(st.flatMap Gt).length=4*st.length
 | []=>rfl
 | x::st=>by rw[List.flatMap_cons,List.length_append,Ki st];simp[Gt];omega
theorem eV {L:List Nat}{k x:Nat}(n:Nat)(hk:L[k]? = some x)(hn:L.length=n):(L.take k++List.replicate (n-k) 0).set k x=L.take (k+1)++List.replicate (n-(k+1)) 0:=by
 have hl:k<L.length:=(List.getElem?_eq_some_iff.1 hk).1;have ht:(L.take k).length=k:=by simp;omega
 rw[List.set_append_right _ _ (by omega),ht,Nat.sub_self,show n-k=(n-(k+1))+1 by omega,List.replicate_succ,List.set_cons_zero,List.take_add_one,hk];simp
theorem Ou (w:World)(g:Nat)(st pend:List Nat)(len:Nat)(hs:st.length=8)(hst:Words st)(hH:Dn w g st pend len) :
  Calls Tryz.prog 226 #[.pointer (some ⟨g,0,none⟩)] w fun e w'=>e=.returned (.slice (some ⟨w.heap.size,0,none⟩) 32 32)/\Below w.heap.size w w'/\Bi w' w.heap.size 5 .u8 (st.flatMap Gt):=by
 have hmk:=fun wx=>cI (i:=32) 32 rfl (by omega) wx
 have hL:=Ki st;rw[hs]at hL
 obtain⟨L,hLe⟩:∃L,st.flatMap Gt=L:=⟨_,rfl⟩
 have HG:Hid (∀q r,q<8->r<4->L[4*q+r]? = some (st.getD q 0/256^(3-r)%256)):=fun q r hq hr=>by rw[<-hLe];exact Om st q r (by omega) hr
 rw[hLe]at hL ⊢
 clear hLe;have HL:=Af hL;clear hL;go_enter Tryz.func226,Tryz.ntmps226;go_wp2
 go_loopw [8] (fun i wr=>∃k:Nat,k<=32/\i=.int .i64 k/\w.heap.size<wr.heap.size/\Below w.heap.size w wr/\Bi wr w.heap.size 5 .u8 (L.take k++List.replicate (32-k) 0)) (fun i _=>32-(intOf i).toNat)
 case atStart=>exact⟨0,by omega,rfl,by simp,(Bd _ _).alloc (Av _) _,Bi.zeros w 5 .u8 32⟩
 case round=>
  obtain⟨k,hk,rfl,hsz,hbel,hblk⟩:=hrel
  by_cases hk32:k<32
  .obtain⟨q,r,rfl,hr⟩:∃q r,k=4*q+r/\r<4:=⟨k/4,k%4,by omega,by omega⟩
   have hq:q<8:=by omega
   have hx:=HG.out q r hq hr;have hxw:=hst.get q;have hc:wr.cell? ⟨g,q,none⟩=some (.int .u32 (st.getD q 0:Nat)):=by
    rw[(Cd hbel).1 _ _ hH.lt];exact hH.cell (Fo hs hq)
   have hset:=Af (eV 32 hx HL.out);have e0:=hblk.cell (i:=4*q+r) (x:=0) (by rw[List.getElem?_append_right (by simp;have:=HL.out;omega)];simp[List.getElem?_replicate];have:=HL.out;omega);have e1:=hblk.free (4*q+r);have hne:g≠w.heap.size:=by have:=hH.lt;omega
   generalize st.getD q 0=x at *;have HX:=Af hx;clear hx;have t1:((4*q+r:Nat):Int)/4=(q:Int):=by omega
   obtain rfl|rfl|rfl|rfl:r=0 ∨ r=1 ∨ r=2 ∨ r=3:=by omega
   .rw[Nat.add_zero]at e0 e1
    go_wp2;have hv:(x:Int)/16777216=((x/256^(3-0)%256:Nat):Int):=by
     rw[show (256:Nat)^(3-0)=16777216 from rfl];omega
    try rw[hv]
    go_roundw
    case rel=>exact⟨4*q+0+1,by omega,by go_num,by simpa using hsz,hbel.setCell (by simp) _,by have h:=hblk.set (4*q+0) (x/256^(3-0)%256);rw[hset.out]at h;exact h⟩
    case measure=>simp[intOf];omega
   .have hc':wr.cell? ⟨g,(4*q+1)/4,none⟩=some (.int .u32 (x:Nat)):=by rw[show (4*q+1)/4=q by omega];exact hc
    go_wp2;have hv:(x:Int)/65536%256=((x/256^(3-1)%256:Nat):Int):=by
     rw[show (256:Nat)^(3-1)=65536 from rfl];omega
    try rw[hv]
    go_roundw
    case rel=>exact⟨4*q+1+1,by omega,by go_num,by simpa using hsz,hbel.setCell (by simp) _,by have h:=hblk.set (4*q+1) (x/256^(3-1)%256);rw[hset.out]at h;exact h⟩
    case measure=>simp[intOf];omega
   .have hc':wr.cell? ⟨g,(4*q+2)/4,none⟩=some (.int .u32 (x:Nat)):=by rw[show (4*q+2)/4=q by omega];exact hc
    go_wp2;have hv:(x:Int)/256%256=((x/256^(3-2)%256:Nat):Int):=by
     rw[show (256:Nat)^(3-2)=256 from rfl];omega
    try rw[hv]
    go_roundw
    case rel=>exact⟨4*q+2+1,by omega,by go_num,by simpa using hsz,hbel.setCell (by simp) _,by have h:=hblk.set (4*q+2) (x/256^(3-2)%256);rw[hset.out]at h;exact h⟩
    case measure=>simp[intOf];omega
   .have hc':wr.cell? ⟨g,(4*q+3)/4,none⟩=some (.int .u32 (x:Nat)):=by rw[show (4*q+3)/4=q by omega];exact hc
    go_wp2;have hv:(x:Int)%256=((x/256^(3-3)%256:Nat):Int):=by
     rw[show (256:Nat)^(3-3)=1 from rfl];omega
    try rw[hv]
    go_roundw
    case rel=>exact⟨4*q+3+1,by omega,by go_num,by simpa using hsz,hbel.setCell (by simp) _,by have h:=hblk.set (4*q+3) (x/256^(3-3)%256);rw[hset.out]at h;exact h⟩
    case measure=>simp[intOf];omega
  .obtain rfl:k=32:=by omega
   have hb:Bi wr w.heap.size 5 .u8 L:=by
    have h:=hblk;rw[List.take_of_length_le (by have:=HL.out;omega),Nat.sub_self,List.replicate_zero,List.append_nil]at h
    exact h
   go_wp2;go_ret;exact⟨rfl,hbel,hb⟩
theorem cH {i:Int}(n:Nat)(hi:i=(n:Nat))(h:n<=4294967296)(w:World):(Instr.makeSlice 23 (.int .u64 i) (.int .u64 i)).run Tryz.prog w =
  .ok (.slice (some ⟨w.heap.size,0,none⟩) n n) (w.alloc (.cells (zeros .u8 n) 5)):=by
 subst hi;obtain⟨i,hi,hz,hs,hb⟩:=info_parts Tryz.info_u8;have:=run_make (P:=Tryz.prog) w 23 5 i (.int .u8 0) Tryz.underlying23 hi hz .u64 .u64 n n (by omega) (Int.le_refl _) (by rw[hb];omega) (by omega);simp only[Int.toNat_natCast,hs,Nat.mul_one]at this;rw[this,<-Lc];rfl
theorem Xt (n:Nat):behind (n%18446744073709551616)=behind n:=by
 unfold behind;rw[show Cy (n%18446744073709551616)=Cy n by unfold Cy;omega,show n%18446744073709551616*8%18446744073709551616=n*8%18446744073709551616 by omega]
def Lw (nn M k:Nat):List Nat:=128::(List.replicate (nn+(8-k)) 0++(fP M).drop (8-k))
theorem Xp (nn M:Nat):Lw nn M 0=(List.replicate (nn+9) 0).set 0 128:=by
 unfold Lw;rw[List.drop_of_length_le (by rw[Kz];omega),List.append_nil];rfl
theorem aK (nn M k:Nat)(hk:k<8):(Lw nn M k).set (nn+8-k) (M/2^(8*k)%256)=Lw nn M (k+1):=by
 unfold Lw;rw[show nn+8-k=(nn+(8-(k+1)))+1 by omega,List.set_cons_succ]
 congr 1
 rw[show nn+(8-k)=(nn+(8-(k+1)))+1 by omega,List.replicate_succ',List.append_assoc,List.set_append_right _ _ (by simp),List.length_replicate,Nat.sub_self]
 congr 1
 have h:8-(k+1)<(fP M).length:=by rw[Kz];omega
 rw[List.singleton_append,List.set_cons_zero,List.drop_eq_getElem_cons h,show 8-(k+1)+1=8-k by omega]
 congr 1
 simp only[fP,List.getElem_map,List.getElem_range];rw[show 7-(8-(k+1))=k by omega]
theorem aL (nn M k:Nat)(hk:k<8):(Lw nn M k)[nn+8-k]? = some 0:=by
 unfold Lw;rw[show nn+8-k=(nn+(8-(k+1)))+1 by omega,List.getElem?_cons_succ,List.getElem?_append_left (by simp;omega)];simp[List.getElem?_replicate];omega
theorem Tc (w:World)(N:Nat)(hN:N<18446744073709551616) :
  Calls Tryz.prog 225 #[.int .u64 N] w fun e w'=>e=.returned (.slice (some ⟨w.heap.size,0,none⟩) (Cy N+9) (Cy N+9))/\Below w.heap.size w w'/\Bi w' w.heap.size 5 .u8 (behind N):=by
 obtain⟨nn,hnn⟩:∃nn,Cy N=nn:=⟨_,rfl⟩
 have hn63:nn<64:=by rw[<-hnn];unfold Cy;omega
 have t1:(119-(N:Int)%64)%64=(nn:Int):=by rw[<-hnn];unfold Cy;omega
 have HB:Hid (behind N=Lw nn (N*8%18446744073709551616) 8):=by unfold behind;rw[hnn];rfl
 rw[hnn];clear hnn;have hmk:=fun wx=>cH (i:=1+(nn:Int)+8) (nn+9) (by omega) (by omega) wx
 go_enter Tryz.func225,Tryz.ntmps225;go_wp2;obtain⟨M,hM⟩:∃M,N*8%18446744073709551616=M:=⟨_,rfl⟩
 have hM2:IntKind.u64.wrap ((N:Int)*8)=(M:Int):=by
  show (N:Int)*8%18446744073709551616=(M:Int)
  omega
 have hM64:M<18446744073709551616:=by omega
 rw[hM]at HB
 clear hM;simp only[hM2];clear hM2
 go_loopw [19] (fun i wr=>∃k:Nat,k<=8/\i=.int .i64 k/\w.heap.size<wr.heap.size/\Below w.heap.size w wr/\Bi wr w.heap.size 5 .u8 (Lw nn M k)) (fun i _=>8-(intOf i).toNat)
 case atStart=>
  refine⟨0,by omega,rfl,by simp,(Bd _ _).alloc (Av _) _,?_⟩;rw[Xp];have e:(zeros .u8 (nn+9)).setIfInBounds 0 (.int .u8 128)=(((List.replicate (nn+9) 0).set 0 128).map fun(x:Nat)=>Value.int .u8 x).toArray:=by
   unfold zeros;rw[List.map_set];rfl
  rw[e];exact heap_alloc_new w _
 case round=>
  obtain⟨k,hk,rfl,hsz,hbel,hblk⟩:=hrel
  by_cases hk8:k<8
  .have e0:=hblk.cell (aL nn M k hk8);have e1:=hblk.free (nn+8-k);have hset:=Af (aK nn M k hk8);have a1:((nn:Int)+8-k).toNat=nn+8-k:=by omega
   go_wp2;have hv:(M:Int)/2^(k*8)%256=((M/2^(8*k)%256:Nat):Int):=by
    rw[Int.natCast_emod,Int.natCast_ediv,Int.natCast_pow,Nat.mul_comm k 8];rfl
   rw[hv];go_roundw
   case rel=>
    refine⟨k+1,by omega,by go_num,by simpa using hsz,hbel.setCell (by simp) _,?_⟩;have h:=hblk.set (nn+8-k) (M/2^(8*k)%256);rw[hset.out]at h
    exact h
   case measure=>simp[intOf];omega
  .obtain rfl:k=8:=by omega
   go_wp2;go_ret;refine⟨rfl,hbel,?_⟩;rw[HB.out];exact hblk
theorem Gu {P:Program}{ops:Array Oper}{o:Oper}{a:Act}{w:World}{K:Act->World->Prop}{Q:Exit->Act->World->Prop}{E:Prop}(hgd:o.guard=none)(d s:Operand)(dT sT:TypeId)(ho:o.op=.call { callee:=.builtin .copy,args:=#[d,s],argTypes:=#[dT,sT] })(elem:TypeId)(hu:P.underlying dT=some (.slice elem))(hsz:(P.info? elem).map (·.size)=some 1)(dp sp:Option Addr)(dLen dCap sLen sCap:Nat)(hd:a.eval d=.slice dp dLen dCap)(hs:a.eval s=.slice sp sLen sCap)(g off:Nat)(cur:List Value)(t:TypeId)(hg:w.heap[g]? = some (.cells cur.toArray t (0,0)))(cs:List Value)(hn:cs.length=Nat.min sLen dLen)(hpos:0<cs.length->dp=some ⟨g,off,none⟩/\∃ad,sp=some ad/\∀j v,cs[j]? = some v->w.cell? (ad.add j)=some v)(hfit:off+cs.length<=cur.length)(h1:∀v∈cs,v.oneCell'=true)(h:∀w',Hid (w'.heap[g]? = some (.cells (splice cur off cs).toArray t (0,0)))->Ee g w w'->K (a.put o.dst (goInt cs.length)) w') :
  if Region.wanted o (yielded ops a.tmps)=true then Oper.wp P o a w K Q else E:=by
 have hw:Region.wanted o (yielded ops a.tmps)=true:=by simp[Region.wanted,hgd]
 rw[if_pos hw]
 by_cases h0:cs.length=0
 .obtain rfl:cs=[]:=List.eq_nil_of_length_eq_zero h0;have hrun:=run_copy_none (P:=P) w dT sT o.type elem dp sp dLen dCap sLen sCap hu hsz (by simpa using hn.symm);unfold Oper.wp;simp[execOp,ho,resolve,invoke,builtin,hd,hs,hrun,Result.andThen];exact h w (show _=_ by simpa [splice]using hg) (Ee.refl _ _)
 .obtain⟨rfl,ad,rfl,hsrc⟩:=hpos (by omega);have hrun:=run_copy_row (P:=P) w dT sT o.type elem g off dLen dCap ad sLen sCap cur.toArray t cs hu hsz hg hn hsrc (by simpa using hfit) h1;unfold Oper.wp;simp[execOp,ho,resolve,invoke,builtin,hd,hs,hrun,Result.andThen];exact h _ (show _=_ by simpa [splice]using setRow_heap w g _ _ t _ hg) (Ee.setRow _ _)
theorem Ee.of_drew {g:Nat}{w w':World}(h:Ee g w.drew w'):Ee g w w':=⟨h.os,h.tape,h.output,h.size,h.block⟩
theorem Ru {st pend:List Nat}{len:Nat}{xs:List Nat}(hs:st.length=8)(hx:xs.length=8):splice (Bm st pend len) 0 (xs.map fun(x:Nat)=>Value.int .u32 x)=Bm xs pend len:=by
 unfold splice Bm;simp only[List.take_zero,List.nil_append,List.length_map,Nat.zero_add];rw[List.drop_append_of_le_length (by simp;omega),hx,List.drop_of_length_le (by simp;omega),List.nil_append]
theorem Nc {st pend:List Nat}{len:Nat}{xs:List Nat}{r:Nat}(hs:st.length=8)(hx:r+xs.length<=pend.length) :
  splice (Bm st pend len) (8+r) (xs.map fun(x:Nat)=>Value.int .u8 x)=Bm st (splice pend r xs) len:=by
 unfold splice Bm;rw[List.take_append,List.take_of_length_le (by simp;omega),List.length_map,hs,Nat.add_sub_cancel_left,List.take_append_of_le_length (by simp;omega),List.append_assoc]
 congr 1
 rw[List.drop_append,List.drop_of_length_le (by simp;omega),List.nil_append,List.length_map,List.length_map,hs,show 8+r+xs.length-8=r+xs.length by omega,
  List.drop_append_of_le_length (by simp;omega)]
 simp[List.map_take,List.map_drop]
structure iK (m piece pend:List Nat):Prop where
 len:(splice pend (m.length%64) piece).length=64
 bytes:Au (splice pend (m.length%64) piece)
 some:m.length%64+piece.length<64->blocks (m++piece) ((m++piece).length/64)=blocks m (m.length/64)/\(splice pend (m.length%64) piece).take ((m++piece).length%64)=(m++piece).drop (64*((m++piece).length/64))
 full:m.length%64+piece.length=64->blocks (m++piece) ((m++piece).length/64)=Su (blocks m (m.length/64)) (splice pend (m.length%64) piece)/\(m++piece).length%64=0/\(m++piece).drop (64*((m++piece).length/64))=[]
theorem grows {m piece pend:List Nat}(hp:pend.length=64)(h8:Au pend)(hb:Au piece)(hk:pend.take (m.length%64)=m.drop (64*(m.length/64)))(hl:m.length%64+piece.length<=64):iK m piece pend:=by
 obtain⟨q,r,hq,hr,hm,hr64⟩:∃q r,m.length/64=q/\m.length%64=r/\m.length=64*q+r/\r<64:=⟨_,_,rfl,rfl,by omega,by omega⟩
 have hk':pend.take r=m.drop (64*q):=by rw[<-hr,<-hq];exact hk
 have hlen:(splice pend r piece).length=64:=by rw[length_splice _ _ _ (by omega),hp]
 have ht:(splice pend r piece).take (r+piece.length)=(m++piece).drop (64*q):=by
  rw[List.drop_append_of_le_length (by omega),<-hk'];unfold splice;rw[<-List.append_assoc,List.take_append_of_le_length (by simp;omega),List.take_of_length_le (by simp;omega)]
 refine⟨by rw[hr];exact hlen,?_,fun hs=>?_,fun hf=>?_⟩
 .rw[hr];intro x hx;simp only[splice,List.mem_append]at hx;rcases hx with hx|hx|hx
  .exact h8 x (List.mem_of_mem_take hx)
  .exact hb x hx
  .exact h8 x (List.mem_of_mem_drop hx)
 .have e1:(m++piece).length/64=q:=by rw[List.length_append];omega
  have e2:(m++piece).length%64=r+piece.length:=by rw[List.length_append];omega
  rw[e1,e2,hr,hq];exact⟨Gy (by omega),ht⟩
 .have e1:(m++piece).length/64=q+1:=by rw[List.length_append];omega
  have e2:(m++piece).length%64=0:=by rw[List.length_append];omega
  rw[e1,hr,hq];refine⟨?_,e2,List.drop_of_length_le (by rw[List.length_append];omega)⟩;rw[blocks,Gy (by omega),<-ht,show r+piece.length=64 by omega,List.take_take,Nat.min_self,List.take_of_length_le (by omega)]
theorem Ye {n c:Nat}{bs:List Nat}{w:World}{p:Option Addr}(h:Bb w .u8 p n c bs)(k:Nat)(hk:k<=n)(p':Option Addr)(hp:k<n->∃b off,p=some ⟨b,off,none⟩/\p'=some ⟨b,off+k,none⟩) :
  Bb w .u8 p' (n-k) (c-k) (bs.drop k):=by
 have hl:=h.len;have hc:=h.cap;have hm:=h.max;refine⟨by simp;omega,by omega,by omega,fun h0=>?_⟩;obtain⟨b,off,rfl,rfl⟩:=hp (by omega);obtain⟨b',off',e,h2,h3⟩:=(h.row (by omega)).pos (by omega);cases e;refine⟨by simp;omega,by omega,by omega,.inr ⟨b,off+k,rfl,h2,fun i x hx=>?_⟩⟩;rw[Nat.add_assoc];exact h3 (k+i) x (by rw[List.getElem?_drop]at hx;exact hx)
theorem Eg (w:World)(g:Nat)(m:List Nat)(p:Option Addr)(n c:Nat)(bs:List Nat)(hT:Tabs w)(hH:Bl w g m)(hg:(max (0 : Nat) 2 + 1)<=g)(hr:Bb w .u8 p n c bs)(h8:Au bs)(hne:0<n->∀q,p=some q->q.block≠g) :
  Calls Tryz.prog 188 #[.pointer (some ⟨g,0,none⟩),.slice p n c] w fun e w'=>e=.returned (.tuple #[])/\Ee g w w'/\Bl w' g (m++bs):=by
 have HRow:=Af hr;have HL:=Af hr.len;have hcap:=hr.cap;have hmax:=hr.max;clear hr;go_enter Tryz.func188,Tryz.ntmps188;go_wp2
 go_loopw [1] (fun v wr=>∃(k:Nat) (p':Option Addr),k<=n/\v=.slice p' (n-k) (c-k)/\Ee g w wr/\Bl wr g (m++bs.take k)/\(k<n->∃b off,p=some ⟨b,off,none⟩/\p'=some ⟨b,off+k,none⟩)) (fun v _=>match v with | .slice _ l _=>l|_=>0)
 case atStart=>
  refine⟨0,p,by omega,rfl,Ee.refl _ _,by rw[List.take_zero,List.append_nil];exact hH,fun h0=>?_⟩;obtain⟨b,off,h1,_⟩:=(HRow.out.row h0).pos h0;exact⟨b,off,h1,h1⟩
 case round=>
  obtain⟨k,p',hk,rfl,hbut,hash,hp'⟩:=hrel
  by_cases hkn:k<n
  .obtain⟨b,off,hpe,rfl⟩:=hp' hkn;obtain⟨pend,q1,q2,q3,q4⟩:=hash.ex;have hrow:=Ye HRow.out k hk _ hp';obtain⟨m1,hm1⟩:∃m1,m++bs.take k=m1:=⟨_,rfl⟩
   have HM1:=Af hm1;simp only[hm1]at q3 q4;clear hm1;have hcb:∀(j x:Nat),(bs.drop k)[j]? = some x->wr.cell? ⟨b,off+k+j,none⟩=some (.int .u8 (x:Int)):=fun j x hx=>by
    obtain⟨b',off',e,h2,h3⟩:=(hrow.row (by omega)).pos (by omega);cases e;rw[hbut.cell (p:=⟨b,off+k+j,none⟩) h2 (hne (by omega) ⟨b,off,none⟩ hpe)];exact h3 j x hx
   obtain⟨r,hrd⟩:∃r,m1.length%64=r:=⟨_,rfl⟩
   have hr64:r<64:=by omega
   obtain⟨n1,hn1⟩:∃n1,Nat.min (n-k) (64-r)=n1:=⟨_,rfl⟩
   have hn1a:n1<=n-k:=by rw[<-hn1];exact Nat.min_le_left _ _
   have hn1b:n1<=64-r:=by rw[<-hn1];exact Nat.min_le_right _ _
   have hn1c:0<n1:=by rw[<-hn1];exact Nat.lt_min.2 ⟨by omega,by omega⟩
   obtain⟨L,hLd⟩:∃L,m1.length%18446744073709551616=L:=⟨_,rfl⟩
   have hL64:L<18446744073709551616:=by omega
   have tL:(L:Int)%64=(r:Int):=by omega
   have tLm:(L:Int).tmod 64=(r:Int):=by rw[Int.tmod_eq_emod_of_nonneg (by omega)];exact tL
   have hst8:=Dd m1 (m1.length/64);have c72:=q3.cell (Hs hst8 q1);rw[hLd]at q3 c72
   have hpc:((bs.drop k).take n1).length=n1:=by simp;have:=HL.out;omega
   have hsl:=fun wx=>Qy wx g 8 r .u64 (r:Int) rfl hr64
   have hgr:=grows (m:=m1) (piece:=(bs.drop k).take n1) q1 q2 (fun x hx=>h8 x (List.mem_of_mem_drop (List.mem_of_mem_take hx))) q4 (by rw[hrd,hpc];omega);obtain⟨G1,G2,G3,G4⟩:=hgr;rw[hrd]at G1 G2 G3 G4
   have HG3:=Af G3;have HG4:=Af G4;have HG1:=Af G1;have HRD:=Af hrd;have HLD:=Af hLd;have HQ4:=Af q4;have HSp:=Af (Nc (st:=blocks m1 (m1.length/64)) (pend:=pend) (len:=L) (xs:=(bs.drop k).take n1) (r:=r) hst8 (by rw[hpc,q1];omega));have HQ3:=Af q3;have HN1:=Af hn1;have HPC:=Af hpc;have HSL:=Af hsl;have HV:Hid (∀(j:Nat) (v:Value),(((bs.drop k).take n1).map fun(x:Nat)=>Value.int .u8 x)[j]? = some v->wr.cell? ((⟨b,off+k,none⟩:Addr).add j)=some v):=fun j v hv=>by
    rw[List.getElem?_map]at hv
    obtain⟨x,hx,rfl⟩:=Option.map_eq_some_iff.1 hv;rw[add_plain];refine hcb j x ?_;rw[List.getElem?_take]at hx
    split at hx
    .exact hx
    .cases hx
   have HN:Hid ((((bs.drop k).take n1).map fun(x:Nat)=>Value.int .u8 x).length=Nat.min (n-k) (64-r)):=by
    show List.length _=_;rw[List.length_map,hpc,hn1]
   have HF:Hid (8+r+(((bs.drop k).take n1).map fun(x:Nat)=>Value.int .u8 x).length<=(Bm (blocks m1 (m1.length/64)) pend L).length):=by
    show _<=List.length _;rw[List.length_map,hpc,Kk hst8 q1];omega
   have HO:Hid (∀v∈(((bs.drop k).take n1).map fun(x:Nat)=>Value.int .u8 x),v.oneCell'=true):=fun v hv=>by
    obtain⟨x,_,rfl⟩:=List.mem_map.1 hv;rfl
   have hlt:=q3.lt;clear hn1 hcb q3 hrow hrd hLd G1 G3 G4 q4 hsl;obtain⟨piece,hpd⟩:∃piece,(bs.drop k).take n1=piece:=⟨_,rfl⟩
   have HPD:=Af hpd;rw[hpd]at HV HN HF HO HSp HPC hpc HG3 HG4 HG1 G2
   clear hpd;obtain⟨cs,hcs⟩:∃cs,(piece.map fun(x:Nat)=>Value.int .u8 x)=cs:=⟨_,rfl⟩
   have hcl:cs.length=n1:=by rw[<-hcs,List.length_map];exact hpc
   rw[hcs]at HV HN HF HO HSp
   clear hcs hpc;have hsl:=HSL.out;obtain⟨L2,hL2⟩:∃L2,(L+n1)%18446744073709551616=L2:=⟨_,rfl⟩
   have tL2:IntKind.u64.wrap ((L:Int)+n1)=(L2:Int):=by
    show ((L:Int)+n1)%18446744073709551616=(L2:Int)
    omega
   have hL2b:L2<18446744073709551616:=by omega
   have HL2:=Af hL2;have hL2r:(r+n1<64->L2%64=r+n1)/\(r+n1=64->L2%64=0):=⟨by omega,by omega⟩
   have HL2R:=Af hL2r;clear hL2 hL2r;go_wp2
   go_region_law (refine Gu rfl (.tmp 18) (.tmp 19) 23 23 rfl 5 Tryz.underlying23 (by kernel_rfl) (some ⟨g,8+r,none⟩) (some ⟨b,off+k,none⟩) (64-r) (64-r) (n-k) (c-k) rfl rfl g (8+r) (Bm (blocks m1 (m1.length/64)) pend L) 278 HQ3.out cs HN.out (fun _=>⟨rfl,_,rfl,HV.out⟩) HF.out HO.out ?_;intro w4 hg4 hb4)
   rw[HSp.out]at hg4
   have hx4:Dn w4 g (blocks m1 (m1.length/64)) (splice pend r piece) L:=hg4.out;clear hg4;obtain⟨P4,hP4⟩:∃P4,splice pend r piece=P4:=⟨_,rfl⟩
   rw[hP4]at hx4 HG1 G2 HG3 HG4
   have hl4:P4.length=64:=HG1.out;have c72':=hx4.cell (Hs hst8 hl4);have e72:=hx4.free 72;have HX4:=Af hx4;clear hx4 hP4 c72 HQ3 hsl HSL;have hb5:∀v:Value,Ee g w (w4.setCell ⟨g,72,none⟩ v):=fun v=>(hbut.trans hb4.of_drew).trans (Ee.setCell _ _ _)
   have HB5:=Af hb5;have hx5:Dn (w4.setCell ⟨g,72,none⟩ (.int .u64 (L2:Nat))) g (blocks m1 (m1.length/64)) P4 L2:=HX4.out.set 72 _ (Jd hst8 hl4);have HX5:=Af hx5;have ha:m++bs.take (k+n1)=m1++piece:=by rw[List.take_add,<-List.append_assoc,HM1.out,HPD.out]
   have hlen:(m1++piece).length%18446744073709551616=L2:=by
    have h1:=HPC.out;have h2:=HL2.out;have h3:=HLD.out;rw[List.length_append,h1];omega
   have hfin:∀w5,Dn w5 g (blocks m1 (m1.length/64)) P4 L2->r+n1<64->Bl w5 g (m++bs.take (k+n1)):=fun w5 hx hs=>by
    have h3:=HG3.out (by rw[HPC.out];exact hs);rw[ha];exact⟨P4,hl4,G2,by rw[h3.1,hlen];exact hx,h3.2⟩
   have hfin2:∀w5,Dn w5 g (Su (blocks m1 (m1.length/64)) P4) P4 L2->r+n1=64->Bl w5 g (m++bs.take (k+n1)):=fun w5 hx hs=>by
    have h3:=HG4.out (by rw[HPC.out];exact hs);rw[ha];exact⟨P4,hl4,G2,by rw[h3.1,hlen];exact hx,by rw[h3.2.1,h3.2.2];rfl⟩
   have HFIN:=Af hfin;have HFIN2:=Af hfin2;have HPT:Hid (k+n1<n->(if c-k=n1 then (some ⟨b,off+k,none⟩:Option Addr) else some ⟨b,off+k+n1,none⟩)=some ⟨b,off+(k+n1),none⟩):=fun h=>by
    rw[if_neg (by omega),Nat.add_assoc]
   clear hb5 hx5 ha hlen hfin hfin2 hb4;have HPE:=Af hpe
   by_cases hfull:r+n1=64
   .have tz:(L2:Int)%64=0:=by have:=HL2R.out.2 hfull;omega
    have hx5:=HX5.out;have hb5:=HB5.out (.int .u64 (L2:Nat));go_wp2
    all_goals
     generalize w4.setCell ⟨g,72,none⟩ (.int .u64 (L2:Nat))=w5 at *;clear HX4 e72 c72' HV HN HF HO HSp hlt
     go_still_tail 6,(by kernel_rfl)
     change wpList _ _ _ _ _ w5.drew;have hx6:Dn w5.drew g (blocks m1 (m1.length/64)) P4 L2:=hx5;have hb6:Ee g w w5.drew:=hb5.drew;have hT6:Tabs w5.drew:=hT.but hb6 hg;generalize w5.drew=w6 at *
     go_wp2_with fail
     refine(Vy w6 g _ P4 L2 hT6 hst8 (Lx _ _) hl4 G2 hx6 hg).mono ?_;rintro e w7 ⟨rfl,hb7,hx7⟩;go_wp2;go_roundw
     case rel=>exact⟨k+n1,_,by omega,by congr 1<;>omega,hb6.trans hb7,HFIN2.out _ hx7 hfull,fun h=>by first|exact⟨b,off,HPE.out,by rw[Nat.add_assoc]⟩|(exfalso;omega)⟩
     case measure=>show n-k-n1<n-k;omega
   .have tz:(L2:Int)%64=((r+n1:Nat):Int):=by have:=HL2R.out.1 (by omega);omega
    have tz2:¬((r+n1:Nat):Int)=0:=by omega
    go_wp2;go_roundw
    case rel=>exact⟨k+n1,_,by omega,by congr 1<;>omega,HB5.out _,HFIN.out _ HX5.out (by omega),fun h=>⟨b,off,HPE.out,HPT.out h⟩⟩
    case measure=>show n-k-n1<n-k;omega
  .obtain rfl:k=n:=by omega
   have hfin:Bl wr g (m++bs):=by
    have h:=hash;rw[List.take_of_length_le (by have:=HL.out;omega)]at h
    exact h
   go_wp2
   go_end0
   exact⟨rfl,hbut,hfin⟩
end Go.Proofs.YtokhckjemidbpaaGreatDoor
