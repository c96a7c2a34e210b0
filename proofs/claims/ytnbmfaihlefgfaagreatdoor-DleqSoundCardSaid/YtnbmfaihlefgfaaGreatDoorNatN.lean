/- The quotient, where the divisor has one word at most or is the greater one. -/
import Derived.Test.YtnbmfaihlefgfaaGreatDoorTagN
import Derived.Test.YtnbmfaihlefgfaaGreatDoorNatG
import Derived.RangeFuncNested
import Derived.RangeFuncBound
import Derived.RangeFuncCalls
import Derived.RangeFuncLeaves
import Derived.Shelf.Abstract
import Derived.Shelf.RegionOpen
import Derived.OwnWalkIn
import Derived.TacticsInMore
import Derived.LoopNIn
import Derived.LoopIn
import Derived.Lib.Tables
import Derived.Lib.BitFns
import Derived.Deep.QuietTactic
import Derived.BigQuiet
set_option maxRecDepth 1000000
set_option maxHeartbeats 16000000
set_option linter.all false
namespace Go.Proofs.YtnbmfaihlefgfaaGreatDoor
open Go Go.RowKit
def Ax (n:Nat):Nat:=if n=0 then 0 else n.log2+1
theorem Bo (n k:Nat):Ax n<=k ↔ n<2^k:=by
 unfold Ax
 by_cases h:n=0
 .subst h;simp[Nat.pow_pos]
 .rw[if_neg h,<-Nat.log2_lt h];omega
theorem Gl (n:Nat):n<2^Ax n:=(Bo n _).1 (As _)
theorem iF:Ax 0=0:=rfl
theorem Jl {n:Nat}(h:0<n):0<Ax n:=by unfold Ax;rw[if_neg (by omega)];omega
theorem Ic (n k:Nat)(h:0<n/2^k):Ax n=k+Ax (n/2^k):=by
 have hp:0<2^k:=Nat.pow_pos (by omega);have h1:=Gl (n/2^k);have h2:=Gl n;apply Nat.le_antisymm
 .rw[Bo,Nat.pow_add,Nat.mul_comm]
  rwa [Nat.div_lt_iff_lt_mul hp]at h1
 .have hk:k<=Ax n:=by
   rcases Nat.lt_or_ge (Ax n) k with h3|h3
   .have:2^Ax n<=2^k:=Nat.pow_le_pow_right (by omega) (Nat.le_of_lt h3);have:n/2^k=0:=Nat.div_eq_of_lt (by omega);omega
   .exact h3
  have:Ax (n/2^k)<=Ax n-k:=by
   rw[Bo,Nat.div_lt_iff_lt_mul hp,<-Nat.pow_add,Nat.sub_add_cancel hk];exact h2
  omega
theorem Mn {y:Nat}(h:y<=255):Ax y<=64:=by rw[Bo];exact Nat.lt_of_le_of_lt h (by decide)
def Bm (a b:Nat):Int:=if a<b then -1 else if a=b then 0 else 1
theorem Dd {a b:Nat}(h:a<b):Bm a b = -1:=by simp[Bm,h]
theorem Rn (a:Nat):Bm a a=0:=by simp[Bm]
theorem Hi {a b:Nat}(h:b<a):Bm a b=1:=by rw[Bm,if_neg (by omega),if_neg (by omega)]
open Go Go.RowKit Go.Proofs.YtnbmfaihlefgfaaGreatDoor.Flow
def bit (N i:Nat):Bool:=decide (N/2^i%2=1)
def bitsOf (N:Nat):List Bool:=(List.range (Ax N)).map (bit N)
def Cf (N k:Nat):List Bool:=(List.range k).map (bit N)
theorem Fs (N k:Nat):Cf N (k+1)=Cf N k++[bit N k]:=by simp[Cf,List.range_succ]
theorem Mx (N k:Nat):(Cf N k).length=k:=by simp[Cf]
theorem Bf (N:Nat):(bitsOf N).length=Ax N:=by simp[bitsOf]
theorem Do {N i:Nat}(h:i<Ax N):(bitsOf N)[i]? = some (bit N i):=by simp[bitsOf,h]
theorem oQ {N k:Nat}(h:0<N/2^k):k<Ax N:=by
 rcases Nat.lt_or_ge k (Ax N) with h1|h1
 .exact h1
 .rw[Nat.div_eq_of_lt ((Bo N k).1 h1)]at h;omega
theorem Mi (N k:Nat):N%2^(k+1)=N%2^k+(if bit N k then 2^k else 0):=by
 rw[Nat.pow_succ,Nat.mod_mul];unfold bit;have:N/2^k%2<2:=Nat.mod_lt _ (by omega)
 by_cases h:N/2^k%2=1
 .simp[h]
 .have:N/2^k%2=0:=by omega
  simp[this]
structure Ez (w:World) (p:Option Addr) (n c:Nat) (xs:List Bool):Prop where
 len:n=xs.length
 cap:n<=c
 max:c<=9223372036854775807
 at_:(p=none/\n=0/\c=0) ∨ ∃b off,p=some ⟨b,off,none⟩/\b<w.heap.size/\∀(i:Nat) (x:Bool),xs[i]? = some x->w.cell? ⟨b,off+i,none⟩=some (.bool x)
theorem Ez.below {w w':World}{p:Option Addr}{n c:Nat}{xs:List Bool}(h:Ez w p n c xs)(hb:Below w.heap.size w w'):Ez w' p n c xs:=by
 refine⟨h.len,h.cap,h.max,?_⟩;rcases h.at_ with h1|⟨b,off,h1,h2,h3⟩
 .exact .inl h1
 .refine .inr ⟨b,off,h1,De h2 hb.size,fun i x hx=>?_⟩;rw[hb.cell (p:=⟨b,off+i,none⟩) h2];exact h3 i x hx
theorem Ez.nil (w:World):Ez w none 0 0 []:=⟨rfl,As _,by omega,.inl ⟨rfl,rfl,rfl⟩⟩
theorem Ez.pos {w:World}{p:Option Addr}{n c:Nat}{xs:List Bool}(h:Ez w p n c xs)(hn:0<n) :
  ∃b off,p=some ⟨b,off,none⟩/\b<w.heap.size/\∀(i:Nat) (x:Bool),xs[i]? = some x->w.cell? ⟨b,off+i,none⟩=some (.bool x):=by
 rcases h.at_ with h1|h1
 .omega
 .exact h1
theorem Ez.of_owns {w:World}{base:Nat}{e:TypeId}{v:Value}{n:Nat}{ws:List Bool}(h:w.ownsRow base e 1 v n (ws.map Value.bool)) :
  ∃q d,v=.slice q n d/\Ez w q n d ws/\Fh base q:=by
 have hl:ws.length=n:=by have:=h.1;simpa using this
 rcases h.2 with ⟨rfl,rfl⟩|⟨g,cap,cur,rfl,hb,hg,hnc,hcm,hcs,htake⟩
 .have:ws=[]:=List.eq_nil_of_length_eq_zero hl;subst this;exact⟨none,0,rfl,Ez.nil _,Fh.none _⟩
 .refine⟨_,cap,rfl,⟨hl.symm,hnc,by simpa [maxLen]using hcm,.inr ⟨g,0,rfl,(Gn hg).1,fun i x hx=>?_⟩⟩,fun q hq=>by cases hq;exact hb⟩;rw[Nat.zero_add,cell_of_row w g i cur e (0,0) hg];have hi:i<n:=by rw[<-hl];exact(List.getElem?_eq_some_iff.1 hx).1
  have:(cur.toList.take (n*1))[i]? = some (.bool x):=by rw[htake];simp[hx]
  rw[List.getElem?_take,if_pos (by omega)]at this
  simpa using this
theorem Tryz.info_bool:(Tryz.prog.info? 4).map (fun i=>(i.zero,i.size,i.bytes))=some (some (.bool false),1,1):=by kernel_rfl
def Bn (w:World)(p:Option Addr)(n c N:Nat):Prop:=Ez w p n c (bitsOf N)
theorem Bn.below {w w':World}{p:Option Addr}{n c N:Nat}(h:Bn w p n c N)(hb:Below w.heap.size w w'):Bn w' p n c N:=Ez.below h hb
theorem Gv {w:World}{q:Option Addr}{m d N:Nat}(k:Bn w q m d N):m=Ax N:=by have:=k.len;rwa [Bf]at this
def Mp (N:Nat)(w:World)(e:Ending)(w':World):Prop:=∃p n c,e=.returned (.slice p n c)/\Bn w' p n c N/\Below w.heap.size w w'/\Fh w.heap.size p
open Go Go.RowKit Go.Shelf
attribute [local go_sem] Oper.semAt_some
theorem Xl (a b:Nat)(w:World) :
  Calls Tryz.prog 103 #[.int .i64 a,.int .i64 b] w fun e w'=>e=.returned (.int .i64 (Bm a b))/\w=w':=by
 rcases Nat.lt_trichotomy a b with h|rfl|h
 .rw[Dd h];have h1:(a:Int)<b:=by omega
  go_enter Tryz.func103,Tryz.ntmps103;go_wp2;go_ret;exact⟨rfl,rfl⟩
 .rw[Rn];go_enter Tryz.func103,Tryz.ntmps103;go_wp2;go_ret;exact⟨rfl,rfl⟩
 .rw[Hi h];have h1:(b:Int)<a:=by omega
  have h2:¬(a:Int)<b:=by omega
  go_enter Tryz.func103,Tryz.ntmps103;go_wp2;go_ret;exact⟨rfl,rfl⟩
theorem Xk (a b:Nat)(w:World) :
  Calls Tryz.prog 105 #[.int .u32 a,.int .u32 b] w fun e w'=>e=.returned (.int .i64 (Bm a b))/\w=w':=by
 rcases Nat.lt_trichotomy a b with h|rfl|h
 .rw[Dd h];have h1:(a:Int)<b:=by omega
  go_enter Tryz.func105,Tryz.ntmps105;go_wp2;go_ret;exact⟨rfl,rfl⟩
 .rw[Rn];go_enter Tryz.func105,Tryz.ntmps105;go_wp2;go_ret;exact⟨rfl,rfl⟩
 .rw[Hi h];have h1:(b:Int)<a:=by omega
  have h2:¬(a:Int)<b:=by omega
  go_enter Tryz.func105,Tryz.ntmps105;go_wp2;go_ret;exact⟨rfl,rfl⟩
def Gu (n k:Nat)(h:k<=n):List (Fin n):=(List.finRange k).map fun j=>⟨n-1-j.1,by have:=j.2;omega⟩
theorem Xf (n k:Nat)(h:k<=n):(Gu n k h).length=k:=by simp[Gu]
theorem cS (n k:Nat)(h:k+1<=n):Gu n (k+1) h=Gu n k (by omega)++[⟨n-1-k,by omega⟩]:=by
 unfold Gu;rw[List.finRange_succ_last];simp[Function.comp_def]
def oJ (ws:List Nat){n:Nat}(x:Fin n):Array Value:=#[.int .i64 (x.1:Nat),.int .u32 (ws.getD x.1 0:Nat)]
theorem qF (F:Fence)(n:Nat)(h7:F.fn 160)(hro:F.round=none)(hn:1<=n)(l Bs n₀:Nat)(p:Option Addr)(len cap:Nat)(ws:List Nat)(w0:World)(hrow:Row w0 .u32 p len cap ws)(hlen:len<1000000)(hB:w0.heap.size<=n₀)(J Jx:List (Fin len)->World->Prop)(hY:∀pre x W,J pre W->pre.length<len->YieldAt F (n-1) Tryz.prog l (oJ ws x) W fun e W'=>
   (e=.returned (.bool true)/\J (pre++[x]) W'/\Below n₀ W W') ∨ (e=.returned (.bool false)/\Jx (pre++[x]) W'))(W:World)(hW:Below w0.heap.size w0 W)(hBn:Bs<n₀)(hBs:W.cell? ⟨Bs,0,none⟩=some (.slice p len cap))(h0:J [] W) :
  CallsIn F n Tryz.prog 160 #[.func (.yield l) #[] #[],.pointer (some ⟨Bs,0,none⟩)] W fun e W'=>(∃v,e=.returned v) /\
   ((∃ys,(∃h,ys=Gu len len h)/\J ys W') ∨ (∃pre,(∃k h,pre=Gu len k h)/\Jx pre W')):=by
 refine callsIn_of_wp Tryz.func160 rfl h7 ?_ hro;simp only[Tryz.ntmps160,List.size_toArray,List.length_cons,List.length_nil,Nat.reduceAdd,Nat.reduceSub,Array.replicate_succ,Array.replicate_zero,List.push_toArray,List.append_toArray,List.nil_append,List.cons_append]
 gi_wp2
 gi_loopw [3] (fun i wr=>∃k m:Nat,∃hk:k+m<=len,len<=k+m/\i=.int .i64 ((m:Int)-1)/\J (Gu len k (by omega)) wr/\Below n₀ W wr)
  (fun i _=>(intOf i+1).toNat)
 case atStart=>exact⟨0,len,by omega,by omega,rfl,h0,Bd _ _⟩
 case round=>
  obtain⟨k,m,hk,hk2,rfl,hJs,hnx⟩:=hrel;have hbx:=(hnx.cell (p:=⟨Bs,0,none⟩) hBn).trans hBs
  cases m with
  | succ j=>
   have hrow':=hrow.below (hW.trans (hnx.mono hB));obtain⟨b,off,rfl,hb,hc⟩:=hrow'.pos (by omega);have hjl:j<len:=by omega
   obtain⟨fn,tmps,assign,body,hy,hR⟩:=hY _ ⟨j,hjl⟩ wr hJs (by rw[Xf];omega);obtain⟨x,hx⟩:∃x,ws.getD j 0=x:=⟨_,rfl⟩
   have hcx:wr.cell? ⟨b,off+j,none⟩=some (.int .u32 (x:Nat)):=hc _ _ (by
    have:=hrow.len;rw[<-hx,Ed];simp[show j<ws.length by omega])
   unfold oJ at hy
   dsimp only at hy
   rw[hx]at hy
   have HD:Hid (Gu len (k+1) (by omega)=Gu len k (by omega)++[⟨j,hjl⟩]):=by
    have:=cS len k (by omega);have e:len-1-k=j:=by omega
    simp only[e]at this;exact this
   clear hc hx;have e1:(((j+1:Nat):Int)-1)=(j:Int):=by omega
   simp only[e1];clear e1
   gi_wp2
   refine hR.mono ?_;rintro e W3 (⟨rfl,hJ3,hk3⟩|⟨rfl,hJx3⟩)
   .gi_wp2
    go_roundw
    case rel=>exact⟨k+1,j,by omega,by omega,rfl,by rw[HD.out];exact hJ3,hnx.trans hk3⟩
    case measure=>simp[intOf]
   .gi_wp2
    refine bodyPost_ret (results_none rfl _ _ _) rfl ?_;exact⟨⟨_,rfl⟩,.inr ⟨_,⟨k+1,by omega,HD.out.symm⟩,hJx3⟩⟩
  | zero=>
   obtain rfl:k=len:=by omega
   gi_wp2
   go_end0
   exact⟨⟨_,rfl⟩,.inl ⟨_,⟨by omega,rfl⟩,hJs⟩⟩
attribute [local go_sem] Oper.semAt_some
theorem kT (F:Fence)(n:Nat)(h7:F.fn 160)(hro:F.round=none)(hn:1<=n)(Bs n₀:Nat)(p:Option Addr)(len cap:Nat)(ws:List Nat)(w0 w:World)(hrow:Row w0 .u32 p len cap ws)(hlen:len<1000000)(hB:w0.heap.size<=n₀)(hw:Below w0.heap.size w0 w)(hBn:Bs<n₀)(hBs:Bs<w.heap.size)(hc:w.cell? ⟨Bs,0,none⟩=some (.slice p len cap)) :
  SeqStopsK F n Tryz.prog 160 #[.pointer (some ⟨Bs,0,none⟩)] (oJ ws) (Below n₀) (fun ys=>∃h,ys=Gu len len h) (fun pre=>∃k h,pre=Gu len k h) len w:=fun l J Jx W hW _ _ hY h0=>by
 have hc':=(hW.cell (p:=⟨Bs,0,none⟩) hBs).trans hc;exact qF F n h7 hro hn l Bs n₀ p len cap ws w0 hrow hlen hB J Jx hY W (hw.trans (hW.mono hw.size)) hBn hc' h0
theorem qX (F:Fence)(n:Nat)(h5:F.fn 104)(hro:F.round=none)(a:Option Addr)(len cap:Nat)(w:World) :
  CallsIn F n Tryz.prog 104 #[.agg #[.slice a len cap]] w fun e w'=>e=.returned (.func (.func 160) #[] #[.pointer (some ⟨w.heap.size,0,none⟩)])/\w'=w.alloc (.cells #[.slice a len cap] 36):=by
 refine callsIn_of_wp Tryz.func104 rfl h5 ?_ hro;simp only[Tryz.ntmps104,List.size_toArray,List.length_cons,List.length_nil,Nat.reduceAdd,Nat.reduceSub,Array.replicate_succ,Array.replicate_zero,List.push_toArray,List.append_toArray,List.nil_append,List.cons_append]
 gi_wp2
 go_ret;exact⟨rfl,rfl⟩
theorem Ul (A B:List Nat)(hl:A.length=B.length)(wA:Words A)(i:Nat)(hi:i<A.length)(h:∀j,i<j->A.getD j 0=B.getD j 0)(hlt:A.getD i 0<B.getD i 0):val A<val B:=by
 have hA:A=A.take i++(A.getD i 0::A.drop (i+1)):=by
  rw[Ed];simp[hi]
 have hB:B=B.take i++(B.getD i 0::B.drop (i+1)):=by
  rw[Ed];simp[show i<B.length by omega]
 have hd:A.drop (i+1)=B.drop (i+1):=by
  apply List.ext_getElem (by simp[hl]);intro j h1 h2;have:=h (i+1+j) (by omega);simp only[Ed]at this;simp only[List.length_drop]at h1 h2;simp only[List.getElem_drop];simpa [show i+1+j<A.length by omega,show i+1+j<B.length by omega]using this
 have e1:val A=val (A.take i)+Ap i*(A.getD i 0+4294967296*val (A.drop (i+1))):=by
  conv=>lhs;rw[hA]
  rw[val_append];simp[val,Nat.min_eq_left (Nat.le_of_lt hi)]
 have e2:val B=val (B.take i)+Ap i*(B.getD i 0+4294967296*val (A.drop (i+1))):=by
  conv=>lhs;rw[hB]
  rw[val_append,hd];simp[val,Nat.min_eq_left (show i<=B.length by omega)]
 have h1:=(wA.take i).lt;have h3:(A.take i).length=i:=by simp;omega
 rw[h3]at h1
 rw[e1,e2];generalize A.getD i 0=x at *;generalize B.getD i 0=y at *;obtain⟨d,rfl⟩:∃d,y=x+1+d:=⟨y-(x+1),by omega⟩
 generalize 4294967296*val (A.drop (i+1))=z;have:Ap i*(x+1+d+z)=Ap i*(x+z)+Ap i+Ap i*d:=by
  rw[show x+1+d+z=(x+z)+1+d from by omega,Nat.mul_add,Nat.mul_add,Nat.mul_one]
 omega
theorem qH (A B:List Nat)(hl:A.length=B.length)(wA:Words A)(wB:Words B)(i:Nat)(hi:i<A.length)(h:∀j,i<j->A.getD j 0=B.getD j 0)(hne:A.getD i 0≠B.getD i 0):Bm (A.getD i 0) (B.getD i 0)=Bm (val A) (val B):=by
 rcases Nat.lt_or_gt_of_ne hne with h1|h1
 .rw[Dd h1,Dd (Ul A B hl wA i hi h h1)]
 .rw[Hi h1,Hi (Ul B A hl.symm wB i (by omega) (fun j hj=>(h j hj).symm) h1)]
theorem Ux {n k:Nat}{h:k<=n}{x:Fin n}:x∈Gu n k h ↔ n<=x.1+k:=by
 unfold Gu;simp only[List.mem_map,List.mem_finRange,true_and];constructor
 .rintro⟨j,rfl⟩;have:=j.2;simp only;omega
 .intro hx;have:=x.2;exact⟨⟨n-1-x.1,by omega⟩,by ext;simp only;omega⟩
theorem nN {A B:List Nat}{n:Nat}(hA:n=A.length)(hB:n=B.length)(h:∀x∈Gu n n (As n),A.getD x.1 0=B.getD x.1 0):A=B:=by
 apply List.ext_getElem (by omega);intro j h1 h2;have:=h ⟨j,by omega⟩ (Ux.2 (by simp only;omega));simp only[Ed]at this;simpa [h1,h2]using this
theorem gW (n:Nat)(hn:10<=n)(w:World)(p q:Option Addr)(len c d:Nat)(A B:List Nat)(hA:Row w .u32 p len c A)(hB:Row w .u32 q len d B)(wA:Words A)(wB:Words B)(hlen:len<1000000) :
  CallsIn Fence.wide n Tryz.prog 34 #[.agg #[.slice p len c],.agg #[.slice q len d]] w fun e W'=>e=.returned (.int .i64 (Bm (val A) (val B)))/\Below w.heap.size w W':=by
 have h1:1<=n:=by omega
 have HA:=Ah hA.len;have HB:=Ah hB.len;refine callsIn_of_wp_marks Tryz.func34 rfl trivial ?_ rfl;simp only[Tryz.ntmps34,List.size_toArray,List.length_cons,List.length_nil,Nat.reduceAdd,Nat.reduceSub,Array.replicate_succ,Array.replicate_zero,List.push_toArray,List.append_toArray,List.nil_append,List.cons_append]
 gi_wp2_with fail
 refine⟨trivial,(qX Fence.wide (n-1) trivial rfl _ _ _ _).mono ?_⟩;rintro e w' ⟨rfl,rfl⟩
 gi_wp2_with fail
 have hB0:Below w.heap.size w ((((w.alloc (.cells #[.slice p len c] 36)).alloc (.cells #[.slice q len d] 36)).alloc (.cells #[.int .i64 0] 3)).alloc (.cells #[.slice p len c] 36)) :=
  ((((Bd _ w).alloc (As _) _).alloc (by simp) _).alloc (by simp;omega) _).alloc (by simp;omega) _
 refine wpIn_rangeFunc_ownF rfl h1 (gf := 160) (lb:=#[.pointer (some ⟨w.heap.size+1+1+1,0,none⟩)]) rfl trivial (enters_of Tryz.func160 (by kernel_rfl) rfl)
  (kT Fence.wide (n-1) trivial rfl (by omega) (w.heap.size+1+1+1) (w.heap.size+4) p len c A w _ hA hlen (by omega) hB0 (by omega) (by simp) (by simp[go_sem])) belowK_t (belowK_b (by simp)) (Bd _ _) (fun _=>rfl)
  (fun pre W=>((∀x∈pre,A.getD x.1 0=B.getD x.1 0)/\W.cell? ⟨w.heap.size+1,0,none⟩=some (.slice q len d)/\W.cell? ⟨w.heap.size+1+1,0,none⟩=some (.int .i64 0)/\W.frozen? ⟨w.heap.size+1+1,0,none⟩=false)/\Below w.heap.size w W)
  (fun cd pre W=>(cd=.ret/\∃ini last,pre=ini++[last]/\(∀x∈ini,A.getD x.1 0=B.getD x.1 0)/\A.getD last.1 0≠B.getD last.1 0/\W.cell? ⟨w.heap.size+1+1,0,none⟩=some (.int .i64 (Bm (A.getD last.1 0) (B.getD last.1 0))))/\Below w.heap.size w W)
  (OwnFrom.and (Own.from (fun s A B row hs hg hr=>⟨hs.1,cell_kept hs.2.1 hg hr,cell_kept hs.2.2.1 hg hr,(frozen_kept hs.2.2.1 hg hr).trans hs.2.2.2⟩) _) (ownFrom_below (As _) (by simp;omega)))
  (fun c=>OwnFrom.and (Own.from (fun s A B row hs hg hr=>by obtain⟨hc,ini,last,e1,e2,e3,e4⟩:=hs;exact⟨hc,ini,last,e1,e2,e3,cell_kept e4 hg hr⟩) _) (ownFrom_below (As _) (by simp;omega)))
  ⟨⟨by simp,by simp[go_sem],by simp[go_sem],by simp[go_sem]⟩,hB0⟩
  (fun x=>{ tmps:=#[.agg #[.slice p len c],.agg #[.slice q len d],.pointer (some ⟨w.heap.size,0,none⟩),.pointer (some ⟨w.heap.size+1,0,none⟩),.pointer (some ⟨w.heap.size+1+1,0,none⟩),.int .i64 (x.1:Nat),.int .u32 (A.getD x.1 0:Nat),
   .pointer (some ⟨w.heap.size,0,none⟩),.slice p len c,.int .i64 len,.pointer (some ⟨w.heap.size+1,0,none⟩),.slice q len d,.int .i64 len,.bool false,undef,undef,undef,undef,undef,undef,undef,.agg #[.slice p len c],
   .func (.func 160) #[] #[.pointer (some ⟨w.heap.size+1+1+1,0,none⟩)],.int .i64 (x.1:Nat),.int .u32 (A.getD x.1 0:Nat),undef,undef,undef,undef,undef,undef,undef,undef,undef,undef,undef,undef,undef,undef],defers:=[] }) ?assign ?body ?done ?stop
 case assign=>
  intro l x W K hK;simp only[oJ]
  gi_wp2
  exact hK
 case body=>
  rintro l pre x W ⟨⟨hp,hc1,hc2,hf2⟩,hB1⟩ _;have hrow:=hB.below hB1;have hx2:=x.2;obtain⟨b,off,rfl,hb,hcell⟩:=hrow.pos (by omega);obtain⟨u,hu⟩:∃u,A.getD x.1 0=u:=⟨_,rfl⟩
  obtain⟨v,hv⟩:∃v,B.getD x.1 0=v:=⟨_,rfl⟩
  have hci:W.cell? ⟨b,off+x.1,none⟩=some (.int .u32 (v:Nat)):=hcell _ _ (by rw[<-hv,Ed];simp[show x.1<B.length by have:=HB.out;omega]);have HU:=Ah hu;have HV:=Ah hv;have HP:=Ah hp;rw[hu];clear hcell hu hv hp
  by_cases huv:u=v
  .subst huv
   gi_wp2
   refine⟨KeepsOthers.refl _,Bd _ _,⟨fun y hy=>?_,hc1,hc2,hf2⟩,hB1⟩;rcases List.mem_append.1 hy with h|h
   .exact HP.out y h
   .simp at h;subst h;rw[HU.out,HV.out]
  .have hne:((u:Int)==v)=false:=by rw[beq_eq_false_iff_ne];omega
   have hne':((u:Int)!=v)=true:=by rw[bne_iff_ne];omega
   gi_wp2_with fail
   refine⟨trivial,fun h=>by simp[Fence.wide]at h,CallsIn.inRound l ((callsIn_wide.2 (Xk u v W)).mono ?_)⟩;rintro e W3 ⟨rfl,rfl⟩
   gi_wp2
   refine⟨KeepsOthers.setCell _ _ _,⟨rfl,pre,x,rfl,HP.out,by rw[HU.out,HV.out];exact huv,?_⟩,hB1.setCell (by simp;omega) _⟩;rw[HU.out,HV.out];exact World.cell?_setCell_same _ _ _ hc2
 case done=>
  rintro D ys W hD ⟨_,rfl⟩ ⟨⟨hp,hc1,hc2,hf2⟩,hB1⟩ hK;have HE:Hid (A=B):=nN HA.out HB.out hp;clear hp
  gi_wp2
  have hK':=(KeepsOthers.setCell W ⟨w.heap.size+1+1,0,none⟩ (.int .i64 0)).same D _ hK rfl;refine⟨by simp,.inl ⟨_,_,rfl,run_takeDeferred hK',?_⟩⟩;have hc5:=cell_kept (World.cell?_setCell_same W ⟨w.heap.size+1+1,0,none⟩ (.int .i64 0) hc2) (grownBy_putObj' _ D (.deferred none)) (fun r e=>by cases e;exact⟨_,hK',rfl⟩);refine⟨.int .i64 0,?_,by rw[HE.out,Rn],(hB1.setCell (p:=⟨w.heap.size+1+1,0,none⟩) (by simp;omega) _).trans (belowK_b (w:=w) (As _) _ D _ _ (by simp at hD;omega) hK' rfl rfl)⟩;simp[results,Tryz.f34,go_sem,hc5]
 case stop=>
  rintro D cd pre W hD ⟨k,hk,rfl⟩ ⟨⟨rfl,ini,last,e1,e2,e3,hcr⟩,hB1⟩ hK
  gi_wp2
  refine⟨by simp,.inl ⟨_,_,rfl,run_takeDeferred hK,?_⟩⟩;have hc5:=cell_kept hcr (grownBy_putObj' _ D (.deferred none)) (fun r e=>by cases e;exact⟨_,hK,rfl⟩);have hlast:Bm (A.getD last.1 0) (B.getD last.1 0)=Bm (val A) (val B):=by
   refine qH A B (by rw[<-HA.out,<-HB.out]) wA wB last.1 (by have:=last.2;have:=HA.out;omega) (fun j hj=>?_) e3
   by_cases hjl:j<len
   .have hlm:last∈Gu len k hk:=by rw[e1];simp
    have hjm:(⟨j,hjl⟩:Fin len)∈Gu len k hk:=by rw[Ux]at hlm ⊢;simp only;omega
    rw[e1]at hjm
    rcases List.mem_append.1 hjm with h|h
    .exact e2 _ h
    .simp at h;rw[<-h]at hj;simp at hj
   .simp only[Ed];rw[List.getElem?_eq_none (by have:=HA.out;omega),List.getElem?_eq_none (by have:=HB.out;omega)]
  rw[hlast]at hc5
  refine⟨_,?_,rfl,hB1.trans (belowK_b (w:=w) (As _) W D _ _ (by simp at hD;omega) hK rfl rfl)⟩;simp[results,Tryz.f34,go_sem,hc5]
theorem iY {ws:List Nat}(h:ws.getLast? ≠ some 0)(hn:0<ws.length):Ap (ws.length-1)<=val ws:=by
 obtain⟨xs,x,rfl⟩:∃xs x,ws=xs++[x]:=by
  rcases List.eq_nil_or_concat ws with rfl|⟨xs,x,h⟩
  .simp at hn
  .exact⟨xs,x,by simpa using h⟩
 have hx:x≠0:=by simpa using h
 rw[Ea];have:Ap xs.length*1<=Ap xs.length*x:=Nat.mul_le_mul_left _ (by omega);simp at this ⊢;omega
theorem Cw {a b:Nat}(h:a<=b):Ap a<=Ap b:=Nat.pow_le_pow_right (by omega) h
theorem Aj.len_lt {w:World}{p q:Option Addr}{n c N m d M:Nat}(hA:Aj w p n c N)(hB:Aj w q m d M)(h:n<m):N<M:=by
 obtain⟨A,a1,a2,a3,rfl⟩:=hA.ex;obtain⟨B,b1,b2,b3,rfl⟩:=hB.ex;have h1:=a2.lt;have h2:=iY b3 (by have:=b1.len;omega);have h3:Ap A.length<=Ap (B.length-1):=Cw (by have:=a1.len;have:=b1.len;omega);omega
theorem Aj.len_le {w:World}{p:Option Addr}{n c N:Nat}(hA:Aj w p n c N){k:Nat}(h:N<Ap k):n<=k:=by
 obtain⟨A,a1,a2,a3,rfl⟩:=hA.ex;have hl:=a1.len;rcases Nat.lt_or_ge k n with h1|h1
 .have h2:=iY a3 (by omega);have h3:Ap k<=Ap (A.length-1):=Cw (by omega);omega
 .exact h1
theorem Aj.zero {w:World}{p:Option Addr}{n c N:Nat}(hA:Aj w p n c N):n=0 ↔ N=0:=by
 constructor
 .intro h;obtain⟨A,a1,a2,a3,rfl⟩:=hA.ex;have:A=[]:=List.eq_nil_of_length_eq_zero (by have:=a1.len;omega);rw[this];rfl
 .intro h;have:=hA.len_le (k:=0) (by rw[h];exact Gr 0);omega
theorem Hq (w:World)(p q:Option Addr)(n c N m d M:Nat)(hA:Aj w p n c N)(hB:Aj w q m d M)(hn:n<1000000)(hm:m<1000000) :
  Calls Tryz.prog 34 #[.agg #[.slice p n c],.agg #[.slice q m d]] w fun e w'=>e=.returned (.int .i64 (Bm N M))/\Below w.heap.size w w':=by
 by_cases hnm:n=m
 .subst hnm;obtain⟨A,a1,a2,_,rfl⟩:=hA.ex;obtain⟨B,b1,b2,_,rfl⟩:=hB.ex;exact callsIn_wide.1 (gW 10 (As _) w p q n c d A B a1 b1 a2 b2 hn)
 .have hc:Bm n m=Bm N M:=by
   rcases Nat.lt_or_gt_of_ne hnm with h|h
   .rw[Dd h,Dd (hA.len_lt hB h)]
   .rw[Hi h,Hi (hB.len_lt hA h)]
  have HC:=Ah hc;have hne:((n:Int)==m)=false:=by rw[beq_eq_false_iff_ne];omega
  have hne':((n:Int)!=m)=true:=by rw[bne_iff_ne];omega
  clear hc hA hB;go_enter Tryz.func34,Tryz.ntmps34
  go_wp2_with fail
  refine(Xl n m _).mono ?_;rintro e w1 ⟨rfl,rfl⟩;go_wp2;refine bodyPost_ret (v:=.int .i64 (Bm n m)) (by simp[results,Tryz.results34,go_sem]) rfl ⟨by rw[HC.out],?_⟩;exact((((Bd _ w).alloc (As _) _).alloc (by simp) _).alloc (by simp;omega) _)
theorem gY (w:World){a b:Int}{x y:Nat}(ha:a=(x:Nat))(hb:b=(y:Nat))(t:TypeId){g:Nat}(hg:g=w.heap.size):Row (w.alloc (.cells #[.int .u32 a,.int .u32 b] t)) .u32 (some ⟨g,0,none⟩) 2 2 [x,y]:=by
 subst ha;subst hb;subst hg;refine⟨rfl,As _,by omega,.inr ⟨_,_,rfl,by simp,fun i z hx=>?_⟩⟩;rw[World.cell?_alloc_at (hn:=rfl)]
 match i,hx with
 | 0,hx=>simp at hx;subst hx;simp
 | 1,hx=>simp at hx;subst hx;simp
theorem Cz (n:Nat)(w:World)(hn:n<18446744073709551616) :
  Calls Tryz.prog 21 #[.int .u64 n] w (Gw n w):=by
 go_enter Tryz.func21,Tryz.ntmps21
 go_wp2_with fail
 have hrow:=gY (w.alloc (.cells #[.slice none 0 0] 36)) (a:=(n:Int)%4294967296) (b:=(n:Int)/4294967296) (x:=n%4294967296) (y:=n/4294967296) (by omega) (by omega) 130 (g:=w.heap.size+1) (by simp);have hw:Words [n%4294967296,n/4294967296]:=by intro x hx;simp at hx;omega
 refine(Ck _ _ _ _ _ hrow hw).mono ?_;rintro e w2 ⟨p,m,c,rfl,hn2,hb2,hp⟩;have hbx:=((Dg.mk1 w (.slice none 0 0) 36).alloc _).later hb2;have c0:=hbx.c0;have f0:=hbx.f0;have hn':Fh (w.heap.size+1) p:=by
  intro q hq;rcases hp with rfl|rfl
  .cases hq
  .cases hq;simp
 have hv:val [n%4294967296,n/4294967296]=n:=by simp only[val];omega
 have HV:=Ah hv;clear hv;go_wp2;refine bodyPost_ret (v:=.agg #[.slice p m c]) (by simp[results,Tryz.results21,go_sem,c0]) rfl ⟨p,m,c,rfl,?_,?_,hn'.mono (by omega)⟩
 .have:=hn2.setCell (a:=⟨w.heap.size,0,none⟩) (hn'.ne (show w.heap.size<w.heap.size+1 by omega)) (.slice p m c);rw[HV.out]at this
  exact this
 .exact hbx.bel.setCell (As _) _
theorem Du (w:World)(p:Option Addr)(n c:Nat) :
  Calls Tryz.prog 26 #[.agg #[.slice p n c]] w fun e w'=>e=.returned (.bool (decide (n=0)))/\Below w.heap.size w w':=by
 go_enter Tryz.func26,Tryz.ntmps26;go_wp2;go_ret;refine⟨?_,(Bd _ _).alloc (As _) _⟩
 by_cases h:n=0
 .subst h;rfl
 .have:((n:Int)==0)=false:=by rw[beq_eq_false_iff_ne];omega
  simp[h,this]
theorem Wa (w:World)(p:Option Addr)(n c:Nat)(ws:List Nat)(h:Row w .u32 p n c ws)(hn:n<1000000) :
  Calls Tryz.prog 202 #[.slice p n c] w fun e w'=>∃q d,e=.returned (.slice q n d)/\Row w' .u32 q n d ws/\Below w.heap.size w w'/\Fh w.heap.size q:=by
 have hne:=fun w=>Lib.run_eql_slice_nil (P:=Tryz.prog) w 34 130 p n c 0 0 Tryz.underlying34
 by_cases hp:p=none
 .subst hp;rcases h.at_ with ⟨_,rfl,rfl⟩|⟨b,off,h1,_⟩
  .go_enter Tryz.func202,Tryz.ntmps202;go_wp2;go_ret;exact⟨none,0,rfl,h,Bd _ _,Fh.none _⟩
  .cases h1
 .rcases h.at_ with ⟨h1,_⟩|⟨b,off,rfl,hb,hc⟩
  .exact absurd h1 hp
  .obtain⟨i0,hi,hz0,hz1,hz2⟩:=info_parts Tryz.info_u32;have hl:=h.len;have HL:=Ah hl;have HC:=Ah hc;clear hl hc;have hown:=World.ownsRow_made w (base:=w.heap.size) (e := 130) (size:=1) #[] 0 (As _) (by simp[maxLen]) (by simp);go_enter Tryz.func202,Tryz.ntmps202
   go_wp2_with (at_builtin;refine wpList_append_own _ rfl _ _ 34 rfl w.heap.size 130 i0 (.int .u32 0) 1 4 Tryz.underlying34 hi hz0 hz1 hz2 rfl (by decide) _ _ _ rfl hown ⟨b,off,none⟩ n c (ws.map fun(x:Nat)=>Value.int .u32 x) rfl ?c1 ?c2 ?c3 ?c4 ?c5 ?c6 ?_)
   case c1=>simp;exact HL.out.symm
   case c2=>
    intro j u hu;have hadd:(⟨b,off,none⟩:Addr).add j=⟨b,off+j,none⟩:=by unfold Addr.add;split<;>simp_all
    rw[hadd,World.cell?_alloc_past (hn:=hb)];rw[List.getElem?_map]at hu
    cases hx:ws[j]? with
    | none=>rw[hx]at hu;cases hu
    | some x=>rw[hx]at hu;cases hu;exact HC.out j x hx
   case c3=>intro u hu;simp only[List.mem_map]at hu;obtain⟨x,_,rfl⟩:=hu;rfl
   case c4=>unfold maxLen;omega
   case c5=>omega
   case c6=>simp
   intro v1 w1 ho1 hg1 _;obtain⟨q,d,rfl,hrow,hnew⟩:=Row.of_owns ho1;have hb1:Below w.heap.size w w1:=((Bd _ w).alloc (As _) _).grown hg1 (by simp) (fun k e=>by simp[Value.ownBlock]at e;omega);go_wp2;go_ret;exact⟨q,d,rfl,hrow,hb1,hnew⟩
theorem Qw (w:World)(p:Option Addr)(n c N:Nat)(h:Aj w p n c N)(hn:n<1000000) :
  Calls Tryz.prog 155 #[.agg #[.slice p n c]] w (Gw N w):=by
 obtain⟨ws,h1,h2,h3,h4⟩:=h.ex;have H4:=Ah h4;clear h4;have hbx:=Gz.mk2 w (.slice p n c) (.slice none 0 0) 36 36;go_enter Tryz.func155,Tryz.ntmps155
 go_wp2_with fail
 refine(Wa _ p n c ws (h1.below hbx.bel) hn).mono ?_;rintro e w1 ⟨q,d,rfl,hrow,hb1,hnew⟩;have hbx1:=hbx.later hb1;have c1:=hbx1.c1;have f1:=hbx1.f1;have hnew':Fh (w.heap.size+2) q:=hnew.mono (by simp);go_wp2;refine bodyPost_ret (v:=.agg #[.slice q n d]) (by simp[results,Tryz.results155,go_sem,c1]) rfl ⟨q,n,d,rfl,?_,?_,hnew'.mono (by omega)⟩
 .exact⟨ws,hrow.setCell (hnew'.ne (show w.heap.size+1<w.heap.size+2 by omega)) _,h2,h3,H4.out⟩
 .exact hbx1.bel.setCell (by simp) _
theorem Zc:(⟨((([0,1,2,2,3,3,3,3,4,4,4,4,4,4,4,4,5,5,5,5,5,5,5,5,5,5,5,5,5,5,5,5,6,6,6,6,6,6,6,6,6,6,6,6,6,6,6,6,6,6,6,6,6,6,6,6,6,6,6,6,6,6,6,6]:List UInt8).append [7,7,7,7,7,7,7,7,7,7,7,7,7,7,7,7,7,7,7,7,7,7,7,7,7,7,7,7,7,7,7,7,7,7,7,7,7,7,7,7,7,7,7,7,7,7,7,7,7,7,7,7,7,7,7,7,7,7,7,7,7,7,7,7]).append (([8,8,8,8,8,8,8,8,8,8,8,8,8,8,8,8,8,8,8,8,8,8,8,8,8,8,8,8,8,8,8,8,8,8,8,8,8,8,8,8,8,8,8,8,8,8,8,8,8,8,8,8,8,8,8,8,8,8,8,8,8,8,8,8]:List UInt8).append [8,8,8,8,8,8,8,8,8,8,8,8,8,8,8,8,8,8,8,8,8,8,8,8,8,8,8,8,8,8,8,8,8,8,8,8,8,8,8,8,8,8,8,8,8,8,8,8,8,8,8,8,8,8,8,8,8,8,8,8,8,8,8,8])).toArray⟩:ByteArray)=Lib.len8tab:=by kernel_rfl
theorem gC:∀n:Fin 256,Lib.len8 (n.val:Int)=(Ax n.val:Int):=by decide +kernel
theorem Rf (y:Int)(h0:0<=y)(h1:y<=255)(h:y.toNat<Lib.len8tab.size):((Lib.len8tab[y.toNat]'h).toNat:Int)=(Ax y.toNat:Nat):=by
 have e:=gC ⟨y.toNat,by omega⟩;simp only[Int.toNat_of_nonneg h0]at e;rw[<-e];unfold Lib.len8;rw[getElem?_pos Lib.len8tab y.toNat h];rfl
theorem Pe (k:Nat)(m n:Nat)(hk:k<=24)(hm:Ax m<=64)(e:Ax n=k+Ax m):wrap64 ((k:Int)+wrap64 (Ax m:Nat))=(Ax n:Nat):=by
 rw[e,IntWalk.wrap64_in (Ax m:Nat) ⟨by omega,by omega⟩,IntWalk.wrap64_in _ ⟨by omega,by omega⟩];omega
theorem aT (m:Nat)(hm:Ax m<=64):wrap64 (wrap64 (Ax m:Nat))=(Ax m:Nat):=by
 rw[IntWalk.wrap64_in (Ax m:Nat) ⟨by omega,by omega⟩,IntWalk.wrap64_in _ ⟨by omega,by omega⟩]
theorem gD (x:Int)(w:World)(h0:0<=x)(hx:x<=4294967295) :
  Calls Tryz.prog 227 #[.int .u32 x] w fun e w'=>e=.returned (.int .i64 (Ax x.toNat:Nat))/\w=w':=by
 have hs:Lib.len8tab.size=256:=Lib.len8tab_size;go_enter Tryz.func227,Tryz.ntmps227;rw[Zc];go_wp2
 all_goals first
  | (go_ret;refine⟨congrArg Ending.returned (congrArg (Value.int IntKind.i64) ?_),rfl⟩)
  | (exfalso;omega)
 all_goals first
  | (rw[Rf (x/65536/256) (by omega) (by omega)];exact Pe 24 _ _ (by omega) (Mn (by omega)) (by rw[show (x/65536/256).toNat=x.toNat/2^24 by omega];exact Ic _ _ (by omega)))
  | (rw[Rf (x/65536) (by omega) (by omega)];exact Pe 16 _ _ (by omega) (Mn (by omega)) (by rw[show (x/65536).toNat=x.toNat/2^16 by omega];exact Ic _ _ (by omega)))
  | (rw[Rf (x/256) (by omega) (by omega)];exact Pe 8 _ _ (by omega) (Mn (by omega)) (by rw[show (x/256).toNat=x.toNat/2^8 by omega];exact Ic _ _ (by omega)))
  | (rw[Rf x (by omega) (by omega)];exact aT _ (Mn (by omega)))
theorem Qn (x:Nat)(w:World)(hx:x<4294967296) :
  Calls Tryz.prog 227 #[.int .u32 x] w fun e w'=>e=.returned (.int .i64 (Ax x:Nat))/\w=w':=by
 have:=gD x w (by omega) (by omega);simpa using this
theorem dC {ws:List Nat}{x:Nat}(hw:Words (ws++[x]))(hx:x≠0):Ax (val (ws++[x]))=32*ws.length+Ax x:=by
 rw[Ea];have hb:Ap ws.length=2^(32*ws.length):=by unfold Ap;rw[show (4294967296:Nat)=2^32 from rfl,<-Nat.pow_mul]
 have h1:val ws<Ap ws.length:=Words.lt fun y hy=>hw y (by simp[hy])
 have hd:(val ws+Ap ws.length*x)/2^(32*ws.length)=x:=by
  rw[<-hb,Nat.add_mul_div_left _ _ (Gr _),Nat.div_eq_of_lt h1,Nat.zero_add]
 have:=Ic (val ws+Ap ws.length*x) (32*ws.length) (by rw[hd];omega);rw[hd]at this
 exact this
theorem En (w:World)(p:Option Addr)(n c N:Nat)(h:Aj w p n c N)(hn:n<1000000) :
  Calls Tryz.prog 199 #[.agg #[.slice p n c]] w fun e w'=>e=.returned (.int .i64 (Ax N:Nat))/\Below w.heap.size w w':=by
 have hbx:=Dg.mk1 w (.slice p n c) 36
 by_cases h0:n=0
 .have hN:N=0:=h.zero.1 h0;subst hN;have hd:decide (n=0)=true:=by simpa using h0
  clear h0;go_enter Tryz.func199,Tryz.ntmps199
  go_wp2_with fail
  refine(Du _ p n c).mono ?_;rintro e w1 ⟨rfl,hb1⟩;go_wp2;go_ret;exact⟨rfl,(hbx.later hb1).bel⟩
 .obtain⟨m,rfl⟩:∃m,n=m+1:=⟨n-1,by omega⟩
  obtain⟨ws,h1,h2,h3,h4⟩:=h.ex;have hl:=h1.len;obtain⟨xs,x,rfl⟩:∃xs x,ws=xs++[x]:=by
   rcases List.eq_nil_or_concat ws with rfl|⟨xs,x,h⟩
   .simp at hl
   .exact⟨xs,x,by simpa using h⟩
  have hxm:xs.length=m:=by simp at hl;omega
  have hx0:x≠0:=by simpa using h3
  have hx1:x<4294967296:=h2 x (by simp);have hbl:=dC h2 hx0;rw[h4,hxm]at hbl
  have HBL:=Ah hbl;have hxb:Ax x<=32:=by rw[Bo];exact hx1
  obtain⟨b,off,rfl,hb,hc⟩:=h1.pos (by omega);have hci:∀w',Below w.heap.size w w'->w'.cell? ⟨b,off+m,none⟩=some (.int .u32 (x:Nat)):=fun w' hb'=>by
   rw[(Bz hb').1 _ _ hb];exact hc m x (by rw[<-hxm];simp)
  have hd:decide (m+1=0)=false:=by simp
  clear hc hl h4 hbl hxm;go_enter Tryz.func199,Tryz.ntmps199
  go_wp2_with fail
  refine(Du _ _ (m+1) c).mono ?_;rintro e w1 ⟨rfl,hb1⟩;have hbx1:=hbx.later hb1;have c0:=hbx1.c0;have hcx:=hci w1 hbx1.bel;clear hci
  go_wp2_with fail
  refine(Qn x _ hx1).mono ?_;rintro e w2 ⟨rfl,rfl⟩;go_wp2;go_ret;refine⟨?_,hbx1.bel⟩;rw[HBL.out];exact congrArg (fun z=>Ending.returned (.int .i64 z)) (by omega)
theorem Oa (h l:Nat)(hh:h<4294967296)(hl:l<4294967296):bits BinOp.or IntKind.u64 ((h:Int)*4294967296) (l:Int)=((h*4294967296+l:Nat):Int):=by
 have e:(h:Int)*4294967296=((h*4294967296:Nat):Int):=by omega
 rw[e,u64_or_nat _ _ (by omega) (by omega),nat_join 32 (h*4294967296) l (by omega) (by omega)]
theorem Zy (hi lo y:Nat)(w:World)(h1:hi<y)(h2:lo<4294967296)(h3:y<4294967296) :
  Calls Tryz.prog 203 #[.int .u32 hi,.int .u32 lo,.int .u32 y] w fun e w'=>
   e=.returned (.tuple #[.int .u32 ((hi*4294967296+lo)/y:Nat),.int .u32 ((hi*4294967296+lo)%y:Nat)])/\Below w.heap.size w w':=by
 have hy0:((y:Int)==0)=false:=by rw[beq_eq_false_iff_ne];omega
 have hy1:((y:Int)!=0)=true:=by rw[bne_iff_ne];omega
 have hlt:decide ((y:Int)<=hi)=false:=by simp;omega
 go_enter Tryz.func203,Tryz.ntmps203;go_wp2;rw[Oa hi lo (by omega) h2];obtain⟨z,hz⟩:∃z,hi*4294967296+lo=z:=⟨_,rfl⟩
 rw[hz];have hz1:z<18446744073709551616:=by omega
 have hz2:z<4294967296*y:=by
  have:=Nat.mul_le_mul_left 4294967296 (Nat.succ_le_of_lt h1);omega
 have hq:z/y<4294967296:=(Nat.div_lt_iff_lt_mul (by omega)).2 hz2;have hr:z%y<y:=Nat.mod_lt _ (by omega);have hq':(z:Int)/y<4294967296:=by rw[<-Int.natCast_ediv];omega
 have hr':(z:Int)%y<y:=by rw[<-Int.natCast_emod];omega
 have hq0:0<=(z:Int)/y:=by rw[<-Int.natCast_ediv];exact Int.natCast_nonneg _
 have hr0:0<=(z:Int)%y:=by rw[<-Int.natCast_emod];exact Int.natCast_nonneg _
 have HZ:=Ah hz;clear hz
 go_quiet (fail)
 go_wp2
 go_ret2
 refine⟨?_,below_drewN (Bd _ _) _⟩;rw[HZ.out];simp[Int.natCast_ediv,Int.natCast_emod]
def Dr (ws:List Nat)(y:Nat):Nat->List Nat×Nat
 | 0=>([],0)
 | k+1=>((((Dr ws y k).2*4294967296+ws.getD (ws.length-1-k) 0)/y)::(Dr ws y k).1,((Dr ws y k).2*4294967296+ws.getD (ws.length-1-k) 0)%y)
theorem Nl (ws:List Nat)(y:Nat)(hw:Words ws)(hy:0<y):∀k,k<=ws.length->(Dr ws y k).1.length=k/\Words (Dr ws y k).1/\(Dr ws y k).2<y /\
  val (ws.drop (ws.length-k))=val (Dr ws y k).1*y+(Dr ws y k).2
 | 0,_=>by simp[Dr,Words.nil,val,hy]
 | k+1,hk=>by
  obtain⟨h1,h2,h3,h4⟩:=Nl ws y hw hy k (by omega);have hx:=hw.get (ws.length-1-k);have hd:ws.drop (ws.length-(k+1))=ws.getD (ws.length-1-k) 0::ws.drop (ws.length-k):=by
   rw[List.drop_eq_getElem_cons (by omega),Ed];have e:ws.length-(k+1)=ws.length-1-k:=by omega
   simp only[e,List.getElem?_eq_getElem (show ws.length-1-k<ws.length by omega),Option.getD_some]
   congr 2;omega
  simp only[Dr];rw[hd];generalize ws.getD (ws.length-1-k) 0=x at *;generalize (Dr ws y k).1=Q at *;generalize (Dr ws y k).2=r at *;have hdm:=Nat.div_add_mod (r*4294967296+x) y;have hm:=Nat.mod_lt (r*4294967296+x) hy;have hq:(r*4294967296+x)/y<4294967296:=by
   rw[Nat.div_lt_iff_lt_mul hy];have:=Nat.mul_le_mul_left 4294967296 (Nat.succ_le_of_lt h3);omega
  generalize (r*4294967296+x)/y=q at *;generalize (r*4294967296+x)%y=s at *;refine⟨by simp[h1],?_,hm,?_⟩
  .intro z hz;rcases List.mem_cons.1 hz with rfl|hz
   .exact hq
   .exact h2 z hz
  .simp only[val];rw[h4,Nat.add_mul];have e1:4294967296*val Q*y=4294967296*(val Q*y):=Nat.mul_assoc _ _ _;have e2:y*q=q*y:=Nat.mul_comm _ _;omega
theorem Ub (w:World)(p:Option Addr)(n c:Nat)(ws:List Nat)(y:Nat)(h:Row w .u32 p n c ws)(hw:Words ws)(hn:n<1000000)(hy0:0<y)(hy:y<4294967296) :
  Calls Tryz.prog 156 #[.slice p n c,.int .u32 y] w fun e w'=>∃q d,e=.returned (.tuple #[.slice q n d,.int .u32 (val ws%y:Nat)]) /\
   Row w' .u32 q n d (Dr ws y n).1/\Below w.heap.size w w'/\Fh w.heap.size q:=by
 have HL:=Ah h.len;have hmk:=Hw n (by omega);go_enter Tryz.func156,Tryz.ntmps156;go_wp2
 go_loopw [7,8] (fun r i wr=>∃k m:Nat,k+m<=n/\n<=k+m/\i=.int .i64 ((m:Int)-1)/\r=.int .u32 ((Dr ws y k).2:Nat)/\Below w.heap.size w wr/\Bl wr w.heap.size 130 .u32 (List.replicate m 0++(Dr ws y k).1)) (fun _ i _=>(intOf i+1).toNat)
 case atStart=>
  refine⟨0,n,by omega,by omega,rfl,rfl,(Bd _ _).alloc (As _) _,?_⟩;simp only[Dr,List.append_nil];exact Bl.zeros _ _ _ _
 case round=>
  obtain⟨k,m,hkm,hkm2,rfl,rfl,hbw,hblk⟩:=hrel;have hk:k<=ws.length:=by have:=HL.out;omega
  obtain⟨g1,g2,g3,g4⟩:=Nl ws y hw hy0 k hk
  cases m with
  | succ j=>
   have hrow:=h.below hbw;obtain⟨b,off,rfl,hb,hc⟩:=hrow.pos (by omega);obtain⟨x,hx⟩:∃x,ws.getD j 0=x:=⟨_,rfl⟩
   have hcx:wr.cell? ⟨b,off+j,none⟩=some (.int .u32 (x:Nat)):=hc _ _ (by
    rw[<-hx,Ed];simp[show j<ws.length by have:=HL.out;omega])
   have hx1:x<4294967296:=by rw[<-hx];exact hw.get _
   have hstep:Hid ((Dr ws y (k+1))=(((Dr ws y k).2*4294967296+x)/y::(Dr ws y k).1,((Dr ws y k).2*4294967296+x)%y)):=by
    have e:ws.length-1-k=j:=by have:=HL.out;omega
    show Dr ws y (k+1)=_;rw[Dr,e,hx]
   clear hc hx g4;generalize hQ:(Dr ws y k).1=Q at *;generalize hR:(Dr ws y k).2=r at *;have hcl:wr.cell? ⟨w.heap.size,j,none⟩=some (.int .u32 (0:Nat)):=hblk.cell (by rw[List.getElem?_append_left (by simp)];simp);have hfr:=hblk.free j;have hset:Hid (∀v,Bl (wr.setCell ⟨w.heap.size,j,none⟩ (.int .u32 ((v:Nat)))) w.heap.size 130 .u32 (List.replicate j 0++(v::Q))):=fun v=>by
    have h5:=hblk.set j v;rw[List.set_append_left _ _ (by simp),List.replicate_succ',List.set_append_right _ _ (by simp)]at h5
    simpa using h5
   have e1:(((j+1:Nat):Int)-1)=(j:Int):=by omega
   simp only[e1];clear e1 hQ hR;have hgl:=hblk.lt
   go_wp2_with fail
   refine(Zy r x y _ g3 hx1 hy).mono ?_;rintro e w2 ⟨rfl,hb2⟩;have hcl2:=((Bz hb2).1 _ j hgl).trans hcl;have hfr2:=((Bz hb2).2 _ j hgl).trans hfr;go_wp2;go_roundw
   case rel=>
    have ed:((r:Int)*4294967296+x)/y=(((r*4294967296+x)/y:Nat):Int):=by simp[Int.natCast_ediv]
    have em:((r:Int)*4294967296+x)%y=(((r*4294967296+x)%y:Nat):Int):=by simp[Int.natCast_emod]
    rw[ed,em];refine⟨k+1,j,by omega,by omega,rfl,by rw[hstep.out],(hbw.trans (hb2.mono hbw.size)).setCell (As _) _,?_⟩;rw[hstep.out];have h6:=(hset.out ((r*4294967296+x)/y))
    have h7:=h6;unfold Bl at h7 ⊢;have h8:(w2.setCell ⟨w.heap.size,j,none⟩ (.int .u32 (((r*4294967296+x)/y:Nat)))).heap[w.heap.size]? = (wr.setCell ⟨w.heap.size,j,none⟩ (.int .u32 (((r*4294967296+x)/y:Nat)))).heap[w.heap.size]? := by
     simp only[World.setCell,Array.getElem?_modify,if_true];rw[hb2.block _ hgl]
    rw[h8];exact h7
   case measure=>simp[intOf]
  | zero=>
   have hkn:k=n:=by omega
   have HK:=Ah hkn;rw[hkn,List.replicate_zero,List.nil_append]at hblk
   have hrow:=hblk.row (n:=n) (c:=n) (by rw[<-hkn];exact g1.symm) (As _) (by omega);have hv:(Dr ws y k).2=val ws%y:=by
    have e0:ws.length-k=0:=by have:=HL.out;omega
    rw[e0,List.drop_zero]at g4
    rw[g4,Nat.mul_comm,Nat.mul_add_mod,Nat.mod_eq_of_lt g3]
   have HV:=Ah hv;clear hv hkn g1 g2 g3 g4;go_wp2
   go_ret2
   refine⟨_,_,?_,hrow,hbw,fun q hq=>by cases hq;exact As _⟩;rw[<-HV.out];rfl
structure Ih (w wr:World) (u0 u1 u2 u3:Value):Prop where
 bel:Below w.heap.size w wr
 size:w.heap.size+4<=wr.heap.size
 c0:wr.cell? ⟨w.heap.size,0,none⟩=some u0
 c1:wr.cell? ⟨w.heap.size+1,0,none⟩=some u1
 c2:wr.cell? ⟨w.heap.size+1+1,0,none⟩=some u2
 c3:wr.cell? ⟨w.heap.size+1+1+1,0,none⟩=some u3
 f0:wr.frozen? ⟨w.heap.size,0,none⟩=false
 f1:wr.frozen? ⟨w.heap.size+1,0,none⟩=false
 f2:wr.frozen? ⟨w.heap.size+1+1,0,none⟩=false
 f3:wr.frozen? ⟨w.heap.size+1+1+1,0,none⟩=false
theorem Ih.below {w wr w1:World}{u0 u1 u2 u3:Value}(h:Ih w wr u0 u1 u2 u3){B:Nat}(hb:Below B wr w1)(hB:w.heap.size+4<=B):Ih w w1 u0 u1 u2 u3:=by
 obtain⟨hc,hf⟩:=Bz hb;refine⟨h.bel.trans (hb.mono (by omega)),Ec h.size hb.size,?_,?_,?_,?_,?_,?_,?_,?_⟩
 .rw[hc _ _ (by omega)];exact h.c0
 .rw[hc _ _ (by omega)];exact h.c1
 .rw[hc _ _ (by omega)];exact h.c2
 .rw[hc _ _ (by omega)];exact h.c3
 .rw[hf _ _ (by omega)];exact h.f0
 .rw[hf _ _ (by omega)];exact h.f1
 .rw[hf _ _ (by omega)];exact h.f2
 .rw[hf _ _ (by omega)];exact h.f3
theorem Ih.later {w wr w1:World}{u0 u1 u2 u3:Value}(h:Ih w wr u0 u1 u2 u3)(hb:Below wr.heap.size wr w1):Ih w w1 u0 u1 u2 u3:=h.below hb h.size
theorem Ih.mk4 (w:World)(u0 u1 u2 u3:Value)(t0 t1 t2 t3:TypeId) :
  Ih w ((((w.alloc (.cells #[u0] t0)).alloc (.cells #[u1] t1)).alloc (.cells #[u2] t2)).alloc (.cells #[u3] t3)) u0 u1 u2 u3:=by
 refine⟨?_,by simp,by simp[go_sem],by simp[go_sem],by simp[go_sem],by simp[go_sem],by simp[go_sem],by simp[go_sem],by simp[go_sem],by simp[go_sem]⟩;exact((((Bd _ _).alloc (As _) _).alloc (by simp) _).alloc (by simp;omega) _).alloc (by simp;omega) _
def Ff (Q:List Nat)(B:Nat)(v:Value)(w:World):Prop:=∃q n d,v=.slice q n d/\Row w .u32 q n d Q/\Fh B q
theorem Ff.below {bs:List Nat}{B:Nat}{v:Value}{w w':World}(h:Ff bs B v w)(hb:Below w.heap.size w w'):Ff bs B v w' :=
 let ⟨q,n,d,h1,h2,h3⟩:=h
 ⟨q,n,d,h1,h2.below hb,h3⟩
def Tm (N M:Nat)(w:World)(e:Ending)(w':World):Prop:=∃p n c q m d,e=.returned (.tuple #[.agg #[.slice p n c],.agg #[.slice q m d],.int .i64 (if M=0 then 5 else 0)]) /\
 Aj w' p n c (N/M)/\Aj w' q m d (if M=0 then 0 else N%M)/\Below w.heap.size w w'/\Fh w.heap.size p/\Fh w.heap.size q
theorem Aj.nil (w:World):Aj w none 0 0 0:=⟨[],Row.nil _ _,Words.nil,by simp,by simp[val]⟩
theorem Vh (w:World)(pa:Option Addr)(na ca N:Nat)(pb:Option Addr)(nb cb M:Nat)(hA:Aj w pa na ca N)(hB:Aj w pb nb cb M)(hs:na<1000000)(hsb:nb<1000000)(hone:nb<=1 ∨ N<M) :
  Calls Tryz.prog 101 #[.agg #[.slice pa na ca],.agg #[.slice pb nb cb]] w (Tm N M w):=by
 have hbx:=Ih.mk4 w (.slice pa na ca) (.slice pb nb cb) (.slice none 0 0) (.slice none 0 0) 36 36 36 36
 by_cases hz:nb=0
 .have hM:M=0:=hB.zero.1 hz;have HM:=Ah hM;have hdz:decide (nb=0)=true:=by simp[hz]
  clear hz hM;go_enter Tryz.func101,Tryz.ntmps101
  go_wp2_with fail
  refine(Du _ pb nb cb).mono ?_;rintro e w1 ⟨rfl,hb1⟩;have hbx1:=hbx.later hb1;have c0:=hbx1.c0;have c1:=hbx1.c1;have c2:=hbx1.c2;have c3:=hbx1.c3;have f2:=hbx1.f2;have f3:=hbx1.f3;rw[hdz];have hz1:=hbx1.size;go_wp2;refine bodyPost_ret (v:=.tuple #[.agg #[.slice none 0 0],.agg #[.slice none 0 0],.int .i64 5]) (by simp[results,Tryz.results101,go_sem,c2,c3]) rfl ⟨none,0,0,none,0,0,by simp[HM.out],?_,?_,?_,Fh.none _,Fh.none _⟩
  .rw[HM.out,Nat.div_zero];exact Aj.nil _
  .rw[if_pos HM.out];exact Aj.nil _
  .exact(hbx1.bel.setCell (by simp;omega) _).setCell (by simp;omega) _
 .have hM:M≠0:=fun h=>hz (hB.zero.2 h)
  have HM:=Ah hM;have HZ:=Ah hz;have hdz:decide (nb=0)=false:=by simp[hz]
  clear hz hM
  by_cases hlt:N<M
  .have hcm:Bm N M = -1:=Dd hlt;have HLT:=Ah hlt;clear hlt;go_enter Tryz.func101,Tryz.ntmps101
   go_wp2_with fail
   refine(Du _ pb nb cb).mono ?_;rintro e w1 ⟨rfl,hb1⟩;have hbx1:=hbx.later hb1;have c0:=hbx1.c0;have c1:=hbx1.c1;rw[hdz]
   go_wp2_with fail
   refine(Hq _ pa pb na ca N nb cb M (hA.below hbx1.bel) (hB.below hbx1.bel) hs hsb).mono ?_;rintro e w2 ⟨rfl,hb2⟩;rw[hcm];have hbx2:=hbx1.later hb2;clear c0 c1;have c0:=hbx2.c0;have c1:=hbx2.c1
   go_wp2_with fail
   refine(Qw _ pa na ca N (hA.below hbx2.bel) hs).mono ?_;rintro e w3 ⟨p,n,c,rfl,hn,hb3,hp⟩;have hbx3:=hbx2.later hb3;clear c0 c1;have c2:=hbx3.c2;have c3:=hbx3.c3;have f2:=hbx3.f2;have f3:=hbx3.f3;have hz3:=hbx3.size;have hz2:=hbx2.size;go_wp2;refine bodyPost_ret (v:=.tuple #[.agg #[.slice none 0 0],.agg #[.slice p n c],.int .i64 0]) (by simp[results,Tryz.results101,go_sem,c2,c3]) rfl ⟨none,0,0,p,n,c,by simp[HM.out],?_,?_,?_,Fh.none _,hp.mono (by omega)⟩
   .rw[Nat.div_eq_of_lt HLT.out];exact Aj.nil _
   .rw[if_neg HM.out,Nat.mod_eq_of_lt HLT.out];exact(hn.setCell (a:=⟨w.heap.size+1+1,0,none⟩) (hp.ne (show w.heap.size+1+1<w2.heap.size by omega)) _).setCell (a:=⟨w.heap.size+1+1+1,0,none⟩) (hp.ne (show w.heap.size+1+1+1<w2.heap.size by omega)) _
   .exact(hbx3.bel.setCell (by simp;omega) _).setCell (by simp;omega) _
  .have hcm:decide (Bm N M<0)=false:=by
    have:¬Bm N M<0:=by unfold Bm;rw[if_neg hlt];split<;>omega
    simpa using this
   have HCM:=Ah hcm;have hn1:nb=1:=by
    have:=HZ.out;rcases hone with h|h
    .omega
    .exact absurd h hlt
   clear hcm hlt hone;subst hn1;obtain⟨A,a1,a2,a3,rfl⟩:=hA.ex;obtain⟨B,b1,b2,b3,rfl⟩:=hB.ex;obtain⟨y,rfl⟩:∃y,B=[y]:=List.length_eq_one_iff.1 b1.len.symm;have hv:val [y]=y:=by simp[val]
   have hy:y<4294967296:=b2 y (by simp);have hy0:0<y:=by have:=HM.out;rw[hv]at this;omega
   have HV:=Ah hv;clear hv;obtain⟨b,off,rfl,hbl,hcell⟩:=b1.pos (by omega);go_enter Tryz.func101,Tryz.ntmps101
   go_wp2_with fail
   refine(Du _ _ _ _).mono ?_;rintro e w1 ⟨rfl,hb1⟩;have hbx1:=hbx.later hb1;have c0:=hbx1.c0;have c1:=hbx1.c1;rw[hdz]
   go_wp2_with fail
   refine(Hq _ pa _ na ca _ _ cb _ (hA.below hbx1.bel) (hB.below hbx1.bel) hs hsb).mono ?_;rintro e w2 ⟨rfl,hb2⟩;have hbx2:=hbx1.later hb2;have hcm:=HCM.out;clear c0 c1;have c0:=hbx2.c0;have c1:=hbx2.c1;have cy:w2.cell? ⟨b,off,none⟩=some (.int .u32 (y:Nat)):=by
    rw[(Bz hbx2.bel).1 _ _ hbl];simpa using hcell 0 y rfl
   go_wp2;obtain⟨rr,hrr⟩:∃r,val A%y=r:=⟨_,rfl⟩
   have hr:rr<y:=by rw[<-hrr];exact Nat.mod_lt _ hy0
   have HR:=Ah hrr;clear hrr;obtain⟨g1,g2,g3,g4⟩:=Nl A y a2 hy0 na (by have:=a1.len;omega);have hq1:val (Dr A y na).1=val A/val [y]:=by
    have e0:A.length-na=0:=by have:=a1.len;omega
    rw[e0,List.drop_zero]at g4
    rw[HV.out,g4,Nat.mul_comm,Nat.mul_add_div hy0,Nat.div_eq_of_lt g3,Nat.add_zero]
   have HQ:=Ah hq1;clear hq1 g1 g3 g4;generalize hQ:(Dr A y na).1=Q at *;have HQQ:=Ah hQ;clear hQ;refine Ai (by kernel_rfl) (by kernel_rfl)
    [some (.pointer (some ⟨w.heap.size,0,none⟩)),some (.slice pa na ca),some (.pointer (some ⟨w.heap.size+1,0,none⟩)),some (.slice (some ⟨b,off,none⟩) 1 cb),some (.pointer (some ⟨b,off,none⟩)),some (.int .u32 y),none,none,none,none,none,none]
    [false,false,false,false,false,false,true,true,true,true,true,true] rfl
    (fun w1 w2=>Below w1.heap.size w1 w2)
    (fun _ w'=>Ih w w' (.slice pa na ca) (.slice (some ⟨b,off,none⟩) 1 cb) (.slice none 0 0) (.slice none 0 0))
    (fun i v w'=>match i with
     | 6|7=>∃u,v=.tuple #[u,.int .u32 (rr:Nat)]/\Ff Q (w.heap.size+4) u w'
     | 8|10=>Ff Q (w.heap.size+4) v w'
     | _=>v=.int .u32 (rr:Nat))
    ?_ (hbx2.below (Bd _ _).drew (As _)) ?_ ?_
   .intro i v w1 w2 hf hb;split at hf
    .exact hf.imp fun u h=>⟨h.1,h.2.below hb⟩
    .exact hf.imp fun u h=>⟨h.1,h.2.below hb⟩
    .exact hf.below hb
    .exact hf.below hb
    .exact hf
   .simp only[Ba,Nat.reduceAdd];refine⟨?_,?_,?_,?_,?_,?_,?_,?_,?_,?_,?_,?_,trivial⟩
    case refine_7=>
     intro D sp w' hD hW hdp hbx'
     (with_reducible refine Ab (w1:=w') (f := 156) (args:=#[.slice pa na ca,.int .u32 y]) ?_ ?_ ?_)
     .simp only[Region.wanted]
     .simp[Act.eval,Act.put,go_sem]
     .refine(Ub w' pa na ca A y (a1.below hbx'.bel) a2 hs hy0 hy).mono ?_;rintro e w3 ⟨q,d,rfl,hrow,hb,hq⟩;rw[HQQ.out]at hrow
      rw[HR.out];exact⟨_,rfl,hb,⟨_,rfl,q,na,d,rfl,hrow,hq.mono (by have:=hbx'.size;omega)⟩,hbx'.later hb⟩
    case refine_8=>
     intro D sp w' hD hW hdp hbx';have hx:∃u,sp 6=.tuple #[u,.int .u32 (rr:Nat)]/\Ff Q (w.heap.size+4) u w':=(hdp 6 (mq (by kernel_rfl))).2
     (with_reducible refine Aq hx fun u hu=>?_)
     have h1:=hu.1;have h2:=hu.2
     (with_reducible refine Ag (w1:=w') (v:=.tuple #[u,.int .u32 (rr:Nat)]) ?_ ?_ ?_)
     .simp only[Region.wanted]
     .simp[execOp,Act.eval,Act.put,go_sem,h1]
     .exact⟨Bd _ _,⟨u,rfl,h2⟩,hbx'⟩
    case refine_9=>
     intro D sp w' hD hW hdp hbx';have hx:∃u,sp 7=.tuple #[u,.int .u32 (rr:Nat)]/\Ff Q (w.heap.size+4) u w':=(hdp 7 (mq (by kernel_rfl))).2
     (with_reducible refine Aq hx fun u hu=>?_)
     have h1:=hu.1;have h2:=hu.2
     (with_reducible refine Ag (w1:=w') (v:=u) ?_ ?_ ?_)
     .simp only[Region.wanted]
     .simp[execOp,Act.eval,Act.put,go_sem,h1]
     .exact⟨Bd _ _,h2,hbx'⟩
    case refine_10=>
     intro D sp w' hD hW hdp hbx';have hx:∃u,sp 7=.tuple #[u,.int .u32 (rr:Nat)]/\Ff Q (w.heap.size+4) u w':=(hdp 7 (mq (by kernel_rfl))).2
     (with_reducible refine Aq hx fun u hu=>?_)
     have h1:=hu.1
     (with_reducible refine Ag (w1:=w') (v:=.int .u32 (rr:Nat)) ?_ ?_ ?_)
     .simp only[Region.wanted]
     .simp[execOp,Act.eval,Act.put,go_sem,h1]
     .exact⟨Bd _ _,rfl,hbx'⟩
    case refine_11=>
     intro D sp w' hD hW hdp hbx';have h2:Ff Q (w.heap.size+4) (sp 8) w':=(hdp 8 (mq (by kernel_rfl))).2
     (with_reducible refine Ag (w1:=w') (v:=sp 8) ?_ ?_ ?_)
     .simp only[Region.wanted]
     .simp[execOp,Act.eval,Act.put,go_sem]
     .exact⟨Bd _ _,h2,hbx'⟩
    case refine_12=>
     intro D sp w' hD hW hdp hbx';have h2:sp 9=.int .u32 (rr:Nat):=(hdp 9 (mq (by kernel_rfl))).2
     (with_reducible refine Ag (w1:=w') (v:=.int .u32 (rr:Nat)) ?_ ?_ ?_)
     .simp only[Region.wanted]
     .simp[execOp,Act.eval,Act.put,go_sem,h2]
     .exact⟨Bd _ _,rfl,hbx'⟩
    all_goals
     intro D sp w' hD hW hdp hbx';have c0:=hbx'.c0;have c1:=hbx'.c1;have cy:w'.cell? ⟨b,off,none⟩=some (.int .u32 (y:Nat)):=by
      rw[(Bz hbx'.bel).1 _ _ hbl];simpa using hcell 0 y rfl
     simp[asked,Region.wanted,Oper.gives,execOp,Act.eval,Act.put,go_sem,c0,c1,cy]
   .intro sp w' hsp hbx';have h10:Ff Q (w.heap.size+4) (sp 10) w':=hsp 10 rfl;have h11:sp 11=.int .u32 (rr:Nat):=hsp 11 rfl;clear hsp;simp only[Am,Nat.reduceAdd];rw[h11];obtain⟨q,n,d,h1,hq,hqn⟩:=h10;rw[h1];generalize sp 6=u6,sp 7=u7,sp 8=u8,sp 9=u9 at *
    go_simp
    have h4:=hbx'.size;have f2:=hbx'.f2;have f3:=hbx'.f3
    go_wp2_with fail
    refine(Ck _ _ _ _ _ hq g2).mono ?_;rintro e w3 ⟨p,n1,c1,rfl,hn,hb3,hp⟩;rw[HQ.out]at hn
    have hbx3:=hbx'.later hb3
    go_wp2_with fail
    refine(Cz rr w3 (by omega)).mono ?_;rintro e w4 ⟨p2,n2,d2,rfl,hn2,hb4,hp2⟩;have hbx4:=hbx3.later hb4;have hnn:=hn.below hb4;have hpn:Fh (w.heap.size+4) p:=by
     rcases hp with rfl|rfl
     .exact Fh.none _
     .exact hqn
    have hp2n:Fh (w.heap.size+4) p2:=hp2.mono hbx3.size;clear f2 f3 h4;have c2:=hbx4.c2;have c3:=hbx4.c3;have f2:=hbx4.f2;have f3:=hbx4.f3;have h4:=hbx4.size;go_wp2;refine bodyPost_ret (v:=.tuple #[.agg #[.slice p n1 c1],.agg #[.slice p2 n2 d2],.int .i64 0]) (by simp[results,Tryz.results101,go_sem,c2,c3]) rfl ⟨p,n1,c1,p2,n2,d2,by simp[HM.out],?_,?_,?_,hpn.mono (by omega),hp2n.mono (by omega)⟩
    .exact(hnn.setCell (a:=⟨w.heap.size+1+1,0,none⟩) (hpn.ne (show w.heap.size+1+1<w.heap.size+4 by omega)) _).setCell (a:=⟨w.heap.size+1+1+1,0,none⟩) (hpn.ne (show w.heap.size+1+1+1<w.heap.size+4 by omega)) _
    .rw[if_neg HM.out,HV.out,HR.out];exact(hn2.setCell (a:=⟨w.heap.size+1+1,0,none⟩) (hp2n.ne (show w.heap.size+1+1<w.heap.size+4 by omega)) _).setCell (a:=⟨w.heap.size+1+1+1,0,none⟩) (hp2n.ne (show w.heap.size+1+1+1<w.heap.size+4 by omega)) _
    .exact(hbx4.bel.setCell (by simp;omega) _).setCell (by simp;omega) _
end Go.Proofs.YtnbmfaihlefgfaaGreatDoor
