/- The product of two numbers. -/
import Derived.Test.YtnbmfaihlefgfaaGreatDoorRows
import Derived.WalkKit
import Derived.WalkSpells
import Derived.WalkLawsBesides
import Derived.ProofKit
import Derived.OpenShut
import Derived.Handy
import Derived.Lib.Hide
import Derived.Test.YtnbmfaihlefgfaaGreatDoorFlow
set_option maxRecDepth 1000000
set_option maxHeartbeats 16000000
set_option linter.all false
namespace Go.Proofs.YtnbmfaihlefgfaaGreatDoor
open Go Go.RowKit
structure Row (w:World) (k:IntKind) (p:Option Addr) (n c:Nat) (xs:List Nat):Prop where
 len:n=xs.length
 cap:n<=c
 max:c<=9223372036854775807
 at_:(p=none/\n=0/\c=0) ∨ ∃b off,p=some ⟨b,off,none⟩/\b<w.heap.size/\∀(i x:Nat),xs[i]? = some x->w.cell? ⟨b,off+i,none⟩=some (.int k (x:Int))
theorem Row.below {w w':World}{k:IntKind}{p:Option Addr}{n c:Nat}{xs:List Nat}(h:Row w k p n c xs)(hb:Below w.heap.size w w'):Row w' k p n c xs:=by
 refine⟨h.len,h.cap,h.max,?_⟩;rcases h.at_ with h1|⟨b,off,h1,h2,h3⟩
 .exact .inl h1
 .refine .inr ⟨b,off,h1,Eg h2 hb.size,fun i x hx=>?_⟩;rw[hb.cell (p:=⟨b,off+i,none⟩) h2];exact h3 i x hx
theorem Row.nil (w:World)(k:IntKind):Row w k none 0 0 []:=⟨rfl,As _,by omega,.inl ⟨rfl,rfl,rfl⟩⟩
theorem Row.pos {w:World}{k:IntKind}{p:Option Addr}{n c:Nat}{xs:List Nat}(h:Row w k p n c xs)(hn:0<n) :
  ∃b off,p=some ⟨b,off,none⟩/\b<w.heap.size/\∀(i x:Nat),xs[i]? = some x->w.cell? ⟨b,off+i,none⟩=some (.int k (x:Int)):=by
 rcases h.at_ with h1|h1
 .omega
 .exact h1
theorem Row.take {w:World}{k:IntKind}{p:Option Addr}{n c:Nat}{xs:List Nat}(h:Row w k p n c xs)(m:Nat)(hm:m<=n):Row w k p m c (xs.take m):=by
 have hl:=h.len;refine⟨by simp;omega,Di hm h.cap,h.max,?_⟩;rcases h.at_ with ⟨h1,h2,h3⟩|⟨b,off,h1,h2,h3⟩
 .exact .inl ⟨h1,by omega,h3⟩
 .refine .inr ⟨b,off,h1,h2,fun i x hx=>h3 i x ?_⟩;rw[List.getElem?_take]at hx
  split at hx
  .exact hx
  .cases hx
def Words (xs:List Nat):Prop:=∀x∈xs,x<4294967296
def val:List Nat->Nat
 | []=>0
 | x::xs=>x+4294967296*val xs
def Ar (k:Nat):Nat:=4294967296^k
theorem Ic:Ar 0=1:=rfl
theorem Bw (k:Nat):Ar (k+1)=4294967296*Ar k:=by unfold Ar;rw[Nat.pow_succ,Nat.mul_comm]
theorem Hx (k:Nat):0<Ar k:=Nat.pow_pos (by omega)
theorem val_append (xs ys:List Nat):val (xs++ys)=val xs+Ar xs.length*val ys:=by
 induction xs with
 | nil=>simp[val,Ic]
 | cons x xs ih=>
  simp only[List.cons_append,val,ih,List.length_cons,Bw,Nat.mul_add,Nat.mul_assoc];omega
theorem Eu (xs:List Nat)(x:Nat):val (xs++[x])=val xs+Ar xs.length*x:=by
 rw[val_append];simp[val]
theorem Kh (n:Nat):val (List.replicate n 0)=0:=by
 induction n with
 | zero=>rfl
 | succ n ih=>simp[List.replicate_succ,val,ih]
theorem Words.lt {xs:List Nat}(h:Words xs):val xs<Ar xs.length:=by
 induction xs with
 | nil=>simp[val,Ic]
 | cons x xs ih=>
  have h1:=ih fun y hy=>h y (by simp[hy])
  have h2:=h x (by simp);simp only[val,List.length_cons,Bw];have:4294967296*val xs+4294967296<=4294967296*Ar xs.length:=by
   have:=Nat.mul_le_mul_left 4294967296 (Nat.succ_le_of_lt h1);simp only[Nat.succ_eq_add_one,Nat.mul_add,Nat.mul_one]at this;exact this
  omega
theorem Words.nil:Words []:=by simp[Words]
theorem Words.append {xs ys:List Nat}(h:Words xs)(k:Words ys):Words (xs++ys):=by
 intro x hx;rcases List.mem_append.1 hx with h1|h1
 .exact h x h1
 .exact k x h1
theorem Words.snoc {xs:List Nat}{x:Nat}(h:Words xs)(k:x<4294967296):Words (xs++[x]):=h.append (by intro y hy;simp at hy;omega)
theorem Words.take {xs:List Nat}(h:Words xs)(n:Nat):Words (xs.take n):=fun x hx=>h x (List.mem_of_mem_take hx)
theorem Words.drop {xs:List Nat}(h:Words xs)(n:Nat):Words (xs.drop n):=fun x hx=>h x (List.mem_of_mem_drop hx)
theorem Words.zeros (n:Nat):Words (List.replicate n 0):=by intro x hx;have:=(List.mem_replicate.1 hx).2;omega
theorem Words.get {xs:List Nat}(h:Words xs)(i:Nat):xs.getD i 0<4294967296:=by
 rw[Dq];rcases Nat.lt_or_ge i xs.length with h1|h1
 .simp[h1];exact h _ (List.getElem_mem _)
 .simp[List.getElem?_eq_none h1]
theorem Da (xs:List Nat)(k:Nat)(h:k<xs.length):xs.take (k+1)=xs.take k++[xs.getD k 0]:=by
 rw[List.take_succ_eq_append_getElem h];simp[h]
theorem Uu (xs:List Nat)(k:Nat)(h:k<xs.length):val (xs.take (k+1))=val (xs.take k)+Ar k*xs.getD k 0:=by
 rw[Da xs k h,Eu];simp[Nat.min_eq_left (Nat.le_of_lt h)]
theorem Be (xs:List Nat)(k:Nat):val (xs.take (k+1))=val (xs.take k)+Ar k*xs.getD k 0:=by
 rcases Nat.lt_or_ge k xs.length with h|h
 .exact Uu xs k h
 .rw[List.take_of_length_le (by omega),List.take_of_length_le h];simp[List.getElem?_eq_none h]
def Bm (w:World)(g:Nat)(e:TypeId)(k:IntKind)(xs:List Nat):Prop:=w.heap[g]? = some (.cells (xs.map fun(x:Nat)=>Value.int k x).toArray e (0,0))
theorem Bm.lt {w:World}{g:Nat}{e:TypeId}{k:IntKind}{xs:List Nat}(h:Bm w g e k xs):g<w.heap.size:=(Kr h).1
theorem Bm.cell {w:World}{g:Nat}{e:TypeId}{k:IntKind}{xs:List Nat}(h:Bm w g e k xs){i x:Nat}(hx:xs[i]? = some x):w.cell? ⟨g,i,none⟩=some (.int k x):=by
 unfold Bm at h;simp[World.cell?,h,hx]
theorem Bm.free {w:World}{g:Nat}{e:TypeId}{k:IntKind}{xs:List Nat}(h:Bm w g e k xs)(i:Nat):w.frozen? ⟨g,i,none⟩=false:=by
 unfold Bm at h;simp[World.frozen?,h]
theorem Bm.below {w w':World}{g:Nat}{e:TypeId}{k:IntKind}{xs:List Nat}(h:Bm w g e k xs){B:Nat}(hb:Below B w w')(hg:g<B):Bm w' g e k xs:=by
 unfold Bm at *;rw[hb.block g hg];exact h
theorem Bm.set {w:World}{g:Nat}{e:TypeId}{k:IntKind}{xs:List Nat}(h:Bm w g e k xs)(i x:Nat):Bm (w.setCell ⟨g,i,none⟩ (.int k x)) g e k (xs.set i x):=by
 unfold Bm at *;simp only[World.setCell,Array.getElem?_modify,if_true,h,Option.map_some];simp[List.map_set]
theorem Bm.other {w:World}{g:Nat}{e:TypeId}{k:IntKind}{xs:List Nat}(h:Bm w g e k xs){a:Addr}(ha:g≠a.block)(u:Value):Bm (w.setCell a u) g e k xs:=by
 unfold Bm at *;rw[Below.heap_setCell _ _ _ _ ha];exact h
theorem Bm.alloc {w:World}{g:Nat}{e:TypeId}{k:IntKind}{xs:List Nat}(h:Bm w g e k xs)(o:Obj):Bm (w.alloc o) g e k xs :=
 h.below ((Bb w.heap.size w).alloc (As _) o) h.lt
theorem Mi (k:IntKind)(xs:List Nat):((xs.map fun(x:Nat)=>Value.int k x).toArray).all (·.oneCell')=true:=by
 rw[List.all_toArray,List.all_eq_true];intro v hv;obtain⟨x,_,rfl⟩:=List.mem_map.1 hv;rfl
theorem Bm.row {w:World}{g:Nat}{e:TypeId}{k:IntKind}{xs:List Nat}(h:Bm w g e k xs){n c:Nat}(hn:n=xs.length)(hc:n<=c)(hm:c<=9223372036854775807):Row w k (some ⟨g,0,none⟩) n c xs :=
 ⟨hn,hc,hm,.inr ⟨g,0,rfl,h.lt,fun i x hx=>by rw[Nat.zero_add];exact h.cell hx⟩⟩
def zeros (k:IntKind)(n:Nat):Array Value:=((List.replicate n 0).map fun(x:Nat)=>Value.int k x).toArray
theorem Lx (k:IntKind)(n:Nat):madeCells #[Value.int k 0] n=zeros k n:=by
 unfold zeros;rw[List.map_replicate];have h:=toList_madeCells_one (Value.int k 0) n;rw[<-Array.toArray_toList (xs:=madeCells #[Value.int k 0] n),h];rfl
theorem Bm.zeros (w:World)(e:TypeId)(k:IntKind)(n:Nat):Bm (w.alloc (.cells (zeros k n) e)) w.heap.size e k (List.replicate n 0):=by
 unfold Bm;exact heap_alloc_new w _
def Au (xs:List Nat):Prop:=∀x∈xs,x<256
theorem Au.take {xs:List Nat}(h:Au xs)(n:Nat):Au (xs.take n):=fun x hx=>h x (List.mem_of_mem_take hx)
theorem Au.reverse {xs:List Nat}(h:Au xs):Au xs.reverse:=fun x hx=>h x (List.mem_reverse.1 hx)
theorem Au.get {xs:List Nat}(h:Au xs)(i:Nat):xs.getD i 0<256:=by
 rw[Dq];rcases Nat.lt_or_ge i xs.length with h1|h1
 .simp[h1];exact h _ (List.getElem_mem _)
 .simp[List.getElem?_eq_none h1]
theorem Tryz.info_u8:(Tryz.prog.info? 5).map (fun i=>(i.zero,i.size,i.bytes))=some (some (.int .u8 0),1,1):=by kernel_rfl
theorem Sc (n:Nat)(h:n<=4294967296)(w:World):(Instr.makeSlice 60 (.int .i64 n) (.int .i64 n)).run Tryz.prog w =
  .ok (.slice (some ⟨w.heap.size,0,none⟩) n n) (w.alloc (.cells (zeros .u8 n) 5)):=by
 obtain⟨i,hi,hz,hs,hb⟩:=info_parts Tryz.info_u8;have:=run_make (P:=Tryz.prog) w 60 5 i (.int .u8 0) Tryz.underlying60 hi hz .i64 .i64 n n (by omega) (Int.le_refl _) (by rw[hb];omega) (by omega);simp only[Int.toNat_natCast,hs,Nat.mul_one]at this;rw[this,<-Lx];rfl
theorem Ca {B:Nat}{W w1:World}(hb:Below B W w1):(∀b o,b<B->w1.cell? ⟨b,o,none⟩=W.cell? ⟨b,o,none⟩)/\(∀b o,b<B->w1.frozen? ⟨b,o,none⟩=W.frozen? ⟨b,o,none⟩) :=
 ⟨fun b o h=>hb.cell (p:=⟨b,o,none⟩) h,fun b o h=>hb.frozen (p:=⟨b,o,none⟩) h⟩
theorem Row.setCell {w:World}{k:IntKind}{p:Option Addr}{n c:Nat}{xs:List Nat}(h:Row w k p n c xs){a:Addr}(ha:∀q,p=some q->q.block≠a.block)(u:Value):Row (w.setCell a u) k p n c xs:=by
 refine⟨h.len,h.cap,h.max,?_⟩;rcases h.at_ with h1|⟨b,off,h1,h2,h3⟩
 .exact .inl h1
 .refine .inr ⟨b,off,h1,by simpa using h2,fun i x hx=>?_⟩;have hne:=ha _ h1;rw[World.cell?_setCell_other _ _ _ _ (fun e=>hne (by rw[e]))];exact h3 i x hx
def Gd (B:Nat)(p:Option Addr):Prop:=∀q,p=some q->B<=q.block
theorem Gd.none (B:Nat):Gd B none:=fun _ h=>by cases h
theorem Gd.mono {B B':Nat}{p:Option Addr}(h:Gd B p)(hb:B'<=B):Gd B' p:=fun q hq=>Di hb (h q hq)
theorem Gd.ne {B:Nat}{p:Option Addr}(h:Gd B p){b:Nat}(hb:b<B):∀q,p=some q->q.block≠b:=fun q hq=>by have:=h q hq;omega
structure Bd (w:World) (k:IntKind) (p:Option Addr) (n c:Nat) (xs:List Nat):Prop where
 len:n=xs.length
 cap:n<=c
 max:c<=9223372036854775807
 row:0<n->Row w k p n c xs
theorem Bd.below {w w':World}{k:IntKind}{p:Option Addr}{n c:Nat}{xs:List Nat}(h:Bd w k p n c xs)(hb:Below w.heap.size w w'):Bd w' k p n c xs :=
 ⟨h.len,h.cap,h.max,fun h0=>(h.row h0).below hb⟩
theorem Bd.take {w:World}{k:IntKind}{p:Option Addr}{n c:Nat}{xs:List Nat}(h:Bd w k p n c xs)(m:Nat)(hm:m<=n):Bd w k p m c (xs.take m) :=
 ⟨by have:=h.len;simp;omega,Di hm h.cap,h.max,fun h0=>(h.row (by omega)).take m hm⟩
def bytesIn (zs:List Int)(n:Nat):List Nat:=(zs.take n).map Int.toNat
theorem wf_u8 {n:Int}(h:(Lit.int .u8 n).wf=true):0<=n/\n<256:=by
 simp only[Lit.wf,Bool.and_eq_true,decide_eq_true_eq]at h;have h1:IntKind.u8.min=0:=by decide
 have h2:IntKind.u8.max=255:=by decide
 omega
theorem wf_u64 {n:Int}(h:(Lit.int .u64 n).wf=true):0<=n/\n<18446744073709551616:=by
 simp only[Lit.wf,Bool.and_eq_true,decide_eq_true_eq]at h;have h1:IntKind.u64.min=0:=by decide
 have h2:IntKind.u64.max=18446744073709551615:=by decide
 omega
theorem add_plain (b off i:Nat):(⟨b,off,none⟩:Addr).add i=⟨b,off+i,none⟩:=by unfold Addr.add;split<;>simp_all
theorem Ze {w:World}{a:Option Addr}{len cap:Nat}{zs:List Int}(h:(a=none/\len=0/\cap=0/\zs=[]) ∨ ∃x,a=some x/\len<=cap/\cap<=maxLen/\zs.length=cap/\(∀i,i<zs.length->w.cell? (x.add i)=some (.int .u8 (zs.getD i 0)))/\∀n∈zs,(Lit.int .u8 n).wf=true) :
  Bd w .u8 a len cap (bytesIn zs len)/\Au (bytesIn zs len):=by
 rcases h with ⟨rfl,rfl,rfl,rfl⟩|⟨x,rfl,hl,hm,hz,hc,hw⟩
 .refine⟨⟨by simp[bytesIn],As _,by omega,fun h=>absurd h (by omega)⟩,by simp[bytesIn,Au]⟩
 .have hm':cap<=9223372036854775807:=by simpa [maxLen]using hm
  have hlen:len=(bytesIn zs len).length:=by simp[bytesIn];omega
  refine⟨⟨hlen,hl,hm',fun h0=>?_⟩,?_⟩
  .obtain⟨b,off,spot⟩:=x;have h1:=hc 0 (by omega);have hspot:spot=none:=by simpa [Addr.add]using World.cell?_spot h1
   subst hspot;have hadd:∀i,(⟨b,off,none⟩:Addr).add i=⟨b,off+i,none⟩:=add_plain b off;refine⟨hlen,hl,hm',.inr ⟨b,off,rfl,?_,fun i y hy=>?_⟩⟩
   .rw[hadd]at h1
    unfold World.cell? at h1;rcases Nat.lt_or_ge b w.heap.size with k|k
    .exact k
    .simp[Array.getElem?_eq_none k]at h1
   .simp only[bytesIn,List.getElem?_map,List.getElem?_take]at hy;split at hy
    .rename_i hi
     have hi2:i<zs.length:=by omega
     rw[List.getElem?_eq_getElem hi2]at hy
     simp only[Option.map_some,Option.some.injEq]at hy;have:=wf_u8 (hw zs[i] (List.getElem_mem _));rw[<-hadd,hc i hi2,<-hy,Dq,List.getElem?_eq_getElem hi2];simp only[Option.getD_some];rw[Int.toNat_of_nonneg this.1]
    .simp at hy
  .intro y hy;simp only[bytesIn,List.mem_map]at hy;obtain⟨n,hn,rfl⟩:=hy;have:=wf_u8 (hw n (List.mem_of_mem_take hn));omega
theorem dM {w:World}{a:Option Addr}{len cap:Nat}{zs:List Int}(h:(a=none/\len=0/\cap=0/\zs=[]) ∨ ∃x,a=some x/\len<=cap/\cap<=maxLen/\zs.length=cap/\(∀i,i<zs.length->w.cell? (x.add i)=some (.int .u8 (zs.getD i 0)))/\∀n∈zs,(Lit.int .u8 n).wf=true) :
  (a=none->cap=0)/\∀x,a=some x->∀i y,(bytesIn zs len)[i]? = some y->w.cell? (x.add i)=some (.int .u8 (y:Nat)):=by
 rcases h with ⟨rfl,rfl,rfl,rfl⟩|⟨x,rfl,hl,hm,hz,hc,hw⟩
 .exact⟨fun _=>rfl,fun x hx=>by cases hx⟩
 .refine⟨(fun h=>by cases h),fun x' hx i y hy=>?_⟩;cases hx;simp only[bytesIn,List.getElem?_map,List.getElem?_take]at hy;split at hy
  .rename_i hi
   have hi2:i<zs.length:=by omega
   rw[List.getElem?_eq_getElem hi2]at hy
   simp only[Option.map_some,Option.some.injEq]at hy;have:=wf_u8 (hw zs[i] (List.getElem_mem _));rw[hc i hi2,<-hy,Dq,List.getElem?_eq_getElem hi2];simp only[Option.getD_some];rw[Int.toNat_of_nonneg this.1]
  .simp at hy
def Dv (p:Nat):Prop:=2<=p/\∀d,d ∣ p->d=1 ∨ d=p
theorem Dv.two {p:Nat}(h:Dv p):2<=p:=h.1
theorem Dv.coprime {p n:Nat}(h:Dv p)(hn:¬p ∣ n):Nat.Coprime p n:=by
 rcases h.2 (Nat.gcd p n) (Nat.gcd_dvd_left p n) with h1|h1
 .exact h1
 .exact absurd (h1 ▸ Nat.gcd_dvd_right p n) hn
theorem Dv.dvd_mul {p a b:Nat}(h:Dv p)(hd:p ∣ a*b):p ∣ a ∨ p ∣ b:=by
 by_cases ha:p ∣ a
 .exact .inl ha
 .exact .inr ((h.coprime ha).dvd_of_dvd_mul_left hd)
theorem Dv.dvd_pow {p a:Nat}(h:Dv p):∀ {n:Nat},p ∣ a^n->p ∣ a
 | 0,hd=>by
  rw[Nat.pow_zero]at hd
  have:=Nat.le_of_dvd (by decide) hd;have:=h.1;omega
 | n+1,hd=>by
  rw[Nat.pow_succ]at hd
  rcases h.dvd_mul hd with h1|h1
  .exact h.dvd_pow h1
  .exact h1
theorem Dv.dvd_prime {p q:Nat}(h:Dv p)(k:Dv q)(hd:p ∣ q):p=q:=by
 rcases k.2 p hd with h1|h1
 .have:=h.1;omega
 .exact h1
theorem Qk:∀n:Nat,2<=n->∃p,Dv p/\p ∣ n:=by
 intro n
 induction n using Nat.strongRecOn with
 | _ n ih=>
  intro hn
  by_cases h:∃d,d ∣ n/\d≠1/\d≠n
  .obtain⟨d,hd,h1,h2⟩:=h;have hle:=Nat.le_of_dvd (by omega) hd;have h0:d≠0:=fun e=>by subst e;have:=Nat.eq_zero_of_zero_dvd hd;omega
   obtain⟨p,hp,hpd⟩:=ih d (by omega) (by omega);exact⟨p,hp,Nat.dvd_trans hpd hd⟩
  .refine⟨n,⟨hn,fun d hd=>?_⟩,Nat.dvd_refl n⟩
   by_cases h1:d=1
   .exact .inl h1
   .by_cases h2:d=n
    .exact .inr h2
    .exact absurd ⟨d,hd,h1,h2⟩ h
theorem Nv {n:Nat}(hn:2<=n)(h:∀p,Dv p->p ∣ n->n<p*p):Dv n:=by
 refine⟨hn,fun d hd=>?_⟩
 by_cases h1:d=1
 .exact .inl h1
 by_cases h2:d=n
 .exact .inr h2
 exfalso;obtain⟨e,rfl⟩:=hd;have hd0:d≠0:=fun e'=>by subst e';simp at hn
 have he1:e≠1:=fun e'=>by subst e';simp at h2
 have he0:e≠0:=fun e'=>by subst e';simp at hn
 obtain⟨p,hp,hpd⟩:=Qk d (by omega);obtain⟨q,hq,hqd⟩:=Qk e (by omega);have h3:=h p hp (Nat.dvd_trans hpd (Nat.dvd_mul_right d e));have h4:=h q hq (Nat.dvd_trans hqd (Nat.dvd_mul_left e d));have h5:=Nat.le_of_dvd (by omega) hpd;have h6:=Nat.le_of_dvd (by omega) hqd;rcases Nat.le_total d e with h7|h7
 .have:=Nat.mul_le_mul h5 (Di h5 h7);omega
 .have:=Nat.mul_le_mul (Di h6 h7) h6;omega
theorem oC:∀(m n:Nat) (f:Nat->Nat),(∀i,i<n->f i<m)->(∀i j,i<n->j<n->f i=f j->i=j)->n<=m:=by
 intro m
 induction m with
 | zero=>
  intro n f h _;rcases Nat.eq_zero_or_pos n with h0|h0
  .omega
  .have:=h 0 h0;omega
 | succ m ih=>
  intro n f h hi
  cases n with
  | zero=>omega
  | succ n=>
   -- the last one's place is left free: who sits at m takes it
   have hn:=h n (by omega);have key:n<=m:=by
    refine ih n (fun i=>if f i=m then f n else f i) ?_ ?_
    .intro i hin;have h1:=h i (by omega);show (if f i=m then f n else f i)<m;split
     .rename_i e
      rcases Nat.lt_or_ge (f n) m with h2|h2
      .exact h2
      .have:f i=f n:=by omega
       have:=hi i n (by omega) (by omega) this;omega
     .omega
    .intro i j hin hjn e;replace e:(if f i=m then f n else f i)=(if f j=m then f n else f j):=e;split at e<;>split at e
     .exact hi i j (by omega) (by omega) (by omega)
     .have:=hi n j (by omega) (by omega) e;omega
     .have:=hi i n (by omega) (by omega) e;omega
     .exact hi i j (by omega) (by omega) e
   omega
theorem Xo {a b t:Nat}(h:a<=b):a%t=b%t ↔ t ∣ b-a:=by
 constructor
 .intro e;exact Nat.dvd_of_mod_eq_zero (Nat.sub_mod_eq_zero_of_mod_eq e.symm)
 .rintro⟨c,hc⟩;have:b=a+t*c:=by omega
  rw[this,Nat.add_mul_mod_self_left]
theorem Rf {g t d:Nat}(h:g^d%t=1%t)(k:Nat):g^(d*k)%t=1%t:=by
 rw[Nat.pow_mul,Nat.pow_mod,h,<-Nat.pow_mod,Nat.one_pow]
theorem cJ {g t i j:Nat}(hc:Nat.Coprime t g)(h:i<=j)(he:g^i%t=g^j%t):g^(j-i)%t=1%t:=by
 obtain⟨k,rfl⟩:∃k,j=i+k:=⟨j-i,by omega⟩
 rw[Nat.add_sub_cancel_left];rcases Nat.eq_zero_or_pos g with h0|h0
 .subst h0;have ht:t=1:=by simpa [Nat.Coprime]using hc
  subst ht;simp[Nat.mod_one]
 have hg:1<=g^k:=Nat.pow_pos h0;have h1:g^i<=g^(i+k):=Nat.pow_le_pow_right h0 (by omega);have h2:t ∣ g^(i+k)-g^i:=(Xo h1).1 he;rw[Nat.pow_add,show g^i*g^k-g^i=g^i*(g^k-1) by rw[Nat.mul_sub,Nat.mul_one]]at h2
 have h3:t ∣ g^k-1:=(Nat.Coprime.pow_right i hc).dvd_of_dvd_mul_left h2;exact((Xo hg).2 h3).symm
theorem gV {g t n:Nat}(hn:0<n)(h:g^n%t=1%t):∃d,0<d/\d<=n/\g^d%t=1%t/\∀e,0<e->e<d->g^e%t≠1%t:=by
 induction n using Nat.strongRecOn with
 | _ n ih=>
  by_cases hx:∃e,0<e/\e<n/\g^e%t=1%t
  .obtain⟨e,h1,h2,h3⟩:=hx;obtain⟨d,d1,d2,d3,d4⟩:=ih e h2 h1 h3;exact⟨d,d1,by omega,d3,d4⟩
  .exact⟨n,hn,As _,h,fun e h1 h2 h3=>hx ⟨e,h1,h2,h3⟩⟩
theorem fU {g t d n:Nat}(h1:g^d%t=1%t)(hm:∀e,0<e->e<d->g^e%t≠1%t)(hd:0<d)(h:g^n%t=1%t):d ∣ n:=by
 have h2:g^(n%d)%t=1%t:=by
  rw[<-Nat.div_add_mod n d,Nat.pow_add,Nat.mul_mod,Rf h1,<-Nat.mul_mod,Nat.one_mul]at h
  exact h
 rcases Nat.eq_zero_or_pos (n%d) with h3|h3
 .exact Nat.dvd_of_mod_eq_zero h3
 .exact absurd h2 (hm _ h3 (Nat.mod_lt _ hd))
theorem cL {t g F:Nat}(ht:Dv t)(hF:0<F)(h1:g^F%t=1)(hp:∀p,Dv p->p ∣ F->g^(F/p)%t≠1):F<t:=by
 have ht2:=ht.1;have h1t:1%t=1:=Nat.mod_eq_of_lt (by omega);obtain⟨d,d1,d2,d3,d4⟩:=gV (t:=t) hF (by rw[h1t];exact h1);have hdF:d ∣ F:=fU d3 d4 d1 (by rw[h1t];exact h1);have hdeq:d=F:=by
  obtain⟨k,rfl⟩:=hdF
  by_cases hk:k=1
  .subst hk;simp
  .exfalso;have hk0:k≠0:=fun e=>by subst e;simp at hF
   obtain⟨p,hpp,⟨j,rfl⟩⟩:=Qk k (by omega);refine hp p hpp ⟨d*j,by rw[Nat.mul_left_comm]⟩ ?_;have e:d*(p*j)/p=d*j:=by rw[Nat.mul_left_comm,Nat.mul_div_cancel_left _ (by have:=hpp.1;omega)]
   rw[e,Rf d3,h1t]
 subst hdeq;have hc:Nat.Coprime t g:=by
  refine ht.coprime fun hd=>?_
  have:t ∣ g^d:=Nat.dvd_trans hd (by obtain⟨k,rfl⟩:∃k,d=k+1:=⟨d-1,by omega⟩;rw[Nat.pow_succ];exact Nat.dvd_mul_left _ _);have:=Nat.mod_eq_zero_of_dvd this;omega
 have:=oC (t-1) d (fun i=>g^i%t-1) ?_ ?_
 .omega
 .intro i hi;have h2:g^i%t<t:=Nat.mod_lt _ (by omega);have h3:g^i%t≠0:=fun e=>by
   have:=ht.dvd_pow (Nat.dvd_of_mod_eq_zero e);have h4:=hc.symm.gcd_eq_one;have:=Nat.dvd_gcd this (Nat.dvd_refl t);rw[h4]at this
   have:=Nat.le_of_dvd (by decide) this;omega
  show g^i%t-1<t-1;omega
 .have key:∀i j,i<d->j<d->i<=j->g^i%t=g^j%t->i=j:=by
   intro i j hi hj hij e;have h2:=cJ hc hij e;rcases Nat.eq_zero_or_pos (j-i) with h3|h3
   .omega
   .exact absurd h2 (d4 _ h3 (by omega))
  have nz:∀i,g^i%t≠0:=fun i e=>by
   have:=ht.dvd_pow (Nat.dvd_of_mod_eq_zero e);have h4:=hc.symm.gcd_eq_one;have:=Nat.dvd_gcd this (Nat.dvd_refl t);rw[h4]at this
   have:=Nat.le_of_dvd (by decide) this;omega
  intro i j hi hj e;replace e:g^i%t-1=g^j%t-1:=e;have e':g^i%t=g^j%t:=by have:=nz i;have:=nz j;omega
  rcases Nat.le_total i j with h|h
  .exact key i j hi hj h e'
  .exact(key j i hj hi h e'.symm).symm
theorem rE {N a F:Nat}(hN:2<=N)(hF:F ∣ N-1)(hFN:N<F*F)(h1:a^(N-1)%N=1)(hp:∀p,Dv p->p ∣ F->∀t,Dv t->t ∣ N->a^((N-1)/p)%t≠1):Dv N:=by
 refine Nv hN fun t ht htN=>?_
 obtain⟨k,hk⟩:=hF;have hF0:0<F:=Nat.pos_of_ne_zero fun e=>by subst e;simp at hFN
 have hlt:F<t:=by
  refine cL (g:=a^k) ht hF0 ?_ ?_
  .rw[<-Nat.pow_mul,Nat.mul_comm,<-hk];have:a^(N-1)%t=1%t:=by
    rw[<-Nat.mod_mod_of_dvd _ htN,h1]
   rw[this];exact Nat.mod_eq_of_lt ht.1
  .intro p hpp hpF;have h2:=hp p hpp hpF t ht htN;rw[<-Nat.pow_mul];have e:k*(F/p)=(N-1)/p:=by
    rw[hk,Nat.mul_comm F k,Nat.mul_div_assoc k hpF]
   rw[e];exact h2
 have:=Nat.mul_lt_mul'' hlt hlt;omega
def Dd (n:Nat):Prop:=2<=n/\n<65536/\∀d,2<=d->d*d<=n->n%d≠0
theorem Dd.prime {n:Nat}(h:Dd n):Dv n :=
 Nv h.1 fun p hp hd=>Nat.lt_of_not_le fun hle=>h.2.2 p hp.1 hle (Nat.mod_eq_zero_of_dvd hd)
def pw (p:Nat):Nat->Nat->Nat
 | 0,_=>1
 | f+1,n=>if n%p=0 then p*pw p f (n/p) else 1
theorem kA (p:Nat):∀f n,∃e,pw p f n=p^e
 | 0,_=>⟨0,rfl⟩
 | f+1,n=>by
  unfold pw;split
  .obtain⟨e,he⟩:=kA p f (n/p);exact⟨e+1,by rw[he,Nat.pow_succ,Nat.mul_comm]⟩
  .exact⟨0,rfl⟩
theorem Xh (p:Nat):∀f n,pw p f n ∣ n
 | 0,n=>Nat.one_dvd n
 | f+1,n=>by
  unfold pw;split
  .rename_i h
   obtain⟨k,rfl⟩:=Nat.dvd_of_mod_eq_zero h;rcases Nat.eq_zero_or_pos p with h0|h0
   .subst h0;simp
   .rw[Nat.mul_div_cancel_left _ h0];exact Nat.mul_dvd_mul_left p (Xh p f k)
  .exact Nat.one_dvd n
theorem oA {p:Nat}(hp:2<=p):∀(f g n:Nat),0<n->n<=f->n<=g->pw p f n=pw p g n:=by
 intro f
 induction f with
 | zero=>intro g n h0 h1;omega
 | succ f ih=>
  intro g n h0 h1 h2
  cases g with
  | zero=>omega
  | succ g=>
   unfold pw;split
   .rename_i h
    have h3:n/p<n:=Nat.div_lt_self h0 hp;have h4:0<n/p:=Nat.div_pos (Nat.le_of_dvd h0 (Nat.dvd_of_mod_eq_zero h)) (by omega);rw[ih g (n/p) h4 (by omega) (by omega)]
   .rfl
theorem Sa {p n:Nat}(hp:2<=p)(h0:0<n):pw p n n=if n%p=0 then p*pw p (n/p) (n/p) else 1:=by
 obtain⟨m,rfl⟩:∃m,n=m+1:=⟨n-1,by omega⟩
 rw[pw];split
 .rename_i h
  have h3:(m+1)/p<m+1:=Nat.div_lt_self h0 hp;have h4:0<(m+1)/p:=Nat.div_pos (Nat.le_of_dvd h0 (Nat.dvd_of_mod_eq_zero h)) (by omega);rw[oA hp m ((m+1)/p) ((m+1)/p) h4 (by omega) (As _)]
 .rfl
def Ux (n:Nat)(ps:List Nat):Nat:=ps.foldl (fun f p=>f*pw p n n) 1
theorem Zi (n:Nat)(ps:List Nat)(p:Nat):Ux n (ps++[p])=Ux n ps*pw p n n:=by simp[Ux]
theorem Yx {α:Type}{P:List α->Prop}(nil:P [])(snoc:∀l x,P l->P (l++[x])):∀l,P l:=by
 have h:∀l:List α,P l.reverse:=by
  intro l
  induction l with
  | nil=>exact nil
  | cons x l ih=>rw[List.reverse_cons];exact snoc _ _ ih
 intro l;have:=h l.reverse
 rwa [List.reverse_reverse]at this
theorem jZ {n:Nat}:∀(ps:List Nat),(∀p∈ps,Dv p)->ps.Nodup->Ux n ps ∣ n/\∀q,Dv q->q ∣ Ux n ps->q∈ps:=by
 refine Yx ?_ ?_
 .intro _ _;refine⟨Nat.one_dvd n,fun q hq hd=>?_⟩;have h1:q ∣ 1:=hd;have:=Nat.le_of_dvd (by decide) h1;have:=hq.1;omega
 .intro ps p ih hp hn;have hn':=List.nodup_append.1 hn;obtain⟨h1,h2⟩:=ih (fun q hq=>hp q (by simp[hq])) hn'.1;have hpp:Dv p:=hp p (by simp);obtain⟨e,he⟩:=kA p n n;have hnot:¬p ∣ Ux n ps:=fun hd=>hn'.2.2 p (h2 p hpp hd) p (by simp) rfl
  rw[Zi];constructor
  .refine Nat.Coprime.mul_dvd_of_dvd_of_dvd ?_ h1 (Xh p n n);rw[he];exact(Nat.Coprime.pow_left e (hpp.coprime hnot)).symm
  .intro q hq hd;rcases hq.dvd_mul hd with h3|h3
   .have:=h2 q hq h3;simp[this]
   .rw[he]at h3
    have:=hq.dvd_prime hpp (hq.dvd_pow h3);simp[this]
def mT (N base:Nat)(behind ps:List Nat)(i p:Nat):Prop :=
 p ∉ ps.take i/\(Dd p ∨ p∈behind)/\2<=p/\(N-1)%p=0/\Nat.gcd ((base^((N-1)/p)%N+N-1)%N) N=1
structure If (N base:Nat) (ps behind:List Nat):Prop where
 two:2<=N
 some:ps≠[]
 few:ps.length<=32
 each:∀i p,ps[i]? = .some p->mT N base behind ps i p
 one:base^(N-1)%N=1
 great:N<Ux (N-1) ps*Ux (N-1) ps
theorem kK {ps:List Nat}(h:∀i p,ps[i]? = .some p->p ∉ ps.take i):ps.Nodup:=by
 revert h
 refine Yx (P:=fun ps=>(∀i p,ps[i]? = .some p->p ∉ ps.take i)->ps.Nodup) ?_ ?_ ps
 .intro _;exact List.nodup_nil
 .intro l x ih h;refine List.nodup_append.2 ⟨ih fun i p hp=>?_,by simp,fun a ha b hb e=>?_⟩
  .have hi:i<l.length:=(List.getElem?_eq_some_iff.1 hp).1;have:=h i p (by rw[List.getElem?_append_left hi];exact hp)
   rwa [List.take_append_of_le_length (by omega)]at this
  .simp at hb;subst hb;subst e;have:=h l.length a (by simp);simp at this;exact this ha
theorem Zw {N base:Nat}{ps behind:List Nat}(h:If N base ps behind)(hb:∀x∈behind,Dv x):Dv N:=by
 have hpr:∀p∈ps,Dv p:=fun p hp=>by
  obtain⟨i,hi,e⟩:=List.getElem_of_mem hp;have:=(h.each i p (by rw[List.getElem?_eq_getElem hi,e])).2.1;rcases this with h1|h1
  .exact h1.prime
  .exact hb p h1
 have hnd:ps.Nodup:=kK fun i p hp=>(h.each i p hp).1
 obtain⟨h1,h2⟩:=jZ (n:=N-1) ps hpr hnd;refine rE h.two h1 h.great h.one fun p hp hd t ht htN e=>?_
 obtain⟨i,hi,e'⟩:=List.getElem_of_mem (h2 p hp hd);have hok:=(h.each i p (by rw[List.getElem?_eq_getElem hi,e'])).2.2.2.2
 -- t divides what has no divisor in common with N
 have hN:=h.two;generalize base^((N-1)/p)=y at e hok;have h3:t ∣ y%N+N-1:=by
  have h4:(y%N)%t=1:=by rw[Nat.mod_mod_of_dvd _ htN];exact e
  obtain⟨k,rfl⟩:=htN;have h5:1<=y%(t*k):=Nat.pos_of_ne_zero fun e0=>by rw[e0]at h4;simp at h4
  have h6:t ∣ y%(t*k)-1:=(Xo h5).1 (by rw[h4];exact Nat.mod_eq_of_lt ht.1);rw[show y%(t*k)+t*k-1=(y%(t*k)-1)+t*k by omega];exact Nat.dvd_add h6 (Nat.dvd_mul_right t k)
 have h7:t ∣ (y%N+N-1)%N:=(Nat.dvd_mod_iff htN).2 h3;have h8:t ∣ Nat.gcd ((y%N+N-1)%N) N:=Nat.dvd_gcd h7 htN;rw[hok]at h8
 have:=Nat.le_of_dvd (by decide) h8;have:=ht.1;omega
structure Bz where
 n:Nat
 base:Nat
 ps:List Nat
def Cq:List Nat->List Bz->Prop
 | _,[]=>True
 | behind,s::l=>If s.n s.base s.ps behind/\Cq (behind++[s.n]) l
theorem Rq:∀(l:List Bz) (behind:List Nat),(∀x∈behind,Dv x)->Cq behind l->∀s∈l,Dv s.n
 | [],_,_,_,s,hs=>by simp at hs
 | s::l,behind,hb,h,t,ht=>by
  have h1:Dv s.n:=Zw h.1 hb;rcases List.mem_cons.1 ht with e|e
  .rw[e];exact h1
  .refine Rq l (behind++[s.n]) (fun x hx=>?_) h.2 t e;rcases List.mem_append.1 hx with h2|h2
   .exact hb x h2
   .simp at h2;rw[h2];exact h1
theorem Uh:∀(l:List Bz) (behind:List Nat) (s:Bz),Cq behind (l++[s]) ↔ Cq behind l/\If s.n s.base s.ps (behind++l.map (·.n))
 | [],behind,s=>by simp[Cq]
 | a::l,behind,s=>by
  simp only[List.cons_append,Cq,Uh l,List.map_cons,List.append_assoc,List.cons_append,List.nil_append,and_assoc]
theorem Pp:∀(l r:List Bz) (behind:List Nat),Cq behind (l++r) ↔ Cq behind l/\Cq (behind++l.map (·.n)) r
 | [],r,behind=>by simp[Cq]
 | a::l,r,behind=>by
  simp only[List.cons_append,Cq,Pp l,List.map_cons,List.append_assoc,List.cons_append,List.nil_append,and_assoc]
theorem Tryz.info_u32:(Tryz.prog.info? 130).map (fun i=>(i.zero,i.size,i.bytes))=some (some (.int .u32 0),1,4):=by kernel_rfl
theorem Iy (n:Nat)(h:n<=4294967296)(w:World):(Instr.makeSlice 34 (.int .i64 n) (.int .i64 n)).run Tryz.prog w =
  .ok (.slice (some ⟨w.heap.size,0,none⟩) n n) (w.alloc (.cells (zeros .u32 n) 130)):=by
 obtain⟨i,hi,hz,hs,hb⟩:=info_parts Tryz.info_u32;have:=run_make (P:=Tryz.prog) w 34 130 i (.int .u32 0) Tryz.underlying34 hi hz .i64 .i64 n n (by omega) (Int.le_refl _) (by rw[hb];omega) (by omega);simp only[Int.toNat_natCast,hs,Nat.mul_one]at this;rw[this,<-Lx];rfl
theorem Qh {i:Int}(n:Nat)(hi:i=(n:Nat))(h:n<=4294967296)(w:World):(Instr.makeSlice 34 (.int .i64 i) (.int .i64 i)).run Tryz.prog w =
  .ok (.slice (some ⟨w.heap.size,0,none⟩) n n) (w.alloc (.cells (zeros .u32 n) 130)):=by subst hi;exact Iy n h w
structure Aj (w:World) (p:Option Addr) (n c:Nat) (N:Nat):Prop where
 ex:∃ws,Row w .u32 p n c ws/\Words ws/\ws.getLast? ≠ some 0/\val ws=N
theorem Aj.below {w w':World}{p:Option Addr}{n c N:Nat}(h:Aj w p n c N)(hb:Below w.heap.size w w'):Aj w' p n c N :=
 let ⟨ws,h1,h2,h3,h4⟩:=h.ex
 ⟨ws,h1.below hb,h2,h3,h4⟩
theorem Aj.setCell {w:World}{p:Option Addr}{n c N:Nat}(h:Aj w p n c N){a:Addr}(ha:∀q,p=some q->q.block≠a.block)(u:Value):Aj (w.setCell a u) p n c N :=
 let ⟨ws,h1,h2,h3,h4⟩:=h.ex
 ⟨ws,h1.setCell ha u,h2,h3,h4⟩
def Ib (N:Nat)(w:World)(e:Ending)(w':World):Prop:=∃p n c,e=.returned (.agg #[.slice p n c])/\Aj w' p n c N/\Below w.heap.size w w'/\Gd w.heap.size p
theorem Hg (w:World)(p:Option Addr)(n c:Nat)(ws:List Nat)(i y:Nat)(h:Row w .u32 p n c ws)(hi:i<9223372036854775807)(hy:ws.getD i 0=y) :
  Calls Tryz.prog 176 #[.agg #[.slice p n c],.int .i64 i] w fun e w'=>e=.returned (.int .u32 y)/\Below w.heap.size w w':=by
 by_cases hin:i<n
 .obtain⟨b,off,rfl,hb,hc⟩:=h.pos (by omega);have hl:=h.len;have hne:b≠w.heap.size:=by omega
  have hci:w.cell? ⟨b,off+i,none⟩=some (.int .u32 (y:Nat)):=hc i _ (by rw[<-hy,Dq];simp[show i<ws.length by omega]);clear hc hl h hy;go_enter Tryz.func176,Tryz.ntmps176;go_wp2;go_ret;exact⟨rfl,(Bb _ _).alloc (As _) _⟩
 .have hl:=h.len;have hg:ws.getD i 0=0:=by rw[Dq];simp[List.getElem?_eq_none (show ws.length<=i by omega)]
  obtain rfl:y=0:=by rw[<-hy,hg]
  clear hg hl h hy;go_enter Tryz.func176,Tryz.ntmps176;go_wp2;go_ret;exact⟨rfl,(Bb _ _).alloc (As _) _⟩
theorem Mv (x y c:Nat)(w:World)(hx:x<4294967296)(hy:y<4294967296)(hc:c<=1) :
  Calls Tryz.prog 175 #[.int .u32 x,.int .u32 y,.int .u32 c] w fun e w'=>
   e=.returned (.tuple #[.int .u32 ((x+y+c)%4294967296:Nat),.int .u32 ((x+y+c)/4294967296:Nat)])/\w=w':=by
 go_enter Tryz.func175,Tryz.ntmps175;go_wp2
 go_ret2
 exact⟨by simp,rfl⟩
def Qu (N:Nat)(p0:Option Addr)(w:World)(e:Ending)(w':World):Prop:=∃p n c,e=.returned (.agg #[.slice p n c])/\Aj w' p n c N/\Below w.heap.size w w'/\(p=none ∨ p=p0)
theorem Wu {ws:List Nat}(h:val (ws.take 0)=val ws)(p:Option Addr)(w:World)(o:Obj):Qu (val ws) p w (.returned (.agg #[.slice none 0 0])) (w.alloc o):=by
 refine⟨none,0,0,rfl,⟨[],Row.nil _ _,Words.nil,by simp,?_⟩,(Bb _ _).alloc (As _) _,.inl rfl⟩;rw[<-h];rfl
theorem Wv {w:World}{p:Option Addr}{n c:Nat}{ws:List Nat}(h:Row w .u32 p n c ws)(hw:Words ws){k:Nat}(hk:k<n)(hv:val (ws.take (k+1))=val ws)(hz:ws.getD k 0≠0)(o:Obj):Qu (val ws) p w (.returned (.agg #[.slice p (k+1) c])) (w.alloc o):=by
 have hl:=h.len;have hb:Below w.heap.size w (w.alloc o):=Bx;refine⟨p,k+1,c,rfl,⟨ws.take (k+1),(h.take (k+1) (by omega)).below hb,hw.take _,?_,hv⟩,hb,.inr rfl⟩;rw[Da _ _ (by omega),List.getLast?_append];simp only[List.getLast?_singleton,Option.some_or];intro e;exact hz (Option.some.inj e)
theorem Cw (w:World)(p:Option Addr)(n c:Nat)(ws:List Nat)(h:Row w .u32 p n c ws)(hw:Words ws) :
  Calls Tryz.prog 88 #[.slice p n c] w (Qu (val ws) p w):=by
 have HL:=Ag h.len;have hm:=h.max;have hcp:=h.cap;go_enter Tryz.func88,Tryz.ntmps88;go_wp2
 go_loop [3] (fun m=>∃k:Nat,k<=n/\m=.int .i64 k/\val (ws.take k)=val ws) (fun m=>(intOf m).toNat)
 case atStart=>exact⟨n,As _,rfl,by rw[List.take_of_length_le (by have:=HL.out;omega)]⟩
 case round=>
  obtain⟨k,hk,rfl,hv⟩:=hrel;have HV:=Ag hv;clear hv
  by_cases hk0:k=0
  .subst hk0;go_wp2;refine bodyPost_ret (v:=.agg #[.slice none 0 0]) (by simp[results,Tryz.results88,go_sem]) rfl (Wu HV.out _ _ _)
  .obtain⟨m,rfl⟩:∃m,k=m+1:=⟨k-1,by omega⟩
   obtain⟨b,off,rfl,hb,hc⟩:=h.pos (by omega);have hne:b≠w.heap.size:=by omega
   obtain⟨x,hx⟩:∃x,ws.getD m 0=x:=⟨_,rfl⟩
   have hci:w.cell? ⟨b,off+m,none⟩=some (.int .u32 (x:Nat)):=hc m x (by rw[<-hx,Dq];simp[show m<ws.length by have:=HL.out;omega]);have HX:=Ag hx;clear hc hx
   by_cases hz:x=0
   .subst hz;go_wp2;go_round
    case rel=>exact⟨m,by omega,by go_num,by rw[<-HV.out,Be,HX.out];simp⟩
    case measure=>simp[intOf]
   .have hz':((x:Int)==0)=false:=by rw[beq_eq_false_iff_ne];omega
    go_wp2;refine bodyPost_ret (v:=.agg #[.slice (some ⟨b,off,none⟩) (m+1) c]) (by simp[results,Tryz.results88,go_sem]) rfl (Wv h hw (by omega) HV.out (by rw[HX.out];exact hz) _)
structure Js (A B:List Nat) (k:Nat) (S:List Nat) (cy:Nat):Prop where
 len:S.length=k
 words:Words S
 carry:cy<=1
 eq:val S+Ar k*cy=val (A.take k)+val (B.take k)
theorem Js.start (A B:List Nat):Js A B 0 [] 0:=⟨rfl,Words.nil,by omega,by simp[val]⟩
theorem Js.step {A B:List Nat}{k:Nat}{S:List Nat}{cy:Nat}(h:Js A B k S cy)(hA:Words A)(hB:Words B) :
  Js A B (k+1) (S++[(A.getD k 0+B.getD k 0+cy)%4294967296]) ((A.getD k 0+B.getD k 0+cy)/4294967296):=by
 have h1:=hA.get k;have h2:=hB.get k;have h3:=h.carry;refine⟨by simp[h.len],h.words.snoc (Nat.mod_lt _ (by omega)),by omega,?_⟩;rw[Eu,h.len,Be,Be,Bw];have e:=h.eq;generalize A.getD k 0=x at *;generalize B.getD k 0=y at *;have hd:=Nat.div_add_mod (x+y+cy) 4294967296;generalize (x+y+cy)/4294967296=q at *;generalize (x+y+cy)%4294967296=r at *;generalize Ar k=b at *;have e2:b*r+4294967296*b*q=b*(x+y+cy):=by
  rw[<-hd,Nat.mul_add,Nat.mul_comm 4294967296 b,Nat.mul_assoc,Nat.add_comm]
 simp only[Nat.mul_add]at e2;omega
theorem Js.last {A B:List Nat}{k:Nat}{S:List Nat}{cy:Nat}(h:Js A B k S cy)(hA:A.length=k)(hB:B.length<=k):val (S++[cy])=val A+val B:=by
 have e:=h.eq;rw[List.take_of_length_le (by omega),List.take_of_length_le hB]at e
 rw[Eu,h.len];exact e
theorem Nf (S:List Nat)(m x:Nat):(S++List.replicate (m+1) 0).set S.length x=(S++[x])++List.replicate m 0:=by
 rw[List.set_append_right _ _ (As _)];simp[List.replicate_succ]
theorem Bm.zero_cell {w:World}{g:Nat}{e:TypeId}{k:IntKind}{S:List Nat}{m i:Nat}(h:Bm w g e k (S++List.replicate m 0))(hs:S.length=i)(hm:0<m):w.cell? ⟨g,i,none⟩=some (.int k 0):=by
 refine h.cell (x:=0) ?_;subst hs;rw[List.getElem?_append_right (As _)];simp[hm]
theorem Bm.last {w:World}{g:Nat}{e:TypeId}{k:IntKind}{S:List Nat}{i n:Nat}(h:Bm w g e k (S++List.replicate (n+1-i) 0))(hs:S.length=i)(hi:i<=n)(x:Nat) :
  Bm (w.setCell ⟨g,i,none⟩ (.int k x)) g e k ((S++[x])++List.replicate (n+1-(i+1)) 0):=by
 subst hs;have e1:n+1-S.length=(n+1-(S.length+1))+1:=by omega
 have:=h.set S.length x
 rwa [e1,Nf]at this
theorem Bm.next {w:World}{g:Nat}{e:TypeId}{k:IntKind}{S:List Nat}{i m m':Nat}(h:Bm w g e k (S++List.replicate m 0))(hs:S.length=i)(hm:m=m'+1)(x:Nat) :
  Bm (w.setCell ⟨g,i,none⟩ (.int k x)) g e k ((S++[x])++List.replicate m' 0):=by
 subst hs;subst hm;have:=h.set S.length x
 rwa [Nf]at this
theorem Row.lt {w:World}{k:IntKind}{p:Option Addr}{n c:Nat}{xs:List Nat}(h:Row w k p n c xs):∀q,p=some q->q.block<w.heap.size:=by
 intro q hq;rcases h.at_ with ⟨h1,_⟩|⟨b,off,h1,h2,_⟩
 .rw[h1]at hq;cases hq
 .rw[h1]at hq;cases hq;exact h2
structure Dj (w wr:World) (u0 u1 u2:Value):Prop where
 bel:Below w.heap.size w wr
 size:w.heap.size+3<=wr.heap.size
 c0:wr.cell? ⟨w.heap.size,0,none⟩=some u0
 c1:wr.cell? ⟨w.heap.size+1,0,none⟩=some u1
 c2:wr.cell? ⟨w.heap.size+1+1,0,none⟩=some u2
 f0:wr.frozen? ⟨w.heap.size,0,none⟩=false
 f1:wr.frozen? ⟨w.heap.size+1,0,none⟩=false
 f2:wr.frozen? ⟨w.heap.size+1+1,0,none⟩=false
theorem Dj.below {w wr w1:World}{u0 u1 u2:Value}(h:Dj w wr u0 u1 u2){B:Nat}(hb:Below B wr w1)(hB:w.heap.size+3<=B):Dj w w1 u0 u1 u2:=by
 obtain⟨hc,hf⟩:=Ca hb;refine⟨h.bel.trans (hb.mono (by omega)),Di h.size hb.size,?_,?_,?_,?_,?_,?_⟩
 .rw[hc _ _ (by omega)];exact h.c0
 .rw[hc _ _ (by omega)];exact h.c1
 .rw[hc _ _ (by omega)];exact h.c2
 .rw[hf _ _ (by omega)];exact h.f0
 .rw[hf _ _ (by omega)];exact h.f1
 .rw[hf _ _ (by omega)];exact h.f2
theorem Dj.mk' (w:World)(u0 u1 u2:Value)(t0 t1 t2 t3:TypeId)(row:Array Value) :
  Dj w ((((w.alloc (.cells #[u0] t0)).alloc (.cells #[u1] t1)).alloc (.cells #[u2] t2)).alloc (.cells row t3)) u0 u1 u2:=by
 refine⟨?_,by simp,by simp[go_sem],by simp[go_sem],by simp[go_sem],by simp[go_sem],by simp[go_sem],by simp[go_sem]⟩;exact((((Bb _ _).alloc (As _) _).alloc (by simp) _).alloc (by simp;omega) _).alloc (by simp;omega) _
theorem Dj.mk3 (w:World)(u0 u1 u2:Value)(t0 t1 t2:TypeId) :
  Dj w (((w.alloc (.cells #[u0] t0)).alloc (.cells #[u1] t1)).alloc (.cells #[u2] t2)) u0 u1 u2:=by
 refine⟨?_,by simp,by simp[go_sem],by simp[go_sem],by simp[go_sem],by simp[go_sem],by simp[go_sem],by simp[go_sem]⟩;exact(((Bb _ _).alloc (As _) _).alloc (by simp) _).alloc (by simp;omega) _
theorem Dj.later {w wr w1:World}{u0 u1 u2:Value}(h:Dj w wr u0 u1 u2)(hb:Below wr.heap.size wr w1):Dj w w1 u0 u1 u2:=h.below hb h.size
theorem Dj.alloc {w wr:World}{u0 u1 u2:Value}(h:Dj w wr u0 u1 u2)(o:Obj):Dj w (wr.alloc o) u0 u1 u2:=h.later ((Bb _ _).alloc (As _) _)
theorem Dj.grown {w wr w1:World}{u0 u1 u2:Value}(h:Dj w wr u0 u1 u2){g:Nat}(hg:wr.grownBy w1 (some g))(hgw:w.heap.size+3<=g):Dj w w1 u0 u1 u2 :=
 h.below (B:=w.heap.size+3) ((Bb _ wr).grown hg h.size (fun k e=>by cases e;exact hgw)) (As _)
structure Ef (w wr:World) (u0:Value):Prop where
 bel:Below w.heap.size w wr
 size:w.heap.size+1<=wr.heap.size
 c0:wr.cell? ⟨w.heap.size,0,none⟩=some u0
 f0:wr.frozen? ⟨w.heap.size,0,none⟩=false
theorem Ef.mk1 (w:World)(u0:Value)(t0:TypeId):Ef w (w.alloc (.cells #[u0] t0)) u0 :=
 ⟨(Bb _ _).alloc (As _) _,by simp,by simp[go_sem],by simp[go_sem]⟩
theorem Ef.below {w wr w1:World}{u0:Value}(h:Ef w wr u0){B:Nat}(hb:Below B wr w1)(hB:w.heap.size+1<=B):Ef w w1 u0:=by
 obtain⟨hc,hf⟩:=Ca hb;refine⟨h.bel.trans (hb.mono (by omega)),Di h.size hb.size,?_,?_⟩
 .rw[hc _ _ (by omega)];exact h.c0
 .rw[hf _ _ (by omega)];exact h.f0
theorem Ef.later {w wr w1:World}{u0:Value}(h:Ef w wr u0)(hb:Below wr.heap.size wr w1):Ef w w1 u0:=h.below hb h.size
theorem Ef.alloc {w wr:World}{u0:Value}(h:Ef w wr u0)(o:Obj):Ef w (wr.alloc o) u0:=h.later ((Bb _ _).alloc (As _) _)
structure Ig (w wr:World) (u0 u1:Value):Prop where
 bel:Below w.heap.size w wr
 size:w.heap.size+2<=wr.heap.size
 c0:wr.cell? ⟨w.heap.size,0,none⟩=some u0
 c1:wr.cell? ⟨w.heap.size+1,0,none⟩=some u1
 f0:wr.frozen? ⟨w.heap.size,0,none⟩=false
 f1:wr.frozen? ⟨w.heap.size+1,0,none⟩=false
theorem Ig.mk2 (w:World)(u0 u1:Value)(t0 t1:TypeId):Ig w ((w.alloc (.cells #[u0] t0)).alloc (.cells #[u1] t1)) u0 u1 :=
 ⟨((Bb _ _).alloc (As _) _).alloc (by simp) _,by simp,by simp[go_sem],by simp[go_sem],by simp[go_sem],by simp[go_sem]⟩
theorem Ig.below {w wr w1:World}{u0 u1:Value}(h:Ig w wr u0 u1){B:Nat}(hb:Below B wr w1)(hB:w.heap.size+2<=B):Ig w w1 u0 u1:=by
 obtain⟨hc,hf⟩:=Ca hb;refine⟨h.bel.trans (hb.mono (by omega)),Di h.size hb.size,?_,?_,?_,?_⟩
 .rw[hc _ _ (by omega)];exact h.c0
 .rw[hc _ _ (by omega)];exact h.c1
 .rw[hf _ _ (by omega)];exact h.f0
 .rw[hf _ _ (by omega)];exact h.f1
theorem Ig.later {w wr w1:World}{u0 u1:Value}(h:Ig w wr u0 u1)(hb:Below wr.heap.size wr w1):Ig w w1 u0 u1:=h.below hb h.size
theorem Row.of_owns {w:World}{base:Nat}{e:TypeId}{k:IntKind}{v:Value}{n:Nat}{ws:List Nat}(h:w.ownsRow base e 1 v n (ws.map fun(x:Nat)=>Value.int k x)) :
  ∃q d,v=.slice q n d/\Row w k q n d ws/\Gd base q:=by
 have hl:ws.length=n:=by have:=h.1;simpa using this
 rcases h.2 with ⟨rfl,rfl⟩|⟨g,cap,cur,rfl,hb,hg,hnc,hcm,hcs,htake⟩
 .have:ws=[]:=List.eq_nil_of_length_eq_zero hl;subst this;exact⟨none,0,rfl,Row.nil _ _,Gd.none _⟩
 .refine⟨_,cap,rfl,⟨hl.symm,hnc,by simpa [maxLen]using hcm,.inr ⟨g,0,rfl,(Kr hg).1,fun i x hx=>?_⟩⟩,fun q hq=>by cases hq;exact hb⟩;rw[Nat.zero_add,cell_of_row w g i cur e (0,0) hg];have hi:i<n:=by rw[<-hl];exact(List.getElem?_eq_some_iff.1 hx).1
  have:(cur.toList.take (n*1))[i]? = some (.int k x):=by rw[htake];simp[hx]
  rw[List.getElem?_take,if_pos (by omega)]at this
  simpa using this
structure nJ (w wr:World) (X Y:List Nat) (u0 u1 u2:Value) (n k cy:Nat):Prop where
 boxes:Dj w wr u0 u1 u2
 ex:∃S,Js X Y k S cy/\Bm wr (w.heap.size+1+1+1) 130 .u32 (S++List.replicate (n+1-k) 0)
theorem pA (w:World)(pa:Option Addr)(na ca:Nat)(A:List Nat)(pb:Option Addr)(nb cb:Nat)(B:List Nat)(hA:Row w .u32 pa na ca A)(wA:Words A)(hB:Row w .u32 pb nb cb B)(wB:Words B)(hs:na<1000000)(hle:nb<=na) :
  Calls Tryz.prog 121 #[.agg #[.slice pa na ca],.agg #[.slice pb nb cb]] w (Ib (val A+val B) w):=by
 have HA:=Ag hA.len;have HB:=Ag hB.len;have hlt:¬((na:Int)<nb):=by omega
 have hmk:∀w,(Instr.makeSlice 34 (.int .i64 ((na:Int)+1)) (.int .i64 ((na:Int)+1))).run Tryz.prog w=.ok (.slice (some ⟨w.heap.size,0,none⟩) (na+1) (na+1)) (w.alloc (.cells (zeros .u32 (na+1)) 130)) :=
  fun w=>Iy (na+1) (by omega) w
 go_enter Tryz.func121,Tryz.ntmps121;go_wp2
 go_loopw [6,26] (fun cy i wr=>∃k c:Nat,k<=na/\i=.int .i64 k/\cy=.int .u32 c/\nJ w wr A B (.slice pa na ca) (.slice pb nb cb) (.slice none 0 0) na k c) (fun _ i _=>na-(intOf i).toNat)
 case atStart=>
  refine⟨0,0,by omega,rfl,rfl,Dj.mk' _ _ _ _ _ _ _ _ _,[],Js.start A B,?_⟩;have:=Bm.zeros (((w.alloc (.cells #[.slice pa na ca] 36)).alloc (.cells #[.slice pb nb cb] 36)).alloc (.cells #[.slice none 0 0] 36)) 130 .u32 (na+1);simpa using this
 case round=>
  obtain⟨k,cy,hk,rfl,rfl,hrel⟩:=hrel;obtain⟨S,hS,hblk⟩:=hrel.ex;have hbx:=hrel.boxes;have c0:=hbx.c0;have c1:=hbx.c1;have hsz:=hbx.size
  by_cases hlt:k<na
  .have hsk:=hS.len;obtain⟨b,off,rfl,hb,hc⟩:=hA.pos (by omega);obtain⟨x,hx⟩:∃x,A.getD k 0=x:=⟨_,rfl⟩
   have hci:wr.cell? ⟨b,off+k,none⟩=some (.int .u32 (x:Nat)):=by
    rw[(Ca hbx.bel).1 _ _ hb];exact hc k x (by rw[<-hx,Dq];simp[show k<A.length by have:=HA.out;omega])
   obtain⟨y,hy⟩:∃y,B.getD k 0=y:=⟨_,rfl⟩
   have HX:=Ag hx;have HY:=Ag hy;have HSk:=Ag hsk;clear hc hx hy hsk;have hg0:=hblk.zero_cell HSk.out (by omega);have hgf:=hblk.free k
   go_wp2_with fail
   refine(Hg wr pb nb cb B k y (hB.below hbx.bel) (by omega) HY.out).mono ?_;rintro e w1 ⟨rfl,hb1⟩;have hy:y<4294967296:=by rw[<-HY.out];exact wB.get k
   have hx':x<4294967296:=by rw[<-HX.out];exact wA.get k
   have hcy:=hS.carry;have hg0':=((Ca hb1).1 _ k hblk.lt).trans hg0;have hgf':=((Ca hb1).2 _ k hblk.lt).trans hgf
   go_wp2_with fail
   refine(Mv x y cy _ hx' hy hcy).mono ?_;rintro e w2 ⟨rfl,rfl⟩;go_wp2;go_roundw
   case rel=>
    refine⟨k+1,_,by omega,by go_num,rfl,(hbx.later hb1).below (B:=w.heap.size+3) ((Bb _ _).setCell (by simp) _) (As _),_,by have:=hS.step wA wB;rw[HX.out,HY.out]at this;exact this,?_⟩;exact(Bm.last (hblk.below hb1 hblk.lt) HSk.out (by omega) _)
   case measure=>simp[intOf];omega
  .obtain rfl:k=na:=by omega
   have hsk:=Ag hS.len;have hg0:=hblk.zero_cell hsk.out (by omega);have hgf:=hblk.free k;have hbl:=Bm.last hblk hsk.out (As _) cy;have hbx2:=hbx.below (B:=w.heap.size+3) ((Bb _ wr).setCell (p:=⟨w.heap.size+1+1+1,k,none⟩) (by simp) (.int .u32 cy)) (As _);have hw2:Words (S++[cy]++List.replicate (k+1-(k+1)) 0):=(hS.words.snoc (by have:=hS.carry;omega)).append (Words.zeros _)
   go_wp2_with fail
   refine(Cw _ _ _ _ _ (hbl.row (by simp;exact hsk.out.symm) (As _) (by omega)) hw2).mono ?_;rintro e w1 ⟨p,n,c,rfl,hn,hb1,hp⟩;have hbx3:=hbx2.later hb1;have d2:=hbx3.c2;have e2:=hbx3.f2;have hp':∀q,p=some q->q.block≠w.heap.size+1+1:=by
    intro q hq;rcases hp with rfl|rfl
    .cases hq
    .cases hq;simp
   have hn':Gd w.heap.size p:=by
    intro q hq;rcases hp with rfl|rfl
    .cases hq
    .cases hq;simp;omega
   go_wp2;refine bodyPost_ret (v:=.agg #[.slice p n c]) (by simp[results,Tryz.results121,go_sem,d2]) rfl ⟨p,n,c,rfl,?_,?_,hn'⟩
   .have:=hn.setCell (a:=⟨w.heap.size+1+1,0,none⟩) hp' (.slice p n c);rw[Nat.sub_self,List.replicate_zero,List.append_nil,hS.last HA.out.symm (by rw[<-HB.out];exact hle)]at this
    exact this
   .exact hbx3.bel.setCell (by simp;omega) _
theorem mP (w:World)(pa:Option Addr)(na ca:Nat)(A:List Nat)(pb:Option Addr)(nb cb:Nat)(B:List Nat)(hA:Row w .u32 pa na ca A)(wA:Words A)(hB:Row w .u32 pb nb cb B)(wB:Words B)(hs:na<1000000)(hle:nb<na) :
  Calls Tryz.prog 121 #[.agg #[.slice pb nb cb],.agg #[.slice pa na ca]] w (Ib (val A+val B) w):=by
 have HA:=Ag hA.len;have HB:=Ag hB.len;have hlt:(nb:Int)<na:=by omega
 have hmk:∀w,(Instr.makeSlice 34 (.int .i64 ((na:Int)+1)) (.int .i64 ((na:Int)+1))).run Tryz.prog w=.ok (.slice (some ⟨w.heap.size,0,none⟩) (na+1) (na+1)) (w.alloc (.cells (zeros .u32 (na+1)) 130)) :=
  fun w=>Iy (na+1) (by omega) w
 go_enter Tryz.func121,Tryz.ntmps121;go_wp2
 go_loopw [6,26] (fun cy i wr=>∃k c:Nat,k<=na/\i=.int .i64 k/\cy=.int .u32 c/\nJ w wr A B (.slice pa na ca) (.slice pb nb cb) (.slice none 0 0) na k c) (fun _ i _=>na-(intOf i).toNat)
 case atStart=>
  refine⟨0,0,by omega,rfl,rfl,Dj.mk' _ _ _ _ _ _ _ _ _,[],Js.start A B,?_⟩;have:=Bm.zeros (((w.alloc (.cells #[.slice pa na ca] 36)).alloc (.cells #[.slice pb nb cb] 36)).alloc (.cells #[.slice none 0 0] 36)) 130 .u32 (na+1);simpa using this
 case round=>
  obtain⟨k,cy,hk,rfl,rfl,hrel⟩:=hrel;obtain⟨S,hS,hblk⟩:=hrel.ex;have hbx:=hrel.boxes;have c0:=hbx.c0;have c1:=hbx.c1;have hsz:=hbx.size
  by_cases hlt:k<na
  .have hsk:=hS.len;obtain⟨b,off,rfl,hb,hc⟩:=hA.pos (by omega);obtain⟨x,hx⟩:∃x,A.getD k 0=x:=⟨_,rfl⟩
   have hci:wr.cell? ⟨b,off+k,none⟩=some (.int .u32 (x:Nat)):=by
    rw[(Ca hbx.bel).1 _ _ hb];exact hc k x (by rw[<-hx,Dq];simp[show k<A.length by have:=HA.out;omega])
   obtain⟨y,hy⟩:∃y,B.getD k 0=y:=⟨_,rfl⟩
   have HX:=Ag hx;have HY:=Ag hy;have HSk:=Ag hsk;clear hc hx hy hsk;have hg0:=hblk.zero_cell HSk.out (by omega);have hgf:=hblk.free k
   go_wp2_with fail
   refine(Hg wr pb nb cb B k y (hB.below hbx.bel) (by omega) HY.out).mono ?_;rintro e w1 ⟨rfl,hb1⟩;have hy:y<4294967296:=by rw[<-HY.out];exact wB.get k
   have hx':x<4294967296:=by rw[<-HX.out];exact wA.get k
   have hcy:=hS.carry;have hg0':=((Ca hb1).1 _ k hblk.lt).trans hg0;have hgf':=((Ca hb1).2 _ k hblk.lt).trans hgf
   go_wp2_with fail
   refine(Mv x y cy _ hx' hy hcy).mono ?_;rintro e w2 ⟨rfl,rfl⟩;go_wp2;go_roundw
   case rel=>
    refine⟨k+1,_,by omega,by go_num,rfl,(hbx.later hb1).below (B:=w.heap.size+3) ((Bb _ _).setCell (by simp) _) (As _),_,by have:=hS.step wA wB;rw[HX.out,HY.out]at this;exact this,?_⟩;exact(Bm.last (hblk.below hb1 hblk.lt) HSk.out (by omega) _)
   case measure=>simp[intOf];omega
  .obtain rfl:k=na:=by omega
   have hsk:=Ag hS.len;have hg0:=hblk.zero_cell hsk.out (by omega);have hgf:=hblk.free k;have hbl:=Bm.last hblk hsk.out (As _) cy;have hbx2:=hbx.below (B:=w.heap.size+3) ((Bb _ wr).setCell (p:=⟨w.heap.size+1+1+1,k,none⟩) (by simp) (.int .u32 cy)) (As _);have hw2:Words (S++[cy]++List.replicate (k+1-(k+1)) 0):=(hS.words.snoc (by have:=hS.carry;omega)).append (Words.zeros _)
   go_wp2_with fail
   refine(Cw _ _ _ _ _ (hbl.row (by simp;exact hsk.out.symm) (As _) (by omega)) hw2).mono ?_;rintro e w1 ⟨p,n,c,rfl,hn,hb1,hp⟩;have hbx3:=hbx2.later hb1;have d2:=hbx3.c2;have e2:=hbx3.f2;have hp':∀q,p=some q->q.block≠w.heap.size+1+1:=by
    intro q hq;rcases hp with rfl|rfl
    .cases hq
    .cases hq;simp
   have hn':Gd w.heap.size p:=by
    intro q hq;rcases hp with rfl|rfl
    .cases hq
    .cases hq;simp;omega
   go_wp2;refine bodyPost_ret (v:=.agg #[.slice p n c]) (by simp[results,Tryz.results121,go_sem,d2]) rfl ⟨p,n,c,rfl,?_,?_,hn'⟩
   .have:=hn.setCell (a:=⟨w.heap.size+1+1,0,none⟩) hp' (.slice p n c);rw[Nat.sub_self,List.replicate_zero,List.append_nil,hS.last HA.out.symm (by rw[<-HB.out];omega)]at this
    exact this
   .exact hbx3.bel.setCell (by simp;omega) _
theorem Wq (w:World)(pa:Option Addr)(na ca N:Nat)(pb:Option Addr)(nb cb M:Nat)(hA:Aj w pa na ca N)(hB:Aj w pb nb cb M)(ha:na<1000000)(hb:nb<1000000) :
  Calls Tryz.prog 121 #[.agg #[.slice pa na ca],.agg #[.slice pb nb cb]] w (Ib (N+M) w):=by
 obtain⟨A,h1,h2,_,rfl⟩:=hA.ex;obtain⟨B,k1,k2,_,rfl⟩:=hB.ex
 by_cases hle:nb<=na
 .exact pA w pa na ca A pb nb cb B h1 h2 k1 k2 ha hle
 .rw[Nat.add_comm];exact mP w pb nb cb B pa na ca A k1 k2 h1 h2 hb (by omega)
structure Un (W X:List Nat) (t k:Nat) (S:List Nat) (cy:Nat):Prop where
 len:S.length=k
 words:Words S
 carry:cy<4294967296
 eq:val S+Ar k*cy=val (W.take k)*t+val (X.take k)
theorem Un.start (W X:List Nat)(t:Nat):Un W X t 0 [] 0:=⟨rfl,Words.nil,by omega,by simp[val]⟩
theorem Nj {x t:Nat}(hx:x<4294967296)(ht:t<4294967296):x*t<=18446744065119617025:=by
 have:=Nat.mul_le_mul (Nat.le_of_lt_succ (show x<4294967295+1 by omega)) (Nat.le_of_lt_succ (show t<4294967295+1 by omega));omega
theorem Un.step {W X:List Nat}{t k:Nat}{S:List Nat}{cy:Nat}(h:Un W X t k S cy)(hW:Words W)(hX:Words X)(ht:t<4294967296) :
  Un W X t (k+1) (S++[(cy+(W.getD k 0*t+X.getD k 0))%4294967296]) ((cy+(W.getD k 0*t+X.getD k 0))/4294967296):=by
 have h1:=hW.get k;have h2:=hX.get k;have h3:=h.carry;have h4:=Nj h1 ht;refine⟨by simp[h.len],h.words.snoc (Nat.mod_lt _ (by omega)),by omega,?_⟩;rw[Eu,h.len,Be,Be,Bw];have e:=h.eq;generalize W.getD k 0=x at *;generalize X.getD k 0=y at *;have hd:=Nat.div_add_mod (cy+(x*t+y)) 4294967296;generalize (cy+(x*t+y))/4294967296=q at *;generalize (cy+(x*t+y))%4294967296=r at *;generalize Ar k=b at *;have e2:b*r+4294967296*b*q=b*(cy+(x*t+y)):=by
  rw[<-hd,Nat.mul_add,Nat.mul_comm 4294967296 b,Nat.mul_assoc,Nat.add_comm]
 have e3:(val (W.take k)+b*x)*t=val (W.take k)*t+b*(x*t):=by rw[Nat.add_mul,Nat.mul_assoc]
 simp only[Nat.mul_add]at e2;omega
def Kn (W X:List Nat)(t:Nat):Nat->List Nat×Nat
 | 0=>([],0)
 | k+1=>((Kn W X t k).1++[((Kn W X t k).2+(W.getD k 0*t+X.getD k 0))%4294967296],((Kn W X t k).2+(W.getD k 0*t+X.getD k 0))/4294967296)
theorem Pf {W X:List Nat}{t:Nat}(hW:Words W)(hX:Words X)(ht:t<4294967296):∀k,Un W X t k (Kn W X t k).1 (Kn W X t k).2
 | 0=>Un.start W X t
 | k+1=>(Pf hW hX ht k).step hW hX ht
theorem Bm.mid {w:World}{g:Nat}{e:TypeId}{k:IntKind}{xs S:List Nat}{o i:Nat}(h:Bm w g e k (xs.take o++S++xs.drop (o+i)))(hs:S.length=i)(ho:o+i<xs.length)(x:Nat) :
  w.cell? ⟨g,o+i,none⟩=some (.int k (xs.getD (o+i) 0:Nat))/\Bm (w.setCell ⟨g,o+i,none⟩ (.int k x)) g e k (xs.take o++(S++[x])++xs.drop (o+(i+1))):=by
 have hl:(xs.take o++S).length=o+i:=by simp;omega
 have hd:xs.drop (o+i)=xs.getD (o+i) 0::xs.drop (o+(i+1)):=by
  rw[List.drop_eq_getElem_cons ho,Dq];simp[ho,Nat.add_assoc]
 rw[hd]at h
 constructor
 .refine h.cell ?_;rw[List.getElem?_append_right (by omega),hl];simp
 .have:=h.set (o+i) x;rw[List.set_append_right _ _ (by omega),hl,Nat.sub_self,List.set_cons_zero]at this
  rw[show xs.take o++(S++[x])++xs.drop (o+(i+1))=xs.take o++S++x::xs.drop (o+(i+1)) by simp];exact this
theorem grownBy_refl (w:World)(r:Option Nat):w.grownBy w r:=⟨rfl,rfl,rfl,As _,fun _ _ _=>rfl⟩
theorem grownBy_trans {a b c:World}{r:Option Nat}(h:a.grownBy b r)(k:b.grownBy c r):a.grownBy c r :=
 ⟨k.os.trans h.os,k.tape.trans h.tape,k.output.trans h.output,Di h.size k.size,fun i hi hr=>(k.block i (Eg hi h.size) hr).trans (h.block i hi hr)⟩
theorem grownBy_setCell (w:World)(g i:Nat)(u:Value):w.grownBy (w.setCell ⟨g,i,none⟩ u) (some g) :=
 ⟨rfl,rfl,rfl,by simp,fun k _ hk=>heap_setCell_other w ⟨g,i,none⟩ k u (fun e=>hk (by simp[e]))⟩
theorem Row.grown {w w':World}{k:IntKind}{p:Option Addr}{n c:Nat}{xs:List Nat}{g:Nat}(h:Row w k p n c xs)(hg:w.grownBy w' (some g))(hp:∀q,p=some q->q.block≠g):Row w' k p n c xs:=by
 refine⟨h.len,h.cap,h.max,?_⟩;rcases h.at_ with h1|⟨b,off,h1,h2,h3⟩
 .exact .inl h1
 .have hne:=hp _ h1;refine .inr ⟨b,off,h1,Eg h2 hg.size,fun i x hx=>?_⟩;exact hg.cell (h3 i x hx) (fun e=>hne (Option.some.inj e))
def jB (W xs:List Nat)(t o g:Nat)(e:TypeId)(w:World)(en:Ending)(w':World):Prop :=
 en=.returned (.int .u32 ((Kn W (xs.drop o) t W.length).2:Nat))/\Bm w' g e .u32 (xs.take o++(Kn W (xs.drop o) t W.length).1++xs.drop (o+W.length))/\w.grownBy w' (some g)/\w'.heap.size=w.heap.size
theorem Qr (w:World)(g o n c:Nat)(xs:List Nat)(q:Option Addr)(m d:Nat)(W:List Nat)(t:Nat)(hg:Bm w g 130 .u32 xs)(hx:Words xs)(hW:Row w .u32 q m d W)(wW:Words W)(ht:t<4294967296)(hq:∀a,q=some a->a.block≠g)(hm:m<1000000)(ho:o+m<=xs.length)(hn:m<=n)(hc:n<=c)(hc2:c<9223372036854775807) :
  Calls Tryz.prog 177 #[.slice (some ⟨g,o,none⟩) n c,.slice q m d,.int .u32 t] w (jB W xs t o g 130 w):=by
 have HW:=Ag hW.len;go_enter Tryz.func177,Tryz.ntmps177;go_wp2
 go_loopw [7,12] (fun cy i wr=>∃k y:Nat,∃S,k<=m/\i=.int .i64 k/\cy=.int .u64 y/\Kn W (xs.drop o) t k=(S,y)/\Bm wr g 130 .u32 (xs.take o++S++xs.drop (o+k))/\w.grownBy wr (some g)/\wr.heap.size<=w.heap.size) (fun _ i _=>m-(intOf i).toNat)
 case atStart=>exact⟨0,0,[],by omega,rfl,rfl,rfl,by rw[List.append_nil,Nat.add_zero,List.take_append_drop];exact hg,grownBy_refl _ _,As _⟩
 case round=>
  obtain⟨k,y,S,hk,rfl,rfl,hS,hblk,hgr,hsz⟩:=hrel;have hst:=Pf wW (hx.drop o) ht k;rw[hS]at hst
  have hy:=hst.carry;have hsl:=hst.len;simp only at hy hsl;have HS:=Ag hS;have HSL:=Ag hsl;clear hS hst hsl
  by_cases hkm:k<m
  .obtain⟨b,off,rfl,hb,hcell⟩:=(hW.grown hgr hq).pos (by omega);obtain⟨x,hxk⟩:∃x,W.getD k 0=x:=⟨_,rfl⟩
   obtain⟨z,hz⟩:∃z,xs.getD (o+k) 0=z:=⟨_,rfl⟩
   have hci:wr.cell? ⟨b,off+k,none⟩=some (.int .u32 (x:Nat)):=hcell k x (by rw[<-hxk,Dq];simp[show k<W.length by have:=HW.out;omega]);have hmid:=fun u=>Bm.mid hblk HSL.out (by omega) u
   have hcz:=(hmid 0).1;rw[hz]at hcz
   have hfz:=hblk.free (o+k);have hx1:x<4294967296:=by rw[<-hxk];exact wW.get k
   have hz1:z<4294967296:=by rw[<-hz];exact hx.get _
   have hp:=Nj hx1 ht;have hp':(x:Int)*t<=18446744065119617025:=by rw[<-Int.natCast_mul];omega
   have hp0:0<=(x:Int)*t:=by rw[<-Int.natCast_mul];omega
   have HX:=Ag hxk;have HZ:=Ag hz;have HM:=Ag (fun u=>(hmid u).2);clear hcell hxk hz hmid hp;go_wp2;go_roundw
   case rel=>
    have hzd:(xs.drop o).getD k 0=z:=by rw[Dq,List.getElem?_drop,<-Dq];exact HZ.out
    refine⟨k+1,(y+(x*t+z))/4294967296,S++[(y+(x*t+z))%4294967296],by omega,by go_num,?_,by rw[Kn,HS.out,HX.out,hzd],?_,?_,by simpa using hsz⟩
    .exact congrArg (Value.int .u64) (by rw[<-Int.natCast_mul];omega)
    .have:=HM.out ((y+(x*t+z))%4294967296);have e:(((y+(x*t+z))%4294967296:Nat):Int)=((y:Int)+((x:Int)*t+z))%4294967296:=by rw[<-Int.natCast_mul];omega
     rw[e]at this
     exact this
    .exact grownBy_trans hgr (grownBy_setCell _ _ _ _)
   case measure=>simp[intOf];omega
  .have hkm':m<=k:=by omega
   have hkl:k=W.length:=by have:=HW.out;omega
   have HK:=Ag hkl;clear hkl;go_wp2;go_ret;refine⟨?_,by rw[<-HK.out,HS.out];exact hblk,hgr,Nat.le_antisymm hsz hgr.size⟩;rw[<-HK.out,HS.out];exact congrArg (fun z=>Ending.returned (.int .u32 z)) (by omega)
open Go Go.RowKit Go.Proofs.YtnbmfaihlefgfaaGreatDoor.Flow
structure Ot (A B:List Nat) (k:Nat) (X:List Nat):Prop where
 len:X.length=A.length+B.length
 words:Words X
 eq:val X=val (A.take k)*val B
 rest:X.drop (k+B.length)=List.replicate (A.length-k) 0
theorem Ot.start (A B:List Nat):Ot A B 0 (List.replicate (A.length+B.length) 0) :=
 ⟨by simp,Words.zeros _,by rw[Kh];simp[val],by simp⟩
def Hp (A B X:List Nat)(k:Nat):List Nat:=X.take k++(Kn B (X.drop k) (A.getD k 0) B.length).1++X.drop (k+B.length)
def Oh (A B X:List Nat)(k:Nat):Nat:=(Kn B (X.drop k) (A.getD k 0) B.length).2
theorem Ot.step {A B X:List Nat}{k:Nat}(h:Ot A B k X)(hA:Words A)(hB:Words B)(hk:k<A.length):Ot A B (k+1) ((Hp A B X k).set (k+B.length) (Oh A B X k)):=by
 have hs:=Pf hB (h.words.drop k) (hA.get k) B.length;unfold Hp Oh;generalize (Kn B (X.drop k) (A.getD k 0) B.length).1=S at *;generalize (Kn B (X.drop k) (A.getD k 0) B.length).2=c at *;have hl:=h.len;have hx:X=X.take k++(X.drop k).take B.length++X.drop (k+B.length):=by
  rw[List.append_assoc,<-List.drop_drop,List.take_append_drop,List.take_append_drop]
 have hpl:(X.take k).length=k:=by simp;omega
 have hml:((X.drop k).take B.length).length=B.length:=by simp;omega
 have e1:val X=val (X.take k)+Ar k*val ((X.drop k).take B.length):=by
  conv=>lhs;rw[hx]
  rw[val_append,val_append,h.rest,Kh,hpl];simp
 have e2:=hs.eq;rw[List.take_of_length_le (As _)]at e2
 have e3:X.take k++S++X.drop (k+B.length)=(X.take k++S)++List.replicate (A.length-k-1+1) 0:=by
  rw[h.rest];congr 2;omega
 have hsl:(X.take k++S).length=k+B.length:=by simp[hs.len];omega
 have e4:(X.take k++S++X.drop (k+B.length)).set (k+B.length) c=X.take k++S++[c]++List.replicate (A.length-k-1) 0:=by
  rw[e3,<-hsl,Nf]
 rw[e4];refine⟨?_,?_,?_,?_⟩
 .simp[hs.len];omega
 .exact(((h.words.take k).append hs.words).snoc hs.carry).append (Words.zeros _)
 .rw[val_append,Kh,Eu,hsl,val_append,hpl,Be,Nat.add_mul,<-h.eq,e1];have hb:Ar (k+B.length)=Ar k*Ar B.length:=by unfold Ar;rw[Nat.pow_add]
  rw[hb];generalize Ar k=b at *;generalize Ar B.length=b2 at *;generalize A.getD k 0=x at *;have e5:b*(val S+b2*c)=b*(val B*x+val ((X.drop k).take B.length)):=by rw[e2]
  rw[Nat.mul_add,Nat.mul_add]at e5
  have e6:b*x*val B=b*(val B*x):=by rw[Nat.mul_assoc,Nat.mul_comm x]
  have e7:b*b2*c=b*(b2*c):=Nat.mul_assoc _ _ _;omega
 .rw[List.drop_append_of_le_length (by simp[hs.len];omega),List.drop_of_length_le (by simp[hs.len];omega)];simp;omega
theorem oF (w:World)(pa:Option Addr)(na ca:Nat)(A:List Nat)(pb:Option Addr)(nb cb:Nat)(B:List Nat)(hA:Row w .u32 pa na ca A)(wA:Words A)(hB:Row w .u32 pb nb cb B)(wB:Words B)(hs:na<1000000)(hsb:nb<1000000) :
  Calls Tryz.prog 122 #[.agg #[.slice pa na ca],.agg #[.slice pb nb cb]] w (Ib (val A*val B) w):=by
 have HA:=Ag hA.len;have HB:=Ag hB.len;have hmk:∀w,(Instr.makeSlice 34 (.int .i64 ((na:Int)+nb)) (.int .i64 ((na:Int)+nb))).run Tryz.prog w=.ok (.slice (some ⟨w.heap.size,0,none⟩) (na+nb) (na+nb)) (w.alloc (.cells (zeros .u32 (na+nb)) 130)) :=
  fun w=>Iy (na+nb) (by omega) w
 go_enter Tryz.func122,Tryz.ntmps122;go_wp2
 go_loopw [19] (fun i wr=>∃k:Nat,∃X,k<=na/\i=.int .i64 k/\Dj w wr (.slice pa na ca) (.slice pb nb cb) (.slice none 0 0)/\Ot A B k X/\Bm wr (w.heap.size+1+1+1) 130 .u32 X) (fun i _=>na-(intOf i).toNat)
 case atStart=>
  refine⟨0,_,by omega,rfl,Dj.mk' _ _ _ _ _ _ _ _ _,Ot.start A B,?_⟩;have:=Bm.zeros (((w.alloc (.cells #[.slice pa na ca] 36)).alloc (.cells #[.slice pb nb cb] 36)).alloc (.cells #[.slice none 0 0] 36)) 130 .u32 (na+nb);rw[<-HA.out,<-HB.out];simpa using this
 case round=>
  obtain⟨k,X,hk,rfl,hbx,hX,hblk⟩:=hrel;have c0:=hbx.c0;have c1:=hbx.c1;have c2:=hbx.c2;have f2:=hbx.f2
  by_cases hkn:k<na
  .obtain⟨b,off,rfl,hb,hc⟩:=hA.pos (by omega);obtain⟨x,hx⟩:∃x,A.getD k 0=x:=⟨_,rfl⟩
   have hci:wr.cell? ⟨b,off+k,none⟩=some (.int .u32 (x:Nat)):=by
    rw[(Ca hbx.bel).1 _ _ hb];exact hc k x (by rw[<-hx,Dq];simp[show k<A.length by have:=HA.out;omega])
   have HX:=Ag hx;clear hc hx;go_wp2;refine Ah (by kernel_rfl) (by kernel_rfl)
    [some (.slice (some ⟨w.heap.size+1+1+1,0,none⟩) (na+nb) (na+nb)),some (.int .i64 k),some (.pointer (some ⟨w.heap.size+1,0,none⟩)),some (.slice pb nb cb),some (.int .i64 nb),some (.int .i64 ((k:Int)+nb)),
     some (.slice (some ⟨w.heap.size+1+1+1,0,none⟩) (na+nb) (na+nb)),some (.int .i64 k),some (.slice (some ⟨w.heap.size+1+1+1,k,none⟩) (na+nb-k) (na+nb-k)),some (.pointer (some ⟨w.heap.size+1,0,none⟩)),
     some (.slice pb nb cb),some (.int .u32 x),none,some (.pointer (some ⟨w.heap.size+1+1+1,k+nb,none⟩)),none]
    [false,false,false,false,false,false,false,false,false,false,false,false,true,false,true] rfl
    (fun _ _=>True)
    (fun D w'=>Dj w w' (.slice (some ⟨b,off,none⟩) na ca) (.slice pb nb cb) (.slice none 0 0)/\Bm w' (w.heap.size+1+1+1) 130 .u32 (if D 14 then (Hp A B X k).set (k+B.length) (Oh A B X k) else if D 12 then Hp A B X k else X))
    (fun i v _=>i=12->v=.int .u32 (Oh A B X k:Nat))
    (fun _ _ _ _ h _=>h) ⟨hbx.below (Bb _ _).drew (As _),hblk⟩ ?_ ?_
   .have hk1:(k:Int)<=(na:Int)+nb:=by omega
    have hk2:¬na+nb=k:=by omega
    have hk3:(k:Int)+nb<(na:Int)+nb:=by omega
    have hk4:IntKind.i64.wrap ((k:Int)+nb)=(k:Int)+nb:=IntWalk.i64_in _ (by omega);have hk5:0<=(k:Int)+nb:=by omega
    have hk6:((k:Int)+nb).toNat=k+nb:=by omega
    have hx4:x<4294967296:=by rw[<-HX.out];exact wA.get k
    have hml:(Hp A B X k).length=na+nb:=by
     have h1:=(Pf wB (hX.words.drop k) (wA.get k) B.length).len;have h2:=hX.len;have h3:=HA.out;have h4:=HB.out;rw[Hp,List.length_append,List.length_append,h1,List.length_take,List.length_drop];omega
    simp only[Ba,Nat.reduceAdd];refine⟨?_,?_,?_,?_,?_,?_,?_,?_,?_,?_,?_,?_,?_,?_,?_,trivial⟩
    case refine_13=>
     intro D sp w' hD hW hdp ⟨hbx',hblk'⟩;have h14:D 14=false:=hW 14 (mq (by kernel_rfl));rw[h14,hD]at hblk'
     simp only[Bool.false_eq_true,if_false]at hblk';refine Ac (w1:=w') (f := 177) (args:=#[.slice (some ⟨w.heap.size+1+1+1,k,none⟩) (na+nb-k) (na+nb-k),.slice pb nb cb,.int .u32 x]) rfl (by simp[Act.eval,Act.put,go_sem]) ?_;refine(Qr w' _ k _ _ X pb nb cb B x hblk' hX.words (hB.below hbx'.bel) wB hx4 (fun a ha=>by have:=hB.lt a ha;omega) hsb (by have:=hX.len;have:=HA.out;have:=HB.out;omega) (by omega) (As _) (by omega)).mono ?_;rintro e w2 ⟨he,hb2,hg2,hs2⟩;refine⟨_,he,trivial,fun _=>?_,hbx'.grown hg2 (by omega),?_⟩
     .rw[Oh,HX.out]
     .simp only[h14,Bool.false_or,decide_true,Bool.or_true,if_true];rw[Hp,HX.out];exact hb2
    case refine_15=>
     intro D sp w' hD hW hdp ⟨hbx',hblk'⟩;have hdp12:=hdp 12 (mq (by kernel_rfl));have h12:=hdp12.1;have hs12':=hdp12.2 rfl;rw[h12,hD]at hblk'
     simp only[Bool.false_eq_true,if_false,if_true]at hblk';have hcl:w'.cell? ⟨w.heap.size+1+1+1,k+nb,none⟩=some (.int .u32 ((Hp A B X k).getD (k+nb) 0:Nat)):=hblk'.cell (by rw[Dq];simp[show k+nb<(Hp A B X k).length by omega]);have hfr:=hblk'.free (k+nb)
     (with_reducible refine Aq (w1:=w'.setCell ⟨w.heap.size+1+1+1,k+nb,none⟩ (.int .u32 (Oh A B X k:Nat))) ?_ ?_ ?_)
     .simp only[Region.wanted]
     .simp[execOp,Act.eval,Act.put,go_sem,hs12',hcl,hfr]
     .refine⟨trivial,fun h=>by simp at h,hbx'.below (B:=w.heap.size+3) ((Bb _ _).setCell (by simp) _) (As _),?_⟩;simp only[decide_true,Bool.or_true,if_true];rw[<-HB.out];exact hblk'.set _ _
    all_goals
     clear c0 c1 c2 f2;intro D sp w' hD hW hdp ⟨hbx',hblk'⟩;have c1:=hbx'.c1;simp[asked,Region.wanted,Oper.gives,execOp,Act.eval,Act.put,go_sem,c1,hk1,hk2,hk3,hk4,hk5,hk6]
   .intro sp w' hsp ⟨hbx',hblk'⟩;simp only[An,Nat.reduceAdd];have hblk2:Bm w' (w.heap.size+1+1+1) 130 .u32 ((Hp A B X k).set (k+B.length) (Oh A B X k)):=hblk';clear hblk' hsp
    go_simp
    go_wp2;go_roundw
    case rel=>
     refine⟨k+1,_,by omega,by go_num,hbx',hX.step wA wB (by have:=HA.out;omega),hblk2⟩
    case measure=>simp[intOf];omega
  .have hkn':na<=k:=by omega
   have hrow:=hblk.row (n:=na+nb) (c:=na+nb) (by have:=hX.len;have:=HA.out;have:=HB.out;omega) (As _) (by omega)
   go_wp2_with fail
   refine(Cw _ _ _ _ _ hrow hX.words).mono ?_;rintro e w2 ⟨p,n,c,rfl,hn,hb2,hp⟩;have hbx3:=hbx.later hb2;have k2:=hbx3.c2;have e2:=hbx3.f2;have hn':Gd (w.heap.size+3) p:=by
    intro q hq;rcases hp with rfl|rfl
    .cases hq
    .cases hq;simp
   have hv:val X=val A*val B:=by
    rw[hX.eq,List.take_of_length_le (by have:=HA.out;omega)]
   have HV:=Ag hv;clear hv;go_wp2;refine bodyPost_ret (v:=.agg #[.slice p n c]) (by simp[results,Tryz.results122,go_sem,k2]) rfl ⟨p,n,c,rfl,?_,?_,hn'.mono (by omega)⟩
   .rw[<-HV.out];exact hn.setCell (a:=⟨w.heap.size+1+1,0,none⟩) (hn'.ne (show w.heap.size+1+1<w.heap.size+3 by omega)) (.slice p n c)
   .exact hbx3.bel.setCell (by simp;omega) _
theorem fY (w:World)(pa:Option Addr)(na ca N:Nat)(pb:Option Addr)(nb cb M:Nat)(hA:Aj w pa na ca N)(hB:Aj w pb nb cb M)(ha:na<1000000)(hb:nb<1000000) :
  Calls Tryz.prog 122 #[.agg #[.slice pa na ca],.agg #[.slice pb nb cb]] w (Ib (N*M) w):=by
 obtain⟨A,h1,h2,_,rfl⟩:=hA.ex;obtain⟨B,k1,k2,_,rfl⟩:=hB.ex;exact oF w pa na ca A pb nb cb B h1 h2 k1 k2 ha hb
end Go.Proofs.YtnbmfaihlefgfaaGreatDoor
