/- Primes, and that a step that holds is of a prime (Pocklington). Of no program. -/
import Derived.Test.YtokhckjemidbpaaGreatDoorRows
import Derived.WalkKit
import Derived.WalkSpells
import Derived.WalkLawsBesides
import Derived.ProofKit
import Derived.OpenShut
import Derived.Handy
import Derived.Lib.Hide
set_option maxRecDepth 1000000
set_option maxHeartbeats 16000000
set_option linter.all false
namespace Go.Proofs.YtokhckjemidbpaaGreatDoor
open Go Go.RowKit
structure Row (w:World) (k:IntKind) (p:Option Addr) (n c:Nat) (xs:List Nat):Prop where
 len:n=xs.length
 cap:n<=c
 max:c<=9223372036854775807
 at_:(p=none/\n=0/\c=0) ∨ ∃b off,p=some ⟨b,off,none⟩/\b<w.heap.size/\∀(i x:Nat),xs[i]? = some x->w.cell? ⟨b,off+i,none⟩=some (.int k (x:Int))
theorem Row.below {w w':World}{k:IntKind}{p:Option Addr}{n c:Nat}{xs:List Nat}(h:Row w k p n c xs)(hb:Below w.heap.size w w'):Row w' k p n c xs:=by
 refine⟨h.len,h.cap,h.max,?_⟩;rcases h.at_ with h1|⟨b,off,h1,h2,h3⟩
 .exact .inl h1
 .refine .inr ⟨b,off,h1,Nat.lt_of_lt_of_le h2 hb.size,fun i x hx=>?_⟩;rw[hb.cell (p:=⟨b,off+i,none⟩) h2];exact h3 i x hx
theorem Row.nil (w:World)(k:IntKind):Row w k none 0 0 []:=⟨rfl,Nat.le_refl _,by omega,.inl ⟨rfl,rfl,rfl⟩⟩
theorem Row.pos {w:World}{k:IntKind}{p:Option Addr}{n c:Nat}{xs:List Nat}(h:Row w k p n c xs)(hn:0<n) :
  ∃b off,p=some ⟨b,off,none⟩/\b<w.heap.size/\∀(i x:Nat),xs[i]? = some x->w.cell? ⟨b,off+i,none⟩=some (.int k (x:Int)):=by
 rcases h.at_ with h1|h1
 .omega
 .exact h1
theorem Row.take {w:World}{k:IntKind}{p:Option Addr}{n c:Nat}{xs:List Nat}(h:Row w k p n c xs)(m:Nat)(hm:m<=n):Row w k p m c (xs.take m):=by
 have hl:=h.len;refine⟨by simp;omega,Nat.le_trans hm h.cap,h.max,?_⟩;rcases h.at_ with ⟨h1,h2,h3⟩|⟨b,off,h1,h2,h3⟩
 .exact .inl ⟨h1,by omega,h3⟩
 .refine .inr ⟨b,off,h1,h2,fun i x hx=>h3 i x ?_⟩;rw[List.getElem?_take]at hx
  split at hx
  .exact hx
  .cases hx
def Words (xs:List Nat):Prop:=∀x∈xs,x<4294967296
def val:List Nat->Nat
 | []=>0
 | x::xs=>x+4294967296*val xs
def Al (k:Nat):Nat:=4294967296^k
theorem Fh:Al 0=1:=rfl
theorem Bk (k:Nat):Al (k+1)=4294967296*Al k:=by unfold Al;rw[Nat.pow_succ,Nat.mul_comm]
theorem Fs (k:Nat):0<Al k:=Nat.pow_pos (by omega)
theorem val_append (xs ys:List Nat):val (xs++ys)=val xs+Al xs.length*val ys:=by
 induction xs with
 | nil=>simp[val,Fh]
 | cons x xs ih=>
  simp only[List.cons_append,val,ih,List.length_cons,Bk,Nat.mul_add,Nat.mul_assoc];omega
theorem Da (xs:List Nat)(x:Nat):val (xs++[x])=val xs+Al xs.length*x:=by
 rw[val_append];simp[val]
theorem Hb (n:Nat):val (List.replicate n 0)=0:=by
 induction n with
 | zero=>rfl
 | succ n ih=>simp[List.replicate_succ,val,ih]
theorem Words.lt {xs:List Nat}(h:Words xs):val xs<Al xs.length:=by
 induction xs with
 | nil=>simp[val,Fh]
 | cons x xs ih=>
  have h1:=ih fun y hy=>h y (by simp[hy])
  have h2:=h x (by simp);simp only[val,List.length_cons,Bk];have:4294967296*val xs+4294967296<=4294967296*Al xs.length:=by
   have:=Nat.mul_le_mul_left 4294967296 (Nat.succ_le_of_lt h1);simp only[Nat.succ_eq_add_one,Nat.mul_add,Nat.mul_one]at this;exact this
  omega
theorem Words.nil:Words []:=by simp[Words]
theorem Words.append {xs ys:List Nat}(h:Words xs)(k:Words ys):Words (xs++ys):=by
 intro x hx;rcases List.mem_append.1 hx with h1|h1
 .exact h x h1
 .exact k x h1
theorem Words.snoc {xs:List Nat}{x:Nat}(h:Words xs)(k:x<4294967296):Words (xs++[x]):=h.append (by intro y hy;simp at hy;omega)
theorem Words.take {xs:List Nat}(h:Words xs)(n:Nat):Words (xs.take n):=fun x hx=>h x (List.mem_of_mem_take hx)
theorem Words.drop {xs:List Nat}(h:Words xs)(n:Nat):Words (xs.drop n):=fun x hx=>h x (List.mem_of_mem_drop hx)
theorem Words.zeros (n:Nat):Words (List.replicate n 0):=by intro x hx;have:=(List.mem_replicate.1 hx).2;omega
theorem Words.get {xs:List Nat}(h:Words xs)(i:Nat):xs.getD i 0<4294967296:=by
 rw[List.getD_eq_getElem?_getD];rcases Nat.lt_or_ge i xs.length with h1|h1
 .simp[h1];exact h _ (List.getElem_mem _)
 .simp[List.getElem?_eq_none h1]
theorem Fw (xs:List Nat)(k:Nat)(h:k<xs.length):xs.take (k+1)=xs.take k++[xs.getD k 0]:=by
 rw[List.take_succ_eq_append_getElem h];simp[h]
theorem Qa (xs:List Nat)(k:Nat)(h:k<xs.length):val (xs.take (k+1))=val (xs.take k)+Al k*xs.getD k 0:=by
 rw[Fw xs k h,Da];simp[Nat.min_eq_left (Nat.le_of_lt h)]
theorem Ar (xs:List Nat)(k:Nat):val (xs.take (k+1))=val (xs.take k)+Al k*xs.getD k 0:=by
 rcases Nat.lt_or_ge k xs.length with h|h
 .exact Qa xs k h
 .rw[List.take_of_length_le (by omega),List.take_of_length_le h];simp[List.getElem?_eq_none h]
def Bi (w:World)(g:Nat)(e:TypeId)(k:IntKind)(xs:List Nat):Prop:=w.heap[g]? = some (.cells (xs.map fun(x:Nat)=>Value.int k x).toArray e (0,0))
theorem Bi.lt {w:World}{g:Nat}{e:TypeId}{k:IntKind}{xs:List Nat}(h:Bi w g e k xs):g<w.heap.size:=(Array.getElem?_eq_some_iff.1 h).1
theorem Bi.cell {w:World}{g:Nat}{e:TypeId}{k:IntKind}{xs:List Nat}(h:Bi w g e k xs){i x:Nat}(hx:xs[i]? = some x):w.cell? ⟨g,i,none⟩=some (.int k x):=by
 unfold Bi at h;simp[World.cell?,h,hx]
theorem Bi.free {w:World}{g:Nat}{e:TypeId}{k:IntKind}{xs:List Nat}(h:Bi w g e k xs)(i:Nat):w.frozen? ⟨g,i,none⟩=false:=by
 unfold Bi at h;simp[World.frozen?,h]
theorem Bi.below {w w':World}{g:Nat}{e:TypeId}{k:IntKind}{xs:List Nat}(h:Bi w g e k xs){B:Nat}(hb:Below B w w')(hg:g<B):Bi w' g e k xs:=by
 unfold Bi at *;rw[hb.block g hg];exact h
theorem Bi.set {w:World}{g:Nat}{e:TypeId}{k:IntKind}{xs:List Nat}(h:Bi w g e k xs)(i x:Nat):Bi (w.setCell ⟨g,i,none⟩ (.int k x)) g e k (xs.set i x):=by
 unfold Bi at *;simp only[World.setCell,Array.getElem?_modify,if_true,h,Option.map_some];simp[List.map_set]
theorem Bi.other {w:World}{g:Nat}{e:TypeId}{k:IntKind}{xs:List Nat}(h:Bi w g e k xs){a:Addr}(ha:g≠a.block)(u:Value):Bi (w.setCell a u) g e k xs:=by
 unfold Bi at *;rw[Below.heap_setCell _ _ _ _ ha];exact h
theorem Bi.alloc {w:World}{g:Nat}{e:TypeId}{k:IntKind}{xs:List Nat}(h:Bi w g e k xs)(o:Obj):Bi (w.alloc o) g e k xs :=
 h.below ((Below.refl w.heap.size w).alloc (Nat.le_refl _) o) h.lt
theorem Lp (k:IntKind)(xs:List Nat):((xs.map fun(x:Nat)=>Value.int k x).toArray).all (·.oneCell')=true:=by
 rw[List.all_toArray,List.all_eq_true];intro v hv;obtain⟨x,_,rfl⟩:=List.mem_map.1 hv;rfl
theorem Bi.row {w:World}{g:Nat}{e:TypeId}{k:IntKind}{xs:List Nat}(h:Bi w g e k xs){n c:Nat}(hn:n=xs.length)(hc:n<=c)(hm:c<=9223372036854775807):Row w k (some ⟨g,0,none⟩) n c xs :=
 ⟨hn,hc,hm,.inr ⟨g,0,rfl,h.lt,fun i x hx=>by rw[Nat.zero_add];exact h.cell hx⟩⟩
def zeros (k:IntKind)(n:Nat):Array Value:=((List.replicate n 0).map fun(x:Nat)=>Value.int k x).toArray
theorem Lc (k:IntKind)(n:Nat):madeCells #[Value.int k 0] n=zeros k n:=by
 unfold zeros;rw[List.map_replicate];have h:=toList_madeCells_one (Value.int k 0) n;rw[<-Array.toArray_toList (xs:=madeCells #[Value.int k 0] n),h];rfl
theorem Bi.zeros (w:World)(e:TypeId)(k:IntKind)(n:Nat):Bi (w.alloc (.cells (zeros k n) e)) w.heap.size e k (List.replicate n 0):=by
 unfold Bi;exact heap_alloc_new w _
def Au (xs:List Nat):Prop:=∀x∈xs,x<256
theorem Au.take {xs:List Nat}(h:Au xs)(n:Nat):Au (xs.take n):=fun x hx=>h x (List.mem_of_mem_take hx)
theorem Au.reverse {xs:List Nat}(h:Au xs):Au xs.reverse:=fun x hx=>h x (List.mem_reverse.1 hx)
theorem Au.get {xs:List Nat}(h:Au xs)(i:Nat):xs.getD i 0<256:=by
 rw[List.getD_eq_getElem?_getD];rcases Nat.lt_or_ge i xs.length with h1|h1
 .simp[h1];exact h _ (List.getElem_mem _)
 .simp[List.getElem?_eq_none h1]
theorem Tryz.info_u8:(Tryz.prog.info? 5).map (fun i=>(i.zero,i.size,i.bytes))=some (some (.int .u8 0),1,1):=by kernel_rfl
theorem Sg (n:Nat)(h:n<=4294967296)(w:World):(Instr.makeSlice 23 (.int .i64 n) (.int .i64 n)).run Tryz.prog w =
  .ok (.slice (some ⟨w.heap.size,0,none⟩) n n) (w.alloc (.cells (zeros .u8 n) 5)):=by
 obtain⟨i,hi,hz,hs,hb⟩:=info_parts Tryz.info_u8;have:=run_make (P:=Tryz.prog) w 23 5 i (.int .u8 0) Tryz.underlying23 hi hz .i64 .i64 n n (by omega) (Int.le_refl _) (by rw[hb];omega) (by omega);simp only[Int.toNat_natCast,hs,Nat.mul_one]at this;rw[this,<-Lc];rfl
theorem Cd {B:Nat}{W w1:World}(hb:Below B W w1):(∀b o,b<B->w1.cell? ⟨b,o,none⟩=W.cell? ⟨b,o,none⟩)/\(∀b o,b<B->w1.frozen? ⟨b,o,none⟩=W.frozen? ⟨b,o,none⟩) :=
 ⟨fun b o h=>hb.cell (p:=⟨b,o,none⟩) h,fun b o h=>hb.frozen (p:=⟨b,o,none⟩) h⟩
theorem Row.setCell {w:World}{k:IntKind}{p:Option Addr}{n c:Nat}{xs:List Nat}(h:Row w k p n c xs){a:Addr}(ha:∀q,p=some q->q.block≠a.block)(u:Value):Row (w.setCell a u) k p n c xs:=by
 refine⟨h.len,h.cap,h.max,?_⟩;rcases h.at_ with h1|⟨b,off,h1,h2,h3⟩
 .exact .inl h1
 .refine .inr ⟨b,off,h1,by simpa using h2,fun i x hx=>?_⟩;have hne:=ha _ h1;rw[World.cell?_setCell_other _ _ _ _ (fun e=>hne (by rw[e]))];exact h3 i x hx
def El (B:Nat)(p:Option Addr):Prop:=∀q,p=some q->B<=q.block
theorem El.none (B:Nat):El B none:=fun _ h=>by cases h
theorem El.mono {B B':Nat}{p:Option Addr}(h:El B p)(hb:B'<=B):El B' p:=fun q hq=>Nat.le_trans hb (h q hq)
theorem El.ne {B:Nat}{p:Option Addr}(h:El B p){b:Nat}(hb:b<B):∀q,p=some q->q.block≠b:=fun q hq=>by have:=h q hq;omega
structure Bb (w:World) (k:IntKind) (p:Option Addr) (n c:Nat) (xs:List Nat):Prop where
 len:n=xs.length
 cap:n<=c
 max:c<=9223372036854775807
 row:0<n->Row w k p n c xs
theorem Bb.below {w w':World}{k:IntKind}{p:Option Addr}{n c:Nat}{xs:List Nat}(h:Bb w k p n c xs)(hb:Below w.heap.size w w'):Bb w' k p n c xs :=
 ⟨h.len,h.cap,h.max,fun h0=>(h.row h0).below hb⟩
theorem Bb.take {w:World}{k:IntKind}{p:Option Addr}{n c:Nat}{xs:List Nat}(h:Bb w k p n c xs)(m:Nat)(hm:m<=n):Bb w k p m c (xs.take m) :=
 ⟨by have:=h.len;simp;omega,Nat.le_trans hm h.cap,h.max,fun h0=>(h.row (by omega)).take m hm⟩
def bytesIn (zs:List Int)(n:Nat):List Nat:=(zs.take n).map Int.toNat
theorem wf_u8 {n:Int}(h:(Lit.int .u8 n).wf=true):0<=n/\n<256:=by
 simp only[Lit.wf,Bool.and_eq_true,decide_eq_true_eq]at h;have h1:IntKind.u8.min=0:=by decide
 have h2:IntKind.u8.max=255:=by decide
 omega
theorem wf_u64 {n:Int}(h:(Lit.int .u64 n).wf=true):0<=n/\n<18446744073709551616:=by
 simp only[Lit.wf,Bool.and_eq_true,decide_eq_true_eq]at h;have h1:IntKind.u64.min=0:=by decide
 have h2:IntKind.u64.max=18446744073709551615:=by decide
 omega
theorem add_plain (b off i:Nat):(⟨b,off,none⟩:Addr).add i=⟨b,off+i,none⟩:=by unfold Addr.add;split<;>simp_all
theorem Tx {w:World}{a:Option Addr}{len cap:Nat}{zs:List Int}(h:(a=none/\len=0/\cap=0/\zs=[]) ∨ ∃x,a=some x/\len<=cap/\cap<=maxLen/\zs.length=cap/\(∀i,i<zs.length->w.cell? (x.add i)=some (.int .u8 (zs.getD i 0)))/\∀n∈zs,(Lit.int .u8 n).wf=true) :
  Bb w .u8 a len cap (bytesIn zs len)/\Au (bytesIn zs len):=by
 rcases h with ⟨rfl,rfl,rfl,rfl⟩|⟨x,rfl,hl,hm,hz,hc,hw⟩
 .refine⟨⟨by simp[bytesIn],Nat.le_refl _,by omega,fun h=>absurd h (by omega)⟩,by simp[bytesIn,Au]⟩
 .have hm':cap<=9223372036854775807:=by simpa [maxLen]using hm
  have hlen:len=(bytesIn zs len).length:=by simp[bytesIn];omega
  refine⟨⟨hlen,hl,hm',fun h0=>?_⟩,?_⟩
  .obtain⟨b,off,spot⟩:=x;have h1:=hc 0 (by omega);have hspot:spot=none:=by simpa [Addr.add]using World.cell?_spot h1
   subst hspot;have hadd:∀i,(⟨b,off,none⟩:Addr).add i=⟨b,off+i,none⟩:=add_plain b off;refine⟨hlen,hl,hm',.inr ⟨b,off,rfl,?_,fun i y hy=>?_⟩⟩
   .rw[hadd]at h1
    unfold World.cell? at h1;rcases Nat.lt_or_ge b w.heap.size with k|k
    .exact k
    .simp[Array.getElem?_eq_none k]at h1
   .simp only[bytesIn,List.getElem?_map,List.getElem?_take]at hy;split at hy
    .rename_i hi
     have hi2:i<zs.length:=by omega
     rw[List.getElem?_eq_getElem hi2]at hy
     simp only[Option.map_some,Option.some.injEq]at hy;have:=wf_u8 (hw zs[i] (List.getElem_mem _));rw[<-hadd,hc i hi2,<-hy,List.getD_eq_getElem?_getD,List.getElem?_eq_getElem hi2];simp only[Option.getD_some];rw[Int.toNat_of_nonneg this.1]
    .simp at hy
  .intro y hy;simp only[bytesIn,List.mem_map]at hy;obtain⟨n,hn,rfl⟩:=hy;have:=wf_u8 (hw n (List.mem_of_mem_take hn));omega
def Co (p:Nat):Prop:=2<=p/\∀d,d ∣ p->d=1 ∨ d=p
theorem Co.two {p:Nat}(h:Co p):2<=p:=h.1
theorem Co.coprime {p n:Nat}(h:Co p)(hn:¬p ∣ n):Nat.Coprime p n:=by
 rcases h.2 (Nat.gcd p n) (Nat.gcd_dvd_left p n) with h1|h1
 .exact h1
 .exact absurd (h1 ▸ Nat.gcd_dvd_right p n) hn
theorem Co.dvd_mul {p a b:Nat}(h:Co p)(hd:p ∣ a*b):p ∣ a ∨ p ∣ b:=by
 by_cases ha:p ∣ a
 .exact .inl ha
 .exact .inr ((h.coprime ha).dvd_of_dvd_mul_left hd)
theorem Co.dvd_pow {p a:Nat}(h:Co p):∀ {n:Nat},p ∣ a^n->p ∣ a
 | 0,hd=>by
  rw[Nat.pow_zero]at hd
  have:=Nat.le_of_dvd (by decide) hd;have:=h.1;omega
 | n+1,hd=>by
  rw[Nat.pow_succ]at hd
  rcases h.dvd_mul hd with h1|h1
  .exact h.dvd_pow h1
  .exact h1
theorem Co.dvd_prime {p q:Nat}(h:Co p)(k:Co q)(hd:p ∣ q):p=q:=by
 rcases k.2 p hd with h1|h1
 .have:=h.1;omega
 .exact h1
theorem Mp:∀n:Nat,2<=n->∃p,Co p/\p ∣ n:=by
 intro n
 induction n using Nat.strongRecOn with
 | _ n ih=>
  intro hn
  by_cases h:∃d,d ∣ n/\d≠1/\d≠n
  .obtain⟨d,hd,h1,h2⟩:=h;have hle:=Nat.le_of_dvd (by omega) hd;have h0:d≠0:=fun e=>by subst e;have:=Nat.eq_zero_of_zero_dvd hd;omega
   obtain⟨p,hp,hpd⟩:=ih d (by omega) (by omega);exact⟨p,hp,Nat.dvd_trans hpd hd⟩
  .refine⟨n,⟨hn,fun d hd=>?_⟩,Nat.dvd_refl n⟩
   by_cases h1:d=1
   .exact .inl h1
   .by_cases h2:d=n
    .exact .inr h2
    .exact absurd ⟨d,hd,h1,h2⟩ h
theorem Kj {n:Nat}(hn:2<=n)(h:∀p,Co p->p ∣ n->n<p*p):Co n:=by
 refine⟨hn,fun d hd=>?_⟩
 by_cases h1:d=1
 .exact .inl h1
 by_cases h2:d=n
 .exact .inr h2
 exfalso;obtain⟨e,rfl⟩:=hd;have hd0:d≠0:=fun e'=>by subst e';simp at hn
 have he1:e≠1:=fun e'=>by subst e';simp at h2
 have he0:e≠0:=fun e'=>by subst e';simp at hn
 obtain⟨p,hp,hpd⟩:=Mp d (by omega);obtain⟨q,hq,hqd⟩:=Mp e (by omega);have h3:=h p hp (Nat.dvd_trans hpd (Nat.dvd_mul_right d e));have h4:=h q hq (Nat.dvd_trans hqd (Nat.dvd_mul_left e d));have h5:=Nat.le_of_dvd (by omega) hpd;have h6:=Nat.le_of_dvd (by omega) hqd;rcases Nat.le_total d e with h7|h7
 .have:=Nat.mul_le_mul h5 (Nat.le_trans h5 h7);omega
 .have:=Nat.mul_le_mul (Nat.le_trans h6 h7) h6;omega
theorem eU:∀(m n:Nat) (f:Nat->Nat),(∀i,i<n->f i<m)->(∀i j,i<n->j<n->f i=f j->i=j)->n<=m:=by
 intro m
 induction m with
 | zero=>
  intro n f h _;rcases Nat.eq_zero_or_pos n with h0|h0
  .omega
  .have:=h 0 h0;omega
 | succ m ih=>
  intro n f h hi
  cases n with
  | zero=>omega
  | succ n=>
   -- the last one's place is left free: who sits at m takes it
   have hn:=h n (by omega);have key:n<=m:=by
    refine ih n (fun i=>if f i=m then f n else f i) ?_ ?_
    .intro i hin;have h1:=h i (by omega);show (if f i=m then f n else f i)<m;split
     .rename_i e
      rcases Nat.lt_or_ge (f n) m with h2|h2
      .exact h2
      .have:f i=f n:=by omega
       have:=hi i n (by omega) (by omega) this;omega
     .omega
    .intro i j hin hjn e;replace e:(if f i=m then f n else f i)=(if f j=m then f n else f j):=e;split at e<;>split at e
     .exact hi i j (by omega) (by omega) (by omega)
     .have:=hi n j (by omega) (by omega) e;omega
     .have:=hi i n (by omega) (by omega) e;omega
     .exact hi i j (by omega) (by omega) e
   omega
theorem Sd {a b t:Nat}(h:a<=b):a%t=b%t ↔ t ∣ b-a:=by
 constructor
 .intro e;exact Nat.dvd_of_mod_eq_zero (Nat.sub_mod_eq_zero_of_mod_eq e.symm)
 .rintro⟨c,hc⟩;have:b=a+t*c:=by omega
  rw[this,Nat.add_mul_mod_self_left]
theorem Nf {g t d:Nat}(h:g^d%t=1%t)(k:Nat):g^(d*k)%t=1%t:=by
 rw[Nat.pow_mul,Nat.pow_mod,h,<-Nat.pow_mod,Nat.one_pow]
theorem Wq {g t i j:Nat}(hc:Nat.Coprime t g)(h:i<=j)(he:g^i%t=g^j%t):g^(j-i)%t=1%t:=by
 obtain⟨k,rfl⟩:∃k,j=i+k:=⟨j-i,by omega⟩
 rw[Nat.add_sub_cancel_left];rcases Nat.eq_zero_or_pos g with h0|h0
 .subst h0;have ht:t=1:=by simpa [Nat.Coprime]using hc
  subst ht;simp[Nat.mod_one]
 have hg:1<=g^k:=Nat.pow_pos h0;have h1:g^i<=g^(i+k):=Nat.pow_le_pow_right h0 (by omega);have h2:t ∣ g^(i+k)-g^i:=(Sd h1).1 he;rw[Nat.pow_add,show g^i*g^k-g^i=g^i*(g^k-1) by rw[Nat.mul_sub,Nat.mul_one]]at h2
 have h3:t ∣ g^k-1:=(Nat.Coprime.pow_right i hc).dvd_of_dvd_mul_left h2;exact((Sd hg).2 h3).symm
theorem Zy {g t n:Nat}(hn:0<n)(h:g^n%t=1%t):∃d,0<d/\d<=n/\g^d%t=1%t/\∀e,0<e->e<d->g^e%t≠1%t:=by
 induction n using Nat.strongRecOn with
 | _ n ih=>
  by_cases hx:∃e,0<e/\e<n/\g^e%t=1%t
  .obtain⟨e,h1,h2,h3⟩:=hx;obtain⟨d,d1,d2,d3,d4⟩:=ih e h2 h1 h3;exact⟨d,d1,by omega,d3,d4⟩
  .exact⟨n,hn,Nat.le_refl _,h,fun e h1 h2 h3=>hx ⟨e,h1,h2,h3⟩⟩
theorem Ze {g t d n:Nat}(h1:g^d%t=1%t)(hm:∀e,0<e->e<d->g^e%t≠1%t)(hd:0<d)(h:g^n%t=1%t):d ∣ n:=by
 have h2:g^(n%d)%t=1%t:=by
  rw[<-Nat.div_add_mod n d,Nat.pow_add,Nat.mul_mod,Nf h1,<-Nat.mul_mod,Nat.one_mul]at h
  exact h
 rcases Nat.eq_zero_or_pos (n%d) with h3|h3
 .exact Nat.dvd_of_mod_eq_zero h3
 .exact absurd h2 (hm _ h3 (Nat.mod_lt _ hd))
theorem Wr {t g F:Nat}(ht:Co t)(hF:0<F)(h1:g^F%t=1)(hp:∀p,Co p->p ∣ F->g^(F/p)%t≠1):F<t:=by
 have ht2:=ht.1;have h1t:1%t=1:=Nat.mod_eq_of_lt (by omega);obtain⟨d,d1,d2,d3,d4⟩:=Zy (t:=t) hF (by rw[h1t];exact h1);have hdF:d ∣ F:=Ze d3 d4 d1 (by rw[h1t];exact h1);have hdeq:d=F:=by
  obtain⟨k,rfl⟩:=hdF
  by_cases hk:k=1
  .subst hk;simp
  .exfalso;have hk0:k≠0:=fun e=>by subst e;simp at hF
   obtain⟨p,hpp,⟨j,rfl⟩⟩:=Mp k (by omega);refine hp p hpp ⟨d*j,by rw[Nat.mul_left_comm]⟩ ?_;have e:d*(p*j)/p=d*j:=by rw[Nat.mul_left_comm,Nat.mul_div_cancel_left _ (by have:=hpp.1;omega)]
   rw[e,Nf d3,h1t]
 subst hdeq;have hc:Nat.Coprime t g:=by
  refine ht.coprime fun hd=>?_
  have:t ∣ g^d:=Nat.dvd_trans hd (by obtain⟨k,rfl⟩:∃k,d=k+1:=⟨d-1,by omega⟩;rw[Nat.pow_succ];exact Nat.dvd_mul_left _ _);have:=Nat.mod_eq_zero_of_dvd this;omega
 have:=eU (t-1) d (fun i=>g^i%t-1) ?_ ?_
 .omega
 .intro i hi;have h2:g^i%t<t:=Nat.mod_lt _ (by omega);have h3:g^i%t≠0:=fun e=>by
   have:=ht.dvd_pow (Nat.dvd_of_mod_eq_zero e);have h4:=hc.symm.gcd_eq_one;have:=Nat.dvd_gcd this (Nat.dvd_refl t);rw[h4]at this
   have:=Nat.le_of_dvd (by decide) this;omega
  show g^i%t-1<t-1;omega
 .have key:∀i j,i<d->j<d->i<=j->g^i%t=g^j%t->i=j:=by
   intro i j hi hj hij e;have h2:=Wq hc hij e;rcases Nat.eq_zero_or_pos (j-i) with h3|h3
   .omega
   .exact absurd h2 (d4 _ h3 (by omega))
  have nz:∀i,g^i%t≠0:=fun i e=>by
   have:=ht.dvd_pow (Nat.dvd_of_mod_eq_zero e);have h4:=hc.symm.gcd_eq_one;have:=Nat.dvd_gcd this (Nat.dvd_refl t);rw[h4]at this
   have:=Nat.le_of_dvd (by decide) this;omega
  intro i j hi hj e;replace e:g^i%t-1=g^j%t-1:=e;have e':g^i%t=g^j%t:=by have:=nz i;have:=nz j;omega
  rcases Nat.le_total i j with h|h
  .exact key i j hi hj h e'
  .exact(key j i hj hi h e'.symm).symm
theorem iO {N a F:Nat}(hN:2<=N)(hF:F ∣ N-1)(hFN:N<F*F)(h1:a^(N-1)%N=1)(hp:∀p,Co p->p ∣ F->∀t,Co t->t ∣ N->a^((N-1)/p)%t≠1):Co N:=by
 refine Kj hN fun t ht htN=>?_
 obtain⟨k,hk⟩:=hF;have hF0:0<F:=Nat.pos_of_ne_zero fun e=>by subst e;simp at hFN
 have hlt:F<t:=by
  refine Wr (g:=a^k) ht hF0 ?_ ?_
  .rw[<-Nat.pow_mul,Nat.mul_comm,<-hk];have:a^(N-1)%t=1%t:=by
    rw[<-Nat.mod_mod_of_dvd _ htN,h1]
   rw[this];exact Nat.mod_eq_of_lt ht.1
  .intro p hpp hpF;have h2:=hp p hpp hpF t ht htN;rw[<-Nat.pow_mul];have e:k*(F/p)=(N-1)/p:=by
    rw[hk,Nat.mul_comm F k,Nat.mul_div_assoc k hpF]
   rw[e];exact h2
 have:=Nat.mul_lt_mul'' hlt hlt;omega
def Ce (n:Nat):Prop:=2<=n/\n<65536/\∀d,2<=d->d*d<=n->n%d≠0
theorem Ce.prime {n:Nat}(h:Ce n):Co n :=
 Kj h.1 fun p hp hd=>Nat.lt_of_not_le fun hle=>h.2.2 p hp.1 hle (Nat.mod_eq_zero_of_dvd hd)
def pw (p:Nat):Nat->Nat->Nat
 | 0,_=>1
 | f+1,n=>if n%p=0 then p*pw p f (n/p) else 1
theorem bS (p:Nat):∀f n,∃e,pw p f n=p^e
 | 0,_=>⟨0,rfl⟩
 | f+1,n=>by
  unfold pw;split
  .obtain⟨e,he⟩:=bS p f (n/p);exact⟨e+1,by rw[he,Nat.pow_succ,Nat.mul_comm]⟩
  .exact⟨0,rfl⟩
theorem Ry (p:Nat):∀f n,pw p f n ∣ n
 | 0,n=>Nat.one_dvd n
 | f+1,n=>by
  unfold pw;split
  .rename_i h
   obtain⟨k,rfl⟩:=Nat.dvd_of_mod_eq_zero h;rcases Nat.eq_zero_or_pos p with h0|h0
   .subst h0;simp
   .rw[Nat.mul_div_cancel_left _ h0];exact Nat.mul_dvd_mul_left p (Ry p f k)
  .exact Nat.one_dvd n
theorem eS {p:Nat}(hp:2<=p):∀(f g n:Nat),0<n->n<=f->n<=g->pw p f n=pw p g n:=by
 intro f
 induction f with
 | zero=>intro g n h0 h1;omega
 | succ f ih=>
  intro g n h0 h1 h2
  cases g with
  | zero=>omega
  | succ g=>
   unfold pw;split
   .rename_i h
    have h3:n/p<n:=Nat.div_lt_self h0 hp;have h4:0<n/p:=Nat.div_pos (Nat.le_of_dvd h0 (Nat.dvd_of_mod_eq_zero h)) (by omega);rw[ih g (n/p) h4 (by omega) (by omega)]
   .rfl
theorem Ob {p n:Nat}(hp:2<=p)(h0:0<n):pw p n n=if n%p=0 then p*pw p (n/p) (n/p) else 1:=by
 obtain⟨m,rfl⟩:∃m,n=m+1:=⟨n-1,by omega⟩
 rw[pw];split
 .rename_i h
  have h3:(m+1)/p<m+1:=Nat.div_lt_self h0 hp;have h4:0<(m+1)/p:=Nat.div_pos (Nat.le_of_dvd h0 (Nat.dvd_of_mod_eq_zero h)) (by omega);rw[eS hp m ((m+1)/p) ((m+1)/p) h4 (by omega) (Nat.le_refl _)]
 .rfl
def Qc (n:Nat)(ps:List Nat):Nat:=ps.foldl (fun f p=>f*pw p n n) 1
theorem Ua (n:Nat)(ps:List Nat)(p:Nat):Qc n (ps++[p])=Qc n ps*pw p n n:=by simp[Qc]
theorem Tt {α:Type}{P:List α->Prop}(nil:P [])(snoc:∀l x,P l->P (l++[x])):∀l,P l:=by
 have h:∀l:List α,P l.reverse:=by
  intro l
  induction l with
  | nil=>exact nil
  | cons x l ih=>rw[List.reverse_cons];exact snoc _ _ ih
 intro l;have:=h l.reverse
 rwa [List.reverse_reverse]at this
theorem bR {n:Nat}:∀(ps:List Nat),(∀p∈ps,Co p)->ps.Nodup->Qc n ps ∣ n/\∀q,Co q->q ∣ Qc n ps->q∈ps:=by
 refine Tt ?_ ?_
 .intro _ _;refine⟨Nat.one_dvd n,fun q hq hd=>?_⟩;have h1:q ∣ 1:=hd;have:=Nat.le_of_dvd (by decide) h1;have:=hq.1;omega
 .intro ps p ih hp hn;have hn':=List.nodup_append.1 hn;obtain⟨h1,h2⟩:=ih (fun q hq=>hp q (by simp[hq])) hn'.1;have hpp:Co p:=hp p (by simp);obtain⟨e,he⟩:=bS p n n;have hnot:¬p ∣ Qc n ps:=fun hd=>hn'.2.2 p (h2 p hpp hd) p (by simp) rfl
  rw[Ua];constructor
  .refine Nat.Coprime.mul_dvd_of_dvd_of_dvd ?_ h1 (Ry p n n);rw[he];exact(Nat.Coprime.pow_left e (hpp.coprime hnot)).symm
  .intro q hq hd;rcases hq.dvd_mul hd with h3|h3
   .have:=h2 q hq h3;simp[this]
   .rw[he]at h3
    have:=hq.dvd_prime hpp (hq.dvd_pow h3);simp[this]
def dV (N base:Nat)(behind ps:List Nat)(i p:Nat):Prop :=
 p ∉ ps.take i/\(Ce p ∨ p∈behind)/\2<=p/\(N-1)%p=0/\Nat.gcd ((base^((N-1)/p)%N+N-1)%N) N=1
structure Fj (N base:Nat) (ps behind:List Nat):Prop where
 two:2<=N
 some:ps≠[]
 few:ps.length<=32
 each:∀i p,ps[i]? = .some p->dV N base behind ps i p
 one:base^(N-1)%N=1
 great:N<Qc (N-1) ps*Qc (N-1) ps
theorem cE {ps:List Nat}(h:∀i p,ps[i]? = .some p->p ∉ ps.take i):ps.Nodup:=by
 revert h
 refine Tt (P:=fun ps=>(∀i p,ps[i]? = .some p->p ∉ ps.take i)->ps.Nodup) ?_ ?_ ps
 .intro _;exact List.nodup_nil
 .intro l x ih h;refine List.nodup_append.2 ⟨ih fun i p hp=>?_,by simp,fun a ha b hb e=>?_⟩
  .have hi:i<l.length:=(List.getElem?_eq_some_iff.1 hp).1;have:=h i p (by rw[List.getElem?_append_left hi];exact hp)
   rwa [List.take_append_of_le_length (by omega)]at this
  .simp at hb;subst hb;subst e;have:=h l.length a (by simp);simp at this;exact this ha
theorem Up {N base:Nat}{ps behind:List Nat}(h:Fj N base ps behind)(hb:∀x∈behind,Co x):Co N:=by
 have hpr:∀p∈ps,Co p:=fun p hp=>by
  obtain⟨i,hi,e⟩:=List.getElem_of_mem hp;have:=(h.each i p (by rw[List.getElem?_eq_getElem hi,e])).2.1;rcases this with h1|h1
  .exact h1.prime
  .exact hb p h1
 have hnd:ps.Nodup:=cE fun i p hp=>(h.each i p hp).1
 obtain⟨h1,h2⟩:=bR (n:=N-1) ps hpr hnd;refine iO h.two h1 h.great h.one fun p hp hd t ht htN e=>?_
 obtain⟨i,hi,e'⟩:=List.getElem_of_mem (h2 p hp hd);have hok:=(h.each i p (by rw[List.getElem?_eq_getElem hi,e'])).2.2.2.2
 -- t divides what has no divisor in common with N
 have hN:=h.two;generalize base^((N-1)/p)=y at e hok;have h3:t ∣ y%N+N-1:=by
  have h4:(y%N)%t=1:=by rw[Nat.mod_mod_of_dvd _ htN];exact e
  obtain⟨k,rfl⟩:=htN;have h5:1<=y%(t*k):=Nat.pos_of_ne_zero fun e0=>by rw[e0]at h4;simp at h4
  have h6:t ∣ y%(t*k)-1:=(Sd h5).1 (by rw[h4];exact Nat.mod_eq_of_lt ht.1);rw[show y%(t*k)+t*k-1=(y%(t*k)-1)+t*k by omega];exact Nat.dvd_add h6 (Nat.dvd_mul_right t k)
 have h7:t ∣ (y%N+N-1)%N:=(Nat.dvd_mod_iff htN).2 h3;have h8:t ∣ Nat.gcd ((y%N+N-1)%N) N:=Nat.dvd_gcd h7 htN;rw[hok]at h8
 have:=Nat.le_of_dvd (by decide) h8;have:=ht.1;omega
structure Bn where
 n:Nat
 base:Nat
 ps:List Nat
def Bv:List Nat->List Bn->Prop
 | _,[]=>True
 | behind,s::l=>Fj s.n s.base s.ps behind/\Bv (behind++[s.n]) l
theorem Nq:∀(l:List Bn) (behind:List Nat),(∀x∈behind,Co x)->Bv behind l->∀s∈l,Co s.n
 | [],_,_,_,s,hs=>by simp at hs
 | s::l,behind,hb,h,t,ht=>by
  have h1:Co s.n:=Up h.1 hb;rcases List.mem_cons.1 ht with e|e
  .rw[e];exact h1
  .refine Nq l (behind++[s.n]) (fun x hx=>?_) h.2 t e;rcases List.mem_append.1 hx with h2|h2
   .exact hb x h2
   .simp at h2;rw[h2];exact h1
theorem Po:∀(l:List Bn) (behind:List Nat) (s:Bn),Bv behind (l++[s]) ↔ Bv behind l/\Fj s.n s.base s.ps (behind++l.map (·.n))
 | [],behind,s=>by simp[Bv]
 | a::l,behind,s=>by
  simp only[List.cons_append,Bv,Po l,List.map_cons,List.append_assoc,List.cons_append,List.nil_append,and_assoc]
theorem Lv:∀(l r:List Bn) (behind:List Nat),Bv behind (l++r) ↔ Bv behind l/\Bv (behind++l.map (·.n)) r
 | [],r,behind=>by simp[Bv]
 | a::l,r,behind=>by
  simp only[List.cons_append,Bv,Lv l,List.map_cons,List.append_assoc,List.cons_append,List.nil_append,and_assoc]
end Go.Proofs.YtokhckjemidbpaaGreatDoor
