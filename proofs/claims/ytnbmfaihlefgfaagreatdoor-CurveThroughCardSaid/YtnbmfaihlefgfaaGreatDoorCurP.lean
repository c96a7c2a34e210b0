/- Sums and products of polynomials in a field, coefficient by coefficient; Newton's way: over numbers. Of no program (stage 10). -/
import Derived.Test.YtnbmfaihlefgfaaGreatDoorCertK
set_option maxRecDepth 1000000
set_option maxHeartbeats 16000000
set_option linter.all false
namespace Go.Proofs.YtnbmfaihlefgfaaGreatDoor
theorem Fn {M a b:Nat}(h:(M:Int) ∣ (a:Int)-b):a%M=b%M:=by
 have:=Int.emod_emod_of_dvd;have h1:((a:Int)-b)%M=0:=Int.emod_eq_zero_of_dvd h;have h2:=Int.emod_eq_emod_iff_emod_sub_eq_zero.2 h1
 exact_mod_cast h2
theorem Kg {M a b:Nat}(h:a%M=b%M):(M:Int) ∣ (a:Int)-b:=by
 have h2:(a:Int)%M=(b:Int)%M:=by exact_mod_cast h
 exact Int.dvd_of_emod_eq_zero (Int.emod_eq_emod_iff_emod_sub_eq_zero.1 h2)
def Gc (M N X:Nat):Prop:=(Nat.gcd M N=1->X<M/\X*N%M=1%M)/\(Nat.gcd M N≠1->X=0)
theorem Wu {M N X Y:Nat}(hX:X<M)(hY:Y<M)(h1:X*N%M=1%M)(h2:Y*N%M=1%M):X=Y:=by
 have e1:(X*N)*Y%M=Y%M:=by rw[Nat.mul_mod,h1,<-Nat.mul_mod,Nat.one_mul]
 have e2:X*(Y*N)%M=X%M:=by rw[Nat.mul_mod,h2,<-Nat.mul_mod,Nat.mul_one]
 have e3:(X*N)*Y=X*(Y*N):=by rw[Nat.mul_assoc,Nat.mul_comm N Y]
 rw[e3,e2,Nat.mod_eq_of_lt hX,Nat.mod_eq_of_lt hY]at e1
 exact e1
theorem Gc.uniq {M N X Y:Nat}(h:Gc M N X)(k:Gc M N Y):X=Y:=by
 by_cases hg:Nat.gcd M N=1
 .exact Wu (h.1 hg).1 (k.1 hg).1 (h.1 hg).2 (k.1 hg).2
 .rw[h.2 hg,k.2 hg]
structure Lp (M N D R O X:Nat) (neg:Bool):Prop where
 gcd:Nat.gcd D R=Nat.gcd M N
 sum:O*R+X*D=M
 pos:0<D
 le:O<=M
 dle:D<=M
 rle:R<=M
 par:if neg=true then (M:Int) ∣ (O*N:Nat)+(D:Int)/\(M:Int) ∣ (X*N:Nat)-(R:Int) else (M:Int) ∣ (O*N:Nat)-(D:Int)/\(M:Int) ∣ (X*N:Nat)+(R:Int)
theorem Lp.start {M N:Nat}(hM:0<M):Lp M N M (N%M) 0 1 true:=by
 refine⟨by rw[Nat.gcd_comm,<-Nat.gcd_rec],by omega,hM,by omega,Ar _,Nat.le_of_lt (Nat.mod_lt _ hM),?_⟩;rw[if_pos rfl];refine⟨by simp,?_⟩;rw[Nat.one_mul];exact Kg (Nat.mod_mod _ _).symm
theorem Lp.step {M N D R O X:Nat}{neg:Bool}(h:Lp M N D R O X neg)(hR:0<R):Lp M N R (D%R) X (O+D/R*X) (!neg):=by
 have hD:(D:Int)=(D/R:Nat)*(R:Int)+(D%R:Nat):=by
  have:=Nat.div_add_mod D R;rw[Nat.mul_comm]at this
  exact_mod_cast this.symm
 have hle:X<=M:=by
  have h1:=h.sum;have h2:X*1<=X*D:=Nat.mul_le_mul_left X h.pos;omega
 have hX:(((O+D/R*X)*N:Nat):Int)=((O*N:Nat):Int)+(D/R:Nat)*((X*N:Nat):Int):=by
  rw[Nat.add_mul,Nat.mul_assoc]
  push_cast
  rfl
 refine⟨by rw[<-h.gcd,Nat.gcd_comm D R,Nat.gcd_rec R D,Nat.gcd_comm],?_,hR,hle,h.rle,Eu (Nat.mod_le _ _) h.dle,?_⟩
 .have h1:=h.sum;have h2:=Nat.div_add_mod D R;have h3:X*(D%R)+X*(R*(D/R))=X*D:=by rw[<-Nat.mul_add];congr 1;omega
  have h4:(O+D/R*X)*R=O*R+X*(R*(D/R)):=by rw[Nat.add_mul,Nat.mul_assoc,Nat.mul_comm (D/R),Nat.mul_assoc]
  omega
 .have hp:=h.par;clear h;rw[hX];clear hX;generalize ((O*N:Nat):Int)=on at *;generalize ((X*N:Nat):Int)=xn at *;generalize ((D/R:Nat):Int)=q at *;generalize ((D%R:Nat):Int)=r at *
  cases neg with
  | true=>
   simp only[Bool.not_true,Bool.false_eq_true,if_false,if_true]at hp ⊢;refine⟨hp.2,?_⟩;have e:on+q*xn+r=(on+(D:Int))+q*(xn-(R:Int)):=by rw[Int.mul_sub];omega
   rw[e];exact Int.dvd_add hp.1 (Int.dvd_mul_of_dvd_right hp.2)
  | false=>
   simp only[Bool.not_false,Bool.false_eq_true,if_false,if_true]at hp ⊢;refine⟨hp.2,?_⟩;have e:on+q*xn-r=(on-(D:Int))+q*(xn+(R:Int)):=by rw[Int.mul_add];omega
   rw[e];exact Int.dvd_add hp.1 (Int.dvd_mul_of_dvd_right hp.2)
theorem Lp.next_le {M N D R O X:Nat}{neg:Bool}(h:Lp M N D R O X neg):X<=M:=by
 have h1:=h.sum;have h2:X*1<=X*D:=Nat.mul_le_mul_left X h.pos;omega
theorem Lp.done {M N D O X:Nat}{neg:Bool}(h:Lp M N D 0 O X neg)(hM:2<=M):D=Nat.gcd M N/\(D=1->Gc M N (if neg=true then M-O else O)):=by
 have hg:D=Nat.gcd M N:=by rw[<-h.gcd,Nat.gcd_zero_right]
 refine⟨hg,fun h1=>⟨fun _=>?_,fun hn=>absurd (by rw[<-hg,h1]) hn⟩⟩;have hp:=h.par;have hle:=h.le;have no1:¬(M:Int) ∣ 1:=fun hd=>by
  have:=Int.le_of_dvd (by omega) hd;omega
 subst h1
 cases neg with
 | true=>
  simp only[if_true]at hp ⊢;have hO:O≠0:=fun h0=>no1 (by subst h0;simpa using hp.1)
  refine⟨by omega,Fn ?_⟩;have e:(((M-O)*N:Nat):Int)-((1:Nat):Int)=(M:Int)*N-(((O*N:Nat):Int)+((1:Nat):Int)):=by
   rw[Nat.sub_mul,Int.ofNat_sub (Nat.mul_le_mul_right N hle)]
   push_cast
   omega
  rw[e];exact Int.dvd_sub (Int.dvd_mul_right _ _) hp.1
 | false=>
  simp only[Bool.false_eq_true,if_false]at hp ⊢;refine⟨Nat.lt_of_le_of_ne hle fun he=>no1 ?_,Fn hp.1⟩;subst he;have h2:(O:Int) ∣ ((O*N:Nat):Int):=by push_cast;exact Int.dvd_mul_right _ _
  have:=Int.dvd_sub h2 hp.1
  rwa [show ((O*N:Nat):Int)-(((O*N:Nat):Int)-((1:Nat):Int))=1 by omega]at this
def ev:List Int->Int->Int
 | [],_=>0
 | c::p,x=>c+x*ev p x
theorem gA (c x:Int):ev [c] x=c:=by simp[ev]
def quo (a:Int):List Int->List Int
 | []=>[]
 | [_]=>[]
 | _::d::p=>ev (d::p) a::quo a (d::p)
theorem cJ (a x:Int):∀p,ev p x-ev p a=(x-a)*ev (quo a p) x
 | []=>by simp[ev,quo]
 | [c]=>by simp[ev,quo]
 | c::d::p=>by
  have ih:=cJ a x (d::p);show (c+x*ev (d::p) x)-(c+a*ev (d::p) a)=(x-a)*(ev (d::p) a+x*ev (quo a (d::p)) x);generalize ev (d::p) x=X at *;generalize ev (d::p) a=A at *;generalize ev (quo a (d::p)) x=Z at *;have h1:(x-a)*(A+x*Z)=(x-a)*A+x*((x-a)*Z):=by rw[Int.mul_add,<-Int.mul_assoc,Int.mul_comm (x-a) x,Int.mul_assoc]
  rw[h1,<-ih,Int.sub_mul,Int.mul_sub];omega
theorem Oq (a:Int):∀p,(quo a p).length=p.length-1
 | []=>rfl
 | [_]=>rfl
 | _::d::p=>by
  have:=Oq a (d::p);simp only[quo,List.length_cons]at *;omega
theorem Ro {q a:Int}:∀p:List Int,q ∣ ev p a->(∀c∈quo a p,q ∣ c)->∀c∈p,q ∣ c
 | [],_,_,c,hc=>by cases hc
 | [d],h,_,c,hc=>by
  rcases List.mem_singleton.1 hc with rfl
  rw[gA]at h;exact h
 | e::d::p,h,hq,c,hc=>by
  have h1:q ∣ ev (d::p) a:=hq _ List.mem_cons_self;have ih:=Ro (d::p) h1 fun c hc=>hq c (List.mem_cons_of_mem _ hc)
  rcases List.mem_cons.1 hc with rfl|hc
  .have h2:c=ev (c::d::p) a-a*ev (d::p) a:=by show c=(c+a*ev (d::p) a)-_;omega
   rw[h2];exact Int.dvd_sub h (Int.dvd_mul_of_dvd_right h1)
  .exact ih c hc
theorem Bo.dvd_imul {q:Nat}(hq:Bo q){a b:Int}(h:(q:Int) ∣ a*b):(q:Int) ∣ a ∨ (q:Int) ∣ b:=by
 rw[Int.ofNat_dvd_left,Int.natAbs_mul]at h
 rcases hq.dvd_mul h with h|h
 .exact .inl (Int.ofNat_dvd_left.2 h)
 .exact .inr (Int.ofNat_dvd_left.2 h)
def Ez (q:Nat)(xs:List Int):Prop:=xs.Pairwise fun a b=>¬(q:Int) ∣ a-b
theorem Ub {q:Nat}(hq:Bo q):∀(xs p:List Int),p.length<=xs.length->Ez q xs->(∀x∈xs,(q:Int) ∣ ev p x)->∀c∈p,(q:Int) ∣ c
 | [],p,hl,_,_=>fun c hc=>by
  rw[List.eq_nil_of_length_eq_zero (Nat.le_zero.1 hl)]at hc;cases hc
 | a::xs,p,hl,hu,hx=>by
  have hu':=List.pairwise_cons.1 hu;have ha:=hx a List.mem_cons_self;refine Ro p ha (Ub hq xs (quo a p) (by rw[Oq];simp only[List.length_cons]at hl;omega) hu'.2 fun y hy=>?_);have h1:(q:Int) ∣ (y-a)*ev (quo a p) y:=by
   rw[<-cJ];exact Int.dvd_sub (hx y (List.mem_cons_of_mem _ hy)) ha
  rcases hq.dvd_imul h1 with h2|h2
  .exact absurd (by have:=Int.dvd_neg.2 h2;rw[Int.neg_sub]at this;exact this) (hu'.1 y hy)
  .exact h2
def Km:List Int->List Int->List Int
 | [],r=>r
 | p,[]=>p
 | a::p,b::r=>(a+b)::Km p r
theorem Xb (x:Int):∀p r,ev (Km p r) x=ev p x+ev r x
 | [],r=>by simp[Km,ev]
 | a::p,[]=>by simp[Km,ev]
 | a::p,b::r=>by
  show (a+b)+x*ev (Km p r) x=(a+x*ev p x)+(b+x*ev r x);rw[Xb x p r,Int.mul_add];omega
theorem Nj:∀p r,(Km p r).length=max p.length r.length
 | [],r=>by simp[Km]
 | a::p,[]=>by simp[Km]
 | a::p,b::r=>by simp only[Km,List.length_cons,Nj p r];omega
def Jy (k:Int)(p:List Int):List Int:=p.map fun c=>k*c
theorem Ut (k x:Int):∀p,ev (Jy k p) x=k*ev p x
 | []=>by simp[Jy,ev]
 | c::p=>by
  show k*c+x*ev (Jy k p) x=k*(c+x*ev p x);rw[Ut k x p,Int.mul_add,<-Int.mul_assoc,<-Int.mul_assoc,Int.mul_comm x k]
theorem Qf (k:Int)(p:List Int):(Jy k p).length=p.length:=by simp[Jy]
theorem Yv {q:Nat}(hq:Bo q){xs p r:List Int}(hu:Ez q xs)(hp:p.length<=xs.length)(hr:r.length<=xs.length)(hx:∀x∈xs,(q:Int) ∣ ev p x-ev r x):∀c∈Km p (Jy (-1) r),(q:Int) ∣ c:=by
 refine Ub hq xs _ (by rw[Nj,Qf];exact Nat.max_le.2 ⟨hp,hr⟩) hu fun y hy=>?_
 rw[Xb,Ut];have:=hx y hy
 rwa [show ev p y + -1*ev r y=ev p y-ev r y by omega]
theorem Ez.neg {q:Nat}{a b:Int}(h:¬(q:Int) ∣ a-b):¬(q:Int) ∣ b-a:=fun k=>h (by have:=Int.dvd_neg.2 k;rw[Int.neg_sub]at this;exact this)
theorem Ih {q a:Int}(h:q ∣ a)(b:Int):q ∣ a*b:=let ⟨k,hk⟩:=h;⟨k*b,by rw[hk,Int.mul_assoc]⟩
theorem Ig {q a:Int}(h:q ∣ a)(b:Int):q ∣ b*a:=by rw[Int.mul_comm];exact Ih h b
structure Is (q N:Nat) (z:Int):Prop where
 lt:N<q
 dvd:(q:Int) ∣ (N:Int)-z
theorem Is.of {q:Nat}(hq:0<q)(N:Nat):Is q (N%q) N:=⟨Nat.mod_lt _ hq,by
 have h:=Nat.div_add_mod N q;refine⟨-((N/q:Nat):Int),?_⟩;have h2:(N:Int)=(q:Int)*(N/q:Nat)+(N%q:Nat):=by rw[<-Int.natCast_mul,<-Int.natCast_add,h]
 rw[Int.mul_neg];omega⟩
theorem Is.alike {q N:Nat}{x y:Int}(h:Is q N x)(hxy:(q:Int) ∣ x-y):Is q N y:=⟨h.lt,by
 have:=Int.dvd_add h.dvd hxy
 rwa [show (N:Int)-x+(x-y)=N-y by omega]at this⟩
theorem Is.uniq {q a b:Nat}{x y:Int}(h:Is q a x)(k:Is q b y)(hxy:(q:Int) ∣ x-y):a=b:=by
 have h1:=Int.dvd_sub (h.alike hxy).dvd k.dvd;rw[show (a:Int)-y-((b:Int)-y)=(a:Int)-b by omega]at h1
 have h2:=Fn h1
 rwa [Nat.mod_eq_of_lt h.lt,Nat.mod_eq_of_lt k.lt]at h2
theorem Is.diff {q a b:Nat}{x y:Int}(h:Is q a x)(k:Is q b y)(hab:a=b):(q:Int) ∣ x-y:=by
 subst hab;have h1:=Int.dvd_sub k.dvd h.dvd
 rwa [show (a:Int)-y-((a:Int)-x)=x-y by omega]at h1
theorem Is.rest {q N:Nat}{z:Int}(hq:0<q)(h:(q:Int) ∣ (N:Int)-z):Is q (N%q) z:=(Is.of hq N).alike h
theorem Is.mul {q a b:Nat}{x y:Int}(h:Is q a x)(k:Is q b y):Is q (a*b%q) (x*y):=Is.rest (Nat.lt_of_le_of_lt (Nat.zero_le _) h.lt) (by
 have h1:=Int.dvd_add (Ih h.dvd (b:Int)) (Ig k.dvd x)
 rwa [show ((a:Int)-x)*b+x*((b:Int)-y)=((a*b:Nat):Int)-x*y by rw[Int.sub_mul,Int.mul_sub,Int.natCast_mul];omega]at h1)
theorem Is.sub {q a b:Nat}{x y:Int}(hq:2<=q)(h:Is q a x)(k:Is q b y):Is q (Ha a b q) (x-y):=⟨Rx hq,by
 have h1:=Int.dvd_sub h.dvd k.dvd;unfold Ha;rw[Nat.mod_eq_of_lt h.lt,Nat.mod_eq_of_lt k.lt];split
 .rwa [show (a:Int)-x-((b:Int)-y)=((a-b:Nat):Int)-(x-y) by omega]at h1
 .have h2:=Int.dvd_add h1 (Int.dvd_refl (q:Int));have:=k.lt
  rwa [show (a:Int)-x-((b:Int)-y)+q=((q-b+a:Nat):Int)-(x-y) by omega]at h2⟩
theorem Is.zero {q:Nat}(hq:0<q):Is q 0 0:=⟨hq,by simp⟩
theorem Is.inv {q N X:Nat}{z:Int}(hq:Bo q)(h:Is q (N%q) z)(hX:Gc q N X)(hz:¬(q:Int) ∣ z):(q:Int) ∣ z*X-1/\X<q:=by
 have hg:Nat.gcd q N=1:=hq.coprime fun hd=>hz (by
  have h1:N%q=0:=Nat.mod_eq_zero_of_dvd hd;have h2:=h.dvd;rw[h1]at h2
  have:=Int.dvd_neg.2 h2
  rwa [show -(((0:Nat):Int)-z)=z by omega]at this)
 obtain⟨h1,h2⟩:=hX.1 hg;refine⟨?_,h1⟩;have h3:(q:Int) ∣ ((X*N:Nat):Int)-(1:Nat):=Kg h2;have h4:(q:Int) ∣ (N:Int)-z:=by
  have h5:=Int.dvd_sub (Is.of (by have:=hq.two;omega) N).dvd h.dvd;have h6:=Int.dvd_neg.2 h5
  rwa [show -(((N%q:Nat):Int)-N-(((N%q:Nat):Int)-z))=N-z by omega]at h6
 have h7:=Int.dvd_sub h3 (Ig h4 (X:Int))
 rwa [show ((X*N:Nat):Int)-(1:Nat)-X*((N:Int)-z)=z*X-1 by rw[Int.natCast_mul,Int.mul_sub,Int.mul_comm z X];omega]at h7
def Dq (q x:Nat):List Nat->Nat
 | []=>0
 | c::l=>(c+Dq q x l*x%q)%q
theorem Fx {q x:Nat}(hq:2<=q):∀l:List Nat,Is q (Dq q x l) (ev (l.map fun c:Nat=>(c:Int)) x)
 | []=>Is.zero (by omega)
 | c::l=>by
  have ih:=Fx (q:=q) (x:=x) hq l;have h0:0<q:=by omega
  have h1:Is q (Dq q x l*x%q) (ev (l.map fun c:Nat=>(c:Int)) x*x):=Is.rest h0 (by
   have:=Ih ih.dvd (x:Int)
   rwa [Int.sub_mul,<-Int.natCast_mul]at this)
  refine Is.rest h0 ?_;show (q:Int) ∣ ((c+Dq q x l*x%q:Nat):Int)-((c:Int)+x*ev (l.map fun c:Nat=>(c:Int)) x);have:=h1.dvd;rw[Int.mul_comm]at this
  rwa [show ((c+Dq q x l*x%q:Nat):Int)-((c:Int)+x*ev (l.map fun c:Nat=>(c:Int)) x)=((Dq q x l*x%q:Nat):Int)-x*ev (l.map fun c:Nat=>(c:Int)) x by omega]
theorem bV {M N:Nat}(hM:2<=M):∀(R D O X:Nat) (neg:Bool),Lp M N D R O X neg->∃Y,Gc M N Y:=by
 intro R
 induction R using Nat.strongRecOn with
 | _ R ih=>
  intro D O X neg h;rcases Nat.eq_zero_or_pos R with h0|h0
  .subst h0;have h1:=h.done hM
   by_cases hD:D=1
   .exact⟨_,h1.2 hD⟩
   .exact⟨0,fun hg=>absurd (h1.1.trans hg) hD,fun _=>rfl⟩
  .exact ih (D%R) (Nat.mod_lt _ h0) _ _ _ _ (h.step h0)
theorem Wv {M:Nat}(hM:2<=M)(N:Nat):∃Y,Gc M N Y:=bV hM _ _ _ _ _ (Lp.start (M:=M) (N:=N) (by omega))
noncomputable def fV (M N:Nat):Nat:=Classical.epsilon fun Y=>Gc M N Y
theorem Xx {M:Nat}(hM:2<=M)(N:Nat):Gc M N (fV M N):=Classical.epsilon_spec (Wv hM N)
theorem eQ {M N X:Nat}(hM:2<=M)(h:Gc M N X):X=fV M N:=h.uniq (Xx hM N)
def ints (l:List Nat):List Int:=l.map fun a:Nat=>(a:Int)
theorem Vc {q:Nat}:∀p r:List Nat,p.length=r.length->(∀c∈p,c<q)->(∀c∈r,c<q)->(∀c∈Km (ints p) (Jy (-1) (ints r)),(q:Int) ∣ c)->p=r
 | [],[],_,_,_,_=>rfl
 | [],_::_,h,_,_,_=>by simp at h
 | _::_,[],h,_,_,_=>by simp at h
 | a::p,b::r,hl,hp,hr,h=>by
  have h1:(q:Int) ∣ (a:Int) + -1*(b:Int):=h _ List.mem_cons_self;have ih:=Vc p r (by simpa using hl) (fun c hc=>hp c (List.mem_cons_of_mem _ hc)) (fun c hc=>hr c (List.mem_cons_of_mem _ hc)) (fun c hc=>h c (List.mem_cons_of_mem _ hc));rw[show (a:Int) + -1*(b:Int)=(a:Int)-b by omega]at h1
  have h2:=Fn h1;rw[Nat.mod_eq_of_lt (hp a List.mem_cons_self),Nat.mod_eq_of_lt (hr b List.mem_cons_self)]at h2
  rw[h2,ih]
theorem Tn {q:Nat}(hq:Bo q){xs p r:List Nat}(hu:Ez q (ints xs))(hp:p.length=xs.length)(hr:r.length=xs.length)(lp:∀c∈p,c<q)(lr:∀c∈r,c<q)(hx:∀x∈xs,Dq q x p=Dq q x r):p=r:=by
 have h2:=hq.two;refine Vc p r (hp.trans hr.symm) lp lr (Yv hq hu (by simp[ints,hp]) (by simp[ints,hr]) fun z hz=>?_);obtain⟨x,hxx,rfl⟩:=List.mem_map.1 hz;exact(Fx h2 p).diff (Fx h2 r) (hx x hxx)
theorem Sn {q x:Nat}(hq:2<=q):∀(p:List Nat) (n:Nat),Dq q x (p++List.replicate n 0)=Dq q x p
 | [],0=>rfl
 | [],n+1=>by
  have:=Sn (q:=q) (x:=x) hq [] n;rw[List.nil_append]at *
  rw[List.replicate_succ];show (0+Dq q x (List.replicate n 0)*x%q)%q=0;rw[this];show (0+0*x%q)%q=0;simp
 | c::p,n=>by
  show (c+Dq q x (p++List.replicate n 0)*x%q)%q=_;rw[Sn hq p n];rfl
open Go Go.RowKit Go.Proofs.YtnbmfaihlefgfaaGreatDoor.Flow
section
variable {At:World->Option Addr->Nat->Nat->Nat->Prop} {e:TypeId} {B:Nat} {bad:Nat->Prop} {w:World} {v:Value} {Ns:List Nat}
theorem Ee.app2 {st:TypeId}{bytes:Nat}{i:TypeInfo}(hu:Tryz.prog.underlying st=some (.slice e))(hi:Tryz.prog.info? e=some i){z:Value}(hz:i.zero=some z)(hs:i.size=1)(hb:i.bytes=bytes)(hzs:z.cells.size=1)(hby:bytes<=1000)(h:Ee At e B bad w v Ns)(hB:B<=w.heap.size){a:Addr}{c N:Nat}{x:Option Addr×Nat×Nat}(hc:w.cell? a=some (.slice x.1 x.2.1 x.2.2))(hN:Hs (fun w=>At w x.1 x.2.1 x.2.2 N) bad w)(hv:∀g,v.ownBlock=some g->bad g)(hlt:∀g,bad g->g<w.heap.size)(hl:Ns.length<=1000000)(ty:TypeId){C:Prop}(k:∀v' w' bad',(Builtin.append_ #[st,st] ty #[v,.slice (some a) 1 c]).run Tryz.prog w=.ok v' w'->Ee At e B bad' w' v' (Ns++[N])->w.grownBy w' v.ownBlock ->
   (∀g,bad g->bad' g)->(∀g,g<w.heap.size->bad' g->bad g)->(∀g,v'.ownBlock=some g->bad' g)->(∀g,bad' g->g<w'.heap.size)->C):C:=by
 obtain⟨v',w',k1,_,k3,k4⟩:=h.app hu hi hz hs hb hzs hby hB hc hN hv hl ty;have hsub:∀g,g<w.heap.size->(bad g ∨ v'.ownBlock=some g)->bad g:=by
  intro g hg hx;rcases hx with hx|hx
  .exact hx
  .rcases k4 with k4|k4
   .exact hv g (by rw[<-k4];exact hx)
   .have:=k4 g hx;omega
 obtain⟨v2,w2,g1,g2,_,_⟩:=(h.more (bad':=fun g=>bad g ∨ v'.ownBlock=some g) hsub).app hu hi hz hs hb hzs hby hB hc (hN.more hsub) (fun g hg=>.inl (hv g hg)) hl ty;rw[k1]at g1
 injection g1 with e1 e2
 subst e1 e2;exact k v' w' _ k1 g2 k3 (fun g hg=>.inl hg) hsub (fun g hg=>.inr hg) (fun g hg=>by
  rcases hg with hg|hg
  .exact Dh (hlt g hg) k3.size
  .exact(g2.block g hg).2)
end
section
variable {At:World->Option Addr->Nat->Nat->Nat->Prop} {t e:TypeId} {B:Nat} {bad bad':Nat->Prop} {b M0 M1:Nat} {Ns:List Nat} {x y:Option Addr×Nat×Nat} {v:Value} {w0 w:World}
end
section
variable {At:World->Option Addr->Nat->Nat->Nat->Prop} {mk:Option Addr->Nat->Nat->Value} {t e:TypeId} {wE w0:World} {bad:Nat->Prop} {b:Nat} {q0 q1 v:Value} {Ns:List Nat} {N:Nat} {d3 d4 d5 d7:Bool} {v3 v4 v5:Value} {w:World}
end
theorem Tryz.info_Nat:(Tryz.prog.info? 36).map (fun i=>(i.zero,i.size,i.bytes))=some (some (.agg #[.slice none 0 0]),1,24):=by kernel_rfl
structure iA (e:Nat) (s:Bh) (x y z:Option Addr×Nat×Nat) (w:World):Prop where
 n:Ag w x.1 x.2.1 x.2.2 s.n
 base:Ag w y.1 y.2.1 y.2.2 s.base
 ps:Au w e z.1 z.2.1 z.2.2 s.ps
abbrev trip (x y z:Option Addr×Nat×Nat):Value:=.agg #[.slice x.1 x.2.1 x.2.2,.slice y.1 y.2.1 y.2.2,.slice z.1 z.2.1 z.2.2]
section
variable {F:Bh->Option Addr×Nat×Nat->Option Addr×Nat×Nat->Option Addr×Nat×Nat->World->Prop} {e:TypeId} {B:Nat} {bad:Nat->Prop} {w:World} {v:Value} {l:List Bh}
end
theorem Dg {α:Type}{l:List α}{k:Nat}{N:α}(h:l[k]? = some N):l.take (k+1)=l.take k++[N]:=by
 obtain⟨hi,e⟩:=List.getElem?_eq_some_iff.1 h;rw[List.take_succ_eq_append_getElem hi,e]
def Gn:List Int->Int
 | []=>1
 | a::l=>a*Gn l
theorem Ov:∀(l:List Int) (a:Int),Gn (l++[a])=Gn l*a
 | [],a=>by show a*1=1*a;omega
 | b::l,a=>by
  show b*Gn (l++[a])=b*Gn l*a;rw[Ov l a,Int.mul_assoc]
theorem Mt {q:Nat}(hq:Bo q)(x:Int):∀l:List Nat,(∀a∈l,¬(q:Int) ∣ x-a)->¬(q:Int) ∣ Gn (l.map fun a:Nat=>x-a)
 | [],_,h=>by
  have h2:=hq.two;have h1:(q:Int) ∣ 1:=h;have:=Int.le_of_dvd (by omega) h1;omega
 | a::l,h,k=>by
  rcases hq.dvd_imul (a:=x-a) (b:=Gn (l.map fun a:Nat=>x-a)) k with h1|h1
  .exact h a List.mem_cons_self h1
  .exact Mt hq x l (fun b hb=>h b (List.mem_cons_of_mem _ hb)) h1
theorem Oh {q:Nat}(xs:List Nat):Ez q (ints xs) ↔ (xs.map fun x=>x%q).Nodup:=by
 unfold Ez ints List.Nodup;rw[List.pairwise_map,List.pairwise_map];constructor
 .intro h;exact h.imp fun {a b} hab e=>hab (Kg e)
 .intro h;exact h.imp fun {a b} hab e=>hab (Fn e)
theorem Qd {q:Nat}{xs:List Nat}(h:Ez q (ints xs)){i z:Nat}(hi:xs[i]? = some z):∀a∈xs.take i++xs.drop (i+1),¬(q:Int) ∣ (z:Int)-a:=by
 have e:xs=xs.take i++z::xs.drop (i+1):=by
  obtain⟨h1,h2⟩:=List.getElem?_eq_some_iff.1 hi;rw[<-h2,List.getElem_cons_drop,List.take_append_drop]
 rw[e]at h
 unfold Ez ints at h;rw[List.map_append,List.map_cons,List.pairwise_append,List.pairwise_cons]at h
 obtain⟨_,⟨h2,_⟩,h3⟩:=h;intro a ha;rcases List.mem_append.1 ha with k|k
 .exact Ez.neg (h3 _ (List.mem_map.2 ⟨a,k,rfl⟩) _ List.mem_cons_self)
 .exact h2 _ (List.mem_map.2 ⟨a,k,rfl⟩)
theorem fC {l:List Nat}{i a:Nat}(h:l[i]? = some a)(k:l[i+1]? = some a):¬l.Nodup:=by
 intro hn;obtain⟨h1,h2⟩:=List.getElem?_eq_some_iff.1 h;obtain⟨k1,k2⟩:=List.getElem?_eq_some_iff.1 k;have:=List.pairwise_iff_getElem.1 hn i (i+1) h1 k1 (by omega);exact this (h2.trans k2.symm)
theorem bL:∀ {l:List Nat},l.Pairwise (fun a b=>a<=b)->(∀i a b,l[i]? = some a->l[i+1]? = some b->a≠b)->l.Nodup
 | [],_,_=>List.Pairwise.nil
 | [a],_,_=>List.pairwise_singleton _ _
 | a::b::l,h,k=>by
  obtain⟨h1,h2⟩:=List.pairwise_cons.1 h;refine List.pairwise_cons.2 ⟨fun c hc e=>?_,bL h2 fun i x y hx hy=>k (i+1) x y hx hy⟩;subst e;have hab:=h1 b List.mem_cons_self;have hne:=k 0 a b rfl rfl;rcases List.mem_cons.1 hc with e|hc
  .exact hne e
  .have:=(List.pairwise_cons.1 h2).1 a hc;omega
theorem Qz:∀ {l:List Nat} {j a b:Nat},l[j+1]? = some a->l[j]? = some b->((l.set (j+1) b).set j a).Perm l
 | [],_,_,_,h,_=>by simp at h
 | [_],_,_,_,h,_=>by simp at h
 | x::y::l,0,a,b,h,k=>by
  simp at h k;subst h k;exact List.Perm.swap _ _ _
 | x::y::l,j+1,a,b,h,k=>List.Perm.cons x (Qz (l:=y::l) (j:=j) h k)
structure Ins (i j:Nat) (l:List Nat):Prop where
 le:j<=i
 rest:∀p r a b,p<r->r<=i->p≠j->r≠j->l[p]? = some a->l[r]? = some b->a<=b
 low:∀r a b,j<r->r<=i->l[j]? = some a->l[r]? = some b->a<=b
def aM (i:Nat)(l:List Nat):Prop:=∀p r a b,p<r->r<i->l[p]? = some a->l[r]? = some b->a<=b
theorem aM.ins {i:Nat}{l:List Nat}(h:aM i l):Ins i i l:=⟨Ar _,fun p r a b h1 h2 _ h4 k1 k2=>h p r a b h1 (by omega) k1 k2,fun r _ _ h1 h2=>by omega⟩
theorem Ins.done {i j:Nat}{l:List Nat}(h:Ins i j l)(hj:j=0 ∨ ∀a b,l[j-1]? = some b->l[j]? = some a->b<=a)(hl:i<l.length):aM (i+1) l:=by
 intro p r a b h1 h2 k1 k2
 by_cases e1:p=j
 .subst e1;exact h.low r a b h1 (by omega) k1 k2
 by_cases e2:r=j
 .subst e2;rcases hj with h0|hj
  .omega
  have hm:r-1<l.length:=by omega
  have km:l[r-1]? = some (l[r-1]'hm):=List.getElem?_eq_getElem _;have h5:=hj b _ km k2;rcases Nat.lt_or_ge p (r-1) with h6|h6
  .exact Eu (h.rest p (r-1) a _ h6 (by omega) e1 (by omega) k1 km) h5
  .obtain rfl:p=r-1:=by omega
   rw[k1]at km;cases km
   exact h5
 .exact h.rest p r a b h1 (by omega) e1 e2 k1 k2
theorem Ins.swap {i j x y:Nat}{l:List Nat}(h:Ins i (j+1) l)(hx:l[j+1]? = some x)(hy:l[j]? = some y)(hlt:x<y):Ins i j ((l.set (j+1) y).set j x):=by
 have hle:=h.le;obtain⟨l1,_⟩:=List.getElem?_eq_some_iff.1 hx;obtain⟨l2,_⟩:=List.getElem?_eq_some_iff.1 hy;have gj:((l.set (j+1) y).set j x)[j]? = some x:=by rw[List.getElem?_set_self (by simpa using l2)]
 have gj1:((l.set (j+1) y).set j x)[j+1]? = some y:=by rw[List.getElem?_set_ne (by omega),List.getElem?_set_self l1]
 have go:∀p,p≠j->p≠j+1->((l.set (j+1) y).set j x)[p]? = l[p]? := fun p h1 h2=>by rw[List.getElem?_set_ne (by omega),List.getElem?_set_ne (by omega)]
 refine⟨by omega,fun p r a b h1 h2 h3 h4 k1 k2=>?_,fun r a b h1 h2 k1 k2=>?_⟩
 .by_cases e1:p=j+1
  .subst e1;rw[gj1]at k1;cases k1
   rw[go r h4 (by omega)]at k2
   exact h.rest j r y b (by omega) h2 (by omega) (by omega) hy k2
  .rw[go p h3 e1]at k1
   by_cases e2:r=j+1
   .subst e2;rw[gj1]at k2;cases k2
    exact h.rest p j a y (by omega) (by omega) e1 (by omega) k1 hy
   .rw[go r h4 e2]at k2
    exact h.rest p r a b h1 h2 e1 e2 k1 k2
 .rw[gj]at k1;cases k1
  by_cases e2:r=j+1
  .subst e2;rw[gj1]at k2;cases k2
   omega
  .rw[go r (by omega) e2]at k2
   exact h.low r x b (by omega) h2 hx k2
theorem aM.pairwise {l:List Nat}(h:aM l.length l):l.Pairwise fun a b=>a<=b:=by
 rw[List.pairwise_iff_getElem];intro i j hi hj hij;exact h i j _ _ hij hj (List.getElem?_eq_getElem _) (List.getElem?_eq_getElem _)
theorem Ug (a b:List Nat):ints (a++b)=ints a++ints b:=by simp[ints]
theorem Uf (a:List Nat):(ints a).length=a.length:=by simp[ints]
theorem Ya (x c:Int):∀p:List Int,ev (p++[c]) x=ev p x+c*x^p.length
 | []=>by simp[ev]
 | a::p=>by
  show a+x*ev (p++[c]) x=a+x*ev p x+c*x^(p.length+1);rw[Ya x c p,Int.mul_add,Int.pow_succ,Int.mul_comm (x^p.length) x,<-Int.mul_assoc c,Int.mul_comm c x,Int.mul_assoc x c,Int.add_assoc]
theorem Xz {l:List Nat}{i c:Nat}(h:l[i]? = some c)(x:Int):ev (ints (l.take (i+1))) x=ev (ints (l.take i)) x+c*x^i:=by
 have hi:=(List.getElem?_eq_some_iff.1 h).1;rw[Dg h,Ug,show ints [c]=[(c:Int)] from rfl,Ya,Uf,List.length_take,Nat.min_eq_left (by omega)]
theorem cI (x:Int):∀ {l:List Nat} {j c:Nat} (_:l[j]? = some c) (d:Nat),ev (ints (l.set j d)) x=ev (ints l) x+((d:Int)-c)*x^j
 | [],_,_,h,_=>by simp at h
 | a::l,0,c,h,d=>by
  simp at h;subst h;show (d:Int)+x*ev (ints l) x=(a:Int)+x*ev (ints l) x+((d:Int)-a)*x^0;rw[Int.pow_zero,Int.mul_one];omega
 | a::l,j+1,c,h,d=>by
  have ih:=cI x (l:=l) (j:=j) (c:=c) (by simpa using h) d;show (a:Int)+x*ev (ints (l.set j d)) x=(a:Int)+x*ev (ints l) x+((d:Int)-c)*x^(j+1);rw[ih,Int.mul_add,Int.pow_succ,Int.mul_comm (x^j) x,<-Int.mul_assoc ((d:Int)-c),Int.mul_comm ((d:Int)-c) x,Int.mul_assoc x ((d:Int)-c),Int.add_assoc]
theorem Sq {q:Nat}(hq:0<q)(x:Int):∀l:List Nat,(q:Int) ∣ ev (ints (l.map fun c=>c%q)) x-ev (ints l) x
 | []=>by simp[ints,ev]
 | a::l=>by
  have ih:=Sq hq x l;have h1:=(Is.of hq a).dvd;show (q:Int) ∣ ((a%q:Nat):Int)+x*ev (ints (l.map fun c=>c%q)) x-((a:Int)+x*ev (ints l) x);have h2:=Int.dvd_add h1 (Ig ih x);rw[Int.mul_sub]at h2
  rwa [show ((a%q:Nat):Int)-a+(x*ev (ints (l.map fun c=>c%q)) x-x*ev (ints l) x)=((a%q:Nat):Int)+x*ev (ints (l.map fun c=>c%q)) x-((a:Int)+x*ev (ints l) x) by omega]at h2
theorem Rl {q x y:Nat}(h:(q:Int) ∣ (x:Int)-y):∀p:List Int,(q:Int) ∣ ev p x-ev p y
 | []=>by simp[ev]
 | a::p=>by
  have ih:=Rl h p;have h2:=Int.dvd_add (Ih h (ev p x)) (Ig ih (y:Int));rw[Int.mul_sub,Int.sub_mul]at h2
  show (q:Int) ∣ a+x*ev p x-(a+y*ev p y)
  rwa [show (x:Int)*ev p x-y*ev p x+(y*ev p x-y*ev p y)=a+x*ev p x-(a+y*ev p y) by omega]at h2
def addN:List Nat->List Nat->List Nat
 | [],r=>r
 | a::p,[]=>a::p
 | a::p,b::r=>(a+b)::addN p r
theorem Nk:∀p r,(addN p r).length=max p.length r.length
 | [],r=>by simp[addN]
 | a::p,[]=>by simp[addN]
 | a::p,b::r=>by simp only[addN,List.length_cons,Nk p r];omega
theorem Vh:∀(p r:List Nat) (i:Nat),i<max p.length r.length->(addN p r)[i]? = some (p.getD i 0+r.getD i 0)
 | [],r,i,h=>by
  simp at h;simp[addN,h]
 | a::p,[],i,h=>by
  simp only[List.length_nil,Nat.max_zero]at h;show (a::p)[i]? = _;rw[List.getElem?_eq_getElem h,Dx,List.getElem?_eq_getElem h];simp
 | a::p,b::r,0,_=>by simp[addN]
 | a::p,b::r,i+1,h=>by
  show (addN p r)[i]? = some (p.getD i 0+r.getD i 0);exact Vh p r i (by simp only[List.length_cons]at h;omega)
theorem Rh:∀p r,ints (addN p r)=Km (ints p) (ints r)
 | [],r=>by simp[addN,ints,Km]
 | a::p,[]=>by simp[addN,ints,Km]
 | a::p,b::r=>by
  show ((a+b:Nat):Int)::ints (addN p r)=((a:Int)+b)::Km (ints p) (ints r);rw[Rh p r,Int.natCast_add]
def Kl (q:Nat)(p r:List Nat):List Nat:=(addN p r).map fun c=>c%q
theorem Ni (q:Nat)(p r:List Nat):(Kl q p r).length=max p.length r.length:=by rw[Kl,List.length_map,Nk]
theorem dB (q:Nat)(p r:List Nat)(i:Nat)(h:i<max p.length r.length):(Kl q p r)[i]? = some ((p.getD i 0+r.getD i 0)%q):=by
 rw[Kl,List.getElem?_map,Vh p r i h];rfl
theorem fE {q:Nat}(hq:0<q)(p r:List Nat):∀c∈Kl q p r,c<q:=fun c h=>by
 obtain⟨d,_,rfl⟩:=List.mem_map.1 h;exact Nat.mod_lt _ hq
theorem fF {q:Nat}(hq:0<q)(x:Int)(p r:List Nat):(q:Int) ∣ ev (ints (Kl q p r)) x-(ev (ints p) x+ev (ints r) x):=by
 have:=Sq hq x (addN p r)
 rwa [Rh,Xb]at this
structure Hq (q:Nat) (p r:List Nat) (i a k:Nat) (acc:List Nat):Prop where
 len:acc.length=p.length+r.length-1
 lt:∀c∈acc,c<q
 val:∀x:Int,(q:Int) ∣ ev (ints acc) x-(ev (ints (p.take i)) x*ev (ints r) x+a*x^i*ev (ints (r.take k)) x)
theorem Pi (x:Int):∀n,ev (ints (List.replicate n 0)) x=0
 | 0=>rfl
 | n+1=>by
  show ((0:Nat):Int)+x*ev (ints (List.replicate n 0)) x=0;rw[Pi x n];simp
theorem Hq.start {q:Nat}(hq:0<q)(p r:List Nat)(a:Nat):Hq q p r 0 a 0 (List.replicate (p.length+r.length-1) 0) :=
 ⟨by simp,fun c hc=>by rw[(List.mem_replicate.1 hc).2];exact hq,fun x=>by
  rw[Pi,List.take_zero,List.take_zero];simp[ints,ev]⟩
theorem Hq.step {q:Nat}{p r acc:List Nat}{i a k b c:Nat}(hq:0<q)(h:Hq q p r i a k acc)(hb:r[k]? = some b)(hc:acc[i+k]? = some c):Hq q p r i a (k+1) (acc.set (i+k) ((c+a*b%q)%q)) :=
 ⟨by rw[List.length_set];exact h.len,fun d hd=>by
  rcases List.mem_or_eq_of_mem_set hd with h1|h1
  .exact h.lt d h1
  .rw[h1];exact Nat.mod_lt _ hq,fun x=>by
  have h1:=h.val x;have h2:(q:Int) ∣ (((c+a*b%q)%q:Nat):Int)-c-a*b:=by
   have e1:=(Is.of hq (c+a*b%q)).dvd;have e2:=(Is.of hq (a*b)).dvd;have:=Int.dvd_add e1 e2
   rwa [show (((c+a*b%q)%q:Nat):Int)-((c+a*b%q:Nat):Int)+(((a*b%q:Nat):Int)-((a*b:Nat):Int))=(((c+a*b%q)%q:Nat):Int)-c-a*b by rw[Int.natCast_mul];omega]at this
  rw[cI x hc,Xz hb,Int.mul_add];have h3:=Int.dvd_add h1 (Ih h2 (x^(i+k)));generalize (((c+a*b%q)%q:Nat):Int)=D at *;have e:(a:Int)*x^i*(b*x^k)=a*b*x^(i+k):=by
   rw[Int.pow_add,Int.mul_assoc,Int.mul_assoc,<-Int.mul_assoc (x^i),Int.mul_comm (x^i) (b:Int),Int.mul_assoc]
  rw[e];rw[Int.sub_mul (D-c)]at h3
  generalize (D-(c:Int))*x^(i+k)=A at *;generalize (a:Int)*b*x^(i+k)=B at *
  rwa [show ev (ints acc) x-(ev (ints (p.take i)) x*ev (ints r) x+a*x^i*ev (ints (r.take k)) x)+(A-B)=ev (ints acc) x+A-(ev (ints (p.take i)) x*ev (ints r) x+(a*x^i*ev (ints (r.take k)) x+B)) by omega]at h3⟩
theorem Hq.next {q:Nat}{p r acc:List Nat}{i a:Nat}(h:Hq q p r i a r.length acc)(ha:p[i]? = some a)(b:Nat):Hq q p r (i+1) b 0 acc :=
 ⟨h.len,h.lt,fun x=>by
  have h1:=h.val x;rw[List.take_length,<-Int.add_mul]at h1
  rw[Xz ha,List.take_zero,show ints []=[] from rfl,show ev [] x=0 from rfl,Int.mul_zero,Int.add_zero];exact h1⟩
theorem Hq.again {q:Nat}{p r acc:List Nat}{i a:Nat}(h:Hq q p r i a 0 acc)(b:Nat):Hq q p r i b 0 acc :=
 ⟨h.len,h.lt,fun x=>by
  have h1:=h.val x;rw[List.take_zero,show ints []=[] from rfl,show ev [] x=0 from rfl,Int.mul_zero]at *
  exact h1⟩
theorem Hq.done {q:Nat}{p r acc:List Nat}{a:Nat}(h:Hq q p r p.length a 0 acc)(x:Int):(q:Int) ∣ ev (ints acc) x-ev (ints p) x*ev (ints r) x:=by
 have h1:=h.val x;rw[List.take_length,List.take_zero,show ints []=[] from rfl,show ev [] x=0 from rfl,Int.mul_zero,Int.add_zero]at h1
 exact h1
structure Pv (q:Nat) (p r s:List Nat):Prop where
 len:s.length=p.length+r.length-1
 lt:∀c∈s,c<q
 val:∀x:Int,(q:Int) ∣ ev (ints s) x-ev (ints p) x*ev (ints r) x
theorem Pv.of_mod {q:Nat}(hq:0<q){p r s:List Nat}(h:Pv q (p.map fun c=>c%q) (r.map fun c=>c%q) s):Pv q p r s :=
 ⟨by have:=h.len;simpa using this,h.lt,fun x=>by
  have h1:=h.val x;have h2:=Sq hq x p;have h3:=Sq hq x r;generalize ev (ints (p.map fun c=>c%q)) x=A at *;generalize ev (ints (r.map fun c=>c%q)) x=B at *;have h4:=Int.dvd_add h1 (Int.dvd_add (Ih h2 B) (Ig h3 (ev (ints p) x)));rw[Int.sub_mul,Int.mul_sub]at h4
  generalize ev (ints p) x*B=C at *
  rwa [show ev (ints s) x-A*B+(A*B-C+(C-ev (ints p) x*ev (ints r) x))=ev (ints s) x-ev (ints p) x*ev (ints r) x by omega]at h4⟩
theorem Ou {z:Int}:∀l:List Int,0∈l->Gn l=0
 | a::l,h=>by
  show a*Gn l=0;rcases List.mem_cons.1 h with h|h
  .rw[<-h,Int.zero_mul]
  .rw[Ou (z:=z) l h,Int.mul_zero]
structure Gw (q:Nat) (zs ys:List Nat) (k:Nat) (p s:List Nat):Prop where
 plen:p.length=k
 plt:∀c∈p,c<q
 pval:∀j z y,j<k->zs[j]? = some z->ys[j]? = some y->(q:Int) ∣ ev (ints p) z-y
 slen:s.length=k+1
 slt:∀c∈s,c<q
 sval:∀x:Int,(q:Int) ∣ ev (ints s) x-Gn ((zs.take k).map fun z:Nat=>x-z)
theorem Gw.start {q:Nat}(hq:2<=q)(zs ys:List Nat):Gw q zs ys 0 [] [1] :=
 ⟨rfl,(fun c h=>by cases h),(fun j _ _ h=>by omega),rfl,(fun c h=>by simp at h;omega),fun x=>by
  rw[List.take_zero];show (q:Int) ∣ ((1:Nat):Int)+x*0-1;simp⟩
theorem Gw.apart {q:Nat}{zs ys p s:List Nat}{k z:Nat}(hq:Bo q)(h:Gw q zs ys k p s)(hu:Ez q (ints zs))(hz:zs[k]? = some z):¬(q:Int) ∣ ev (ints s) z:=by
 have h1:=Mt hq (z:Int) (zs.take k) fun a ha=>Qd hu hz a (List.mem_append_left _ ha)
 intro h2;refine h1 ?_;have h3:=Int.dvd_sub h2 (h.sval z)
 rwa [show ev (ints s) (z:Int)-(ev (ints s) (z:Int)-Gn ((zs.take k).map fun a:Nat=>(z:Int)-a))=Gn ((zs.take k).map fun a:Nat=>(z:Int)-a) by omega]at h3
theorem bI {q A B I:Nat}{e d:Int}(hq:Bo q)(hA:Is q A d)(hB:Is q B e)(hI:Gc q B I)(he:¬(q:Int) ∣ e):(q:Int) ∣ e*(A*I%q:Nat)-d:=by
 have h1:=Is.inv (N:=B) hq (by rw[Nat.mod_eq_of_lt hB.lt];exact hB) hI he;have h2:Is q (A*I%q) (d*I):=hA.mul ⟨h1.2,by simp⟩;have h3:=Int.dvd_add (Ig h2.dvd e) (Ig h1.1 d);rw[Int.mul_sub,Int.mul_sub,Int.mul_one]at h3
 rwa [show e*(A*I%q:Nat)-e*(d*I)+(d*(e*I)-d)=e*(A*I%q:Nat)-d by
  rw[show e*(d*(I:Int))=d*(e*I) by rw[<-Int.mul_assoc,Int.mul_comm e d,Int.mul_assoc]];omega]at h3
theorem Gw.step {q:Nat}{zs ys p s p2 m s2:List Nat}{k z y O t:Nat}(h:Gw q zs ys k p s)(hz:zs[k]? = some z)(hy:ys[k]? = some y)(hO:(q:Int) ∣ ev (ints s) z*O-(y-ev (ints p) z))(hm:Pv q s [O] m)(hp2:p2=Kl q p m)(hq:0<q)(ht:(q:Int) ∣ (t:Int)+z)(hs2:Pv q s [t,1] s2):Gw q zs ys (k+1) p2 s2:=by
 have hv:∀x:Int,(q:Int) ∣ ev (ints p2) x-(ev (ints p) x+ev (ints s) x*O):=fun x=>by
  have h1:=fF hq x p m;have h2:=hm.val x;rw[show ev (ints [O]) x=(O:Int) by show (O:Int)+x*0=O;omega]at h2
  have:=Int.dvd_add h1 h2;rw[hp2]
  rwa [show ev (ints (Kl q p m)) x-(ev (ints p) x+ev (ints m) x)+(ev (ints m) x-ev (ints s) x*O)=ev (ints (Kl q p m)) x-(ev (ints p) x+ev (ints s) x*O) by omega]at this
 refine⟨?_,?_,?_,?_,hs2.lt,?_⟩
 .rw[hp2,Ni,hm.len,h.plen,h.slen];simp
 .rw[hp2];exact fE hq p m
 .intro j a b hj ha hb;have h1:=hv a
  by_cases e:j=k
  .subst e;rw[hz]at ha;cases ha
   rw[hy]at hb;cases hb
   have:=Int.dvd_add h1 hO
   rwa [show ev (ints p2) (z:Int)-(ev (ints p) z+ev (ints s) z*O)+(ev (ints s) z*O-(y-ev (ints p) z))=ev (ints p2) z-y by omega]at this
  .have h2:=h.pval j a b (by omega) ha hb;have h3:=h.sval a;rw[Ou (z:=0) _ (List.mem_map.2 ⟨a,List.mem_of_getElem? (i:=j) (by rw[List.getElem?_take,if_pos (by omega)];exact ha),by omega⟩),Int.sub_zero]at h3
   have h4:=Int.dvd_add (Int.dvd_add h1 h2) (Ih h3 (O:Int))
   rwa [show ev (ints p2) (a:Int)-(ev (ints p) a+ev (ints s) a*O)+(ev (ints p) a-b)+ev (ints s) a*O=ev (ints p2) a-b by omega]at h4
 .rw[hs2.len,h.slen];rfl
 .intro x;have h1:=hs2.val x;have h2:=h.sval x;rw[show ev (ints [t,1]) x=(t:Int)+x by show (t:Int)+x*(((1:Nat):Int)+x*0)=t+x;simp]at h1
  rw[Dg hz,List.map_append,List.map_singleton,Ov];generalize Gn ((zs.take k).map fun z:Nat=>x-z)=A at *;have h3:=Int.dvd_add (Int.dvd_add h1 (Ih h2 ((t:Int)+x))) (Ig ht A);rw[Int.sub_mul,Int.mul_add,Int.mul_add A,Int.mul_add A]at h3
  rw[Int.mul_sub]
  rwa [show ev (ints s2) x-(ev (ints s) x*t+ev (ints s) x*x)+(ev (ints s) x*t+ev (ints s) x*x-(A*t+A*x))+(A*t+A*z)=ev (ints s2) x-(A*x-A*z) by omega]at h3
end Go.Proofs.YtnbmfaihlefgfaaGreatDoor
