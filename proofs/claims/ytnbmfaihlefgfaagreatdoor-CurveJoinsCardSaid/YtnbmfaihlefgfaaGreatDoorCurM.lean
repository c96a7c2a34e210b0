/- Weights, all differences multiplied first; rows that are sorted; Newton's way: over numbers. Of no program (stage 10). -/
import Derived.Test.YtnbmfaihlefgfaaGreatDoorCpI
set_option maxRecDepth 1000000
set_option maxHeartbeats 16000000
set_option linter.all false
namespace Go.Proofs.YtnbmfaihlefgfaaGreatDoor
theorem Hp {M a b:Nat}(h:(M:Int) ∣ (a:Int)-b):a%M=b%M:=by
 have:=Int.emod_emod_of_dvd;have h1:((a:Int)-b)%M=0:=Int.emod_eq_zero_of_dvd h;have h2:=Int.emod_eq_emod_iff_emod_sub_eq_zero.2 h1
 exact_mod_cast h2
theorem Kf {M a b:Nat}(h:a%M=b%M):(M:Int) ∣ (a:Int)-b:=by
 have h2:(a:Int)%M=(b:Int)%M:=by exact_mod_cast h
 exact Int.dvd_of_emod_eq_zero (Int.emod_eq_emod_iff_emod_sub_eq_zero.1 h2)
def Ia (M N X:Nat):Prop:=(Nat.gcd M N=1->X<M/\X*N%M=1%M)/\(Nat.gcd M N≠1->X=0)
theorem cV {M N X Y:Nat}(hX:X<M)(hY:Y<M)(h1:X*N%M=1%M)(h2:Y*N%M=1%M):X=Y:=by
 have e1:(X*N)*Y%M=Y%M:=by rw[Nat.mul_mod,h1,<-Nat.mul_mod,Nat.one_mul]
 have e2:X*(Y*N)%M=X%M:=by rw[Nat.mul_mod,h2,<-Nat.mul_mod,Nat.mul_one]
 have e3:(X*N)*Y=X*(Y*N):=by rw[Nat.mul_assoc,Nat.mul_comm N Y]
 rw[e3,e2,Nat.mod_eq_of_lt hX,Nat.mod_eq_of_lt hY]at e1
 exact e1
theorem Ia.uniq {M N X Y:Nat}(h:Ia M N X)(k:Ia M N Y):X=Y:=by
 by_cases hg:Nat.gcd M N=1
 .exact cV (h.1 hg).1 (k.1 hg).1 (h.1 hg).2 (k.1 hg).2
 .rw[h.2 hg,k.2 hg]
structure Pg (M N D R O X:Nat) (neg:Bool):Prop where
 gcd:Nat.gcd D R=Nat.gcd M N
 sum:O*R+X*D=M
 pos:0<D
 le:O<=M
 dle:D<=M
 rle:R<=M
 par:if neg=true then (M:Int) ∣ (O*N:Nat)+(D:Int)/\(M:Int) ∣ (X*N:Nat)-(R:Int) else (M:Int) ∣ (O*N:Nat)-(D:Int)/\(M:Int) ∣ (X*N:Nat)+(R:Int)
theorem Pg.start {M N:Nat}(hM:0<M):Pg M N M (N%M) 0 1 true:=by
 refine⟨by rw[Nat.gcd_comm,<-Nat.gcd_rec],by omega,hM,by omega,Av _,Nat.le_of_lt (Nat.mod_lt _ hM),?_⟩;rw[if_pos rfl];refine⟨by simp,?_⟩;rw[Nat.one_mul];exact Kf (Nat.mod_mod _ _).symm
theorem Pg.step {M N D R O X:Nat}{neg:Bool}(h:Pg M N D R O X neg)(hR:0<R):Pg M N R (D%R) X (O+D/R*X) (!neg):=by
 have hD:(D:Int)=(D/R:Nat)*(R:Int)+(D%R:Nat):=by
  have:=Nat.div_add_mod D R;rw[Nat.mul_comm]at this
  exact_mod_cast this.symm
 have hle:X<=M:=by
  have h1:=h.sum;have h2:X*1<=X*D:=Nat.mul_le_mul_left X h.pos;omega
 have hX:(((O+D/R*X)*N:Nat):Int)=((O*N:Nat):Int)+(D/R:Nat)*((X*N:Nat):Int):=by
  rw[Nat.add_mul,Nat.mul_assoc]
  push_cast
  rfl
 refine⟨by rw[<-h.gcd,Nat.gcd_comm D R,Nat.gcd_rec R D,Nat.gcd_comm],?_,hR,hle,h.rle,Dm (Nat.mod_le _ _) h.dle,?_⟩
 .have h1:=h.sum;have h2:=Nat.div_add_mod D R;have h3:X*(D%R)+X*(R*(D/R))=X*D:=by rw[<-Nat.mul_add];congr 1;omega
  have h4:(O+D/R*X)*R=O*R+X*(R*(D/R)):=by rw[Nat.add_mul,Nat.mul_assoc,Nat.mul_comm (D/R),Nat.mul_assoc]
  omega
 .have hp:=h.par;clear h;rw[hX];clear hX;generalize ((O*N:Nat):Int)=on at *;generalize ((X*N:Nat):Int)=xn at *;generalize ((D/R:Nat):Int)=q at *;generalize ((D%R:Nat):Int)=r at *
  cases neg with
  | true=>
   simp only[Bool.not_true,Bool.false_eq_true,if_false,if_true]at hp ⊢;refine⟨hp.2,?_⟩;have e:on+q*xn+r=(on+(D:Int))+q*(xn-(R:Int)):=by rw[Int.mul_sub];omega
   rw[e];exact Int.dvd_add hp.1 (Int.dvd_mul_of_dvd_right hp.2)
  | false=>
   simp only[Bool.not_false,Bool.false_eq_true,if_false,if_true]at hp ⊢;refine⟨hp.2,?_⟩;have e:on+q*xn-r=(on-(D:Int))+q*(xn+(R:Int)):=by rw[Int.mul_add];omega
   rw[e];exact Int.dvd_add hp.1 (Int.dvd_mul_of_dvd_right hp.2)
theorem Pg.next_le {M N D R O X:Nat}{neg:Bool}(h:Pg M N D R O X neg):X<=M:=by
 have h1:=h.sum;have h2:X*1<=X*D:=Nat.mul_le_mul_left X h.pos;omega
theorem Pg.done {M N D O X:Nat}{neg:Bool}(h:Pg M N D 0 O X neg)(hM:2<=M):D=Nat.gcd M N/\(D=1->Ia M N (if neg=true then M-O else O)):=by
 have hg:D=Nat.gcd M N:=by rw[<-h.gcd,Nat.gcd_zero_right]
 refine⟨hg,fun h1=>⟨fun _=>?_,fun hn=>absurd (by rw[<-hg,h1]) hn⟩⟩;have hp:=h.par;have hle:=h.le;have no1:¬(M:Int) ∣ 1:=fun hd=>by
  have:=Int.le_of_dvd (by omega) hd;omega
 subst h1
 cases neg with
 | true=>
  simp only[if_true]at hp ⊢;have hO:O≠0:=fun h0=>no1 (by subst h0;simpa using hp.1)
  refine⟨by omega,Hp ?_⟩;have e:(((M-O)*N:Nat):Int)-((1:Nat):Int)=(M:Int)*N-(((O*N:Nat):Int)+((1:Nat):Int)):=by
   rw[Nat.sub_mul,Int.ofNat_sub (Nat.mul_le_mul_right N hle)]
   push_cast
   omega
  rw[e];exact Int.dvd_sub (Int.dvd_mul_right _ _) hp.1
 | false=>
  simp only[Bool.false_eq_true,if_false]at hp ⊢;refine⟨Nat.lt_of_le_of_ne hle fun he=>no1 ?_,Hp hp.1⟩;subst he;have h2:(O:Int) ∣ ((O*N:Nat):Int):=by push_cast;exact Int.dvd_mul_right _ _
  have:=Int.dvd_sub h2 hp.1
  rwa [show ((O*N:Nat):Int)-(((O*N:Nat):Int)-((1:Nat):Int))=1 by omega]at this
structure Tr (M N U V X Y:Nat):Prop where
 gcd:Nat.gcd U V=Nat.gcd M N
 le:U<=M
 one:(M:Int) ∣ (X*N:Nat)-(U:Int)
 two:(M:Int) ∣ (Y*N:Nat)-(V:Int)
theorem Tr.start {M N:Nat}:Tr M N M (N%M) 0 1 :=
 ⟨by rw[Nat.gcd_comm,<-Nat.gcd_rec],Av _,by simp,by rw[Nat.one_mul];exact Kf (Nat.mod_mod _ _).symm⟩
theorem Tr.step {M N U V X Y Z:Nat}(h:Tr M N U V X Y)(hV:V<U)(hZ:(M:Int) ∣ (Z:Int)-((X:Int)-(U/V:Nat)*Y)):Tr M N V (U%V) Y Z:=by
 have hU:(U:Int)=(U/V:Nat)*(V:Int)+(U%V:Nat):=by
  have:=Nat.div_add_mod U V;rw[Nat.mul_comm]at this
  exact_mod_cast this.symm
 refine⟨by rw[<-h.gcd,Nat.gcd_comm U V,Nat.gcd_rec V U,Nat.gcd_comm],by have:=h.le;omega,h.two,?_⟩;have h1:=h.one;have h2:=h.two;generalize ((U/V:Nat):Int)=q at *;generalize ((U%V:Nat):Int)=r at *;have e:((Z*N:Nat):Int)-r=((Z:Int)-((X:Int)-q*Y))*N+((((X*N:Nat):Int)-U)-q*(((Y*N:Nat):Int)-V)):=by
  push_cast
  rw[Int.sub_mul,Int.sub_mul,Int.mul_sub,Int.mul_assoc];omega
 rw[e];exact Int.dvd_add (Int.dvd_mul_of_dvd_left hZ) (Int.dvd_sub h1 (Int.dvd_mul_of_dvd_right h2))
theorem Tr.done {M N U X Y:Nat}(h:Tr M N U 0 X Y):U=Nat.gcd M N/\(U=1->X*N%M=1%M):=by
 refine⟨by rw[<-h.gcd,Nat.gcd_zero_right],fun h1=>?_⟩;have:=h.one;rw[h1]at this
 exact Hp this
def ev:List Int->Int->Int
 | [],_=>0
 | c::p,x=>c+x*ev p x
theorem Ch.dvd_imul {q:Nat}(hq:Ch q){a b:Int}(h:(q:Int) ∣ a*b):(q:Int) ∣ a ∨ (q:Int) ∣ b:=by
 rw[Int.ofNat_dvd_left,Int.natAbs_mul]at h
 rcases hq.dvd_mul h with h|h
 .exact .inl (Int.ofNat_dvd_left.2 h)
 .exact .inr (Int.ofNat_dvd_left.2 h)
def Iy (q:Nat)(xs:List Int):Prop:=xs.Pairwise fun a b=>¬(q:Int) ∣ a-b
def Xv:List Int->List Int->List Int
 | [],r=>r
 | p,[]=>p
 | a::p,b::r=>(a+b)::Xv p r
theorem lL (x:Int):∀p r,ev (Xv p r) x=ev p x+ev r x
 | [],r=>by simp[Xv,ev]
 | a::p,[]=>by simp[Xv,ev]
 | a::p,b::r=>by
  show (a+b)+x*ev (Xv p r) x=(a+x*ev p x)+(b+x*ev r x);rw[lL x p r,Int.mul_add];omega
def jA:List (Int×Int)->Int->Int
 | [],_=>1
 | (a,v)::l,x=>(x-a)*v*jA l x
theorem Iy.neg {q:Nat}{a b:Int}(h:¬(q:Int) ∣ a-b):¬(q:Int) ∣ b-a:=fun k=>h (by have:=Int.dvd_neg.2 k;rw[Int.neg_sub]at this;exact this)
def rF (q:Nat)(iv:Int->Int)(xs:List Int):Prop:=∀a b,a∈xs->b∈xs->¬(q:Int) ∣ a-b->(q:Int) ∣ (a-b)*iv (a-b)-1
theorem Kc {q a:Int}(h:q ∣ a)(b:Int):q ∣ a*b:=let ⟨k,hk⟩:=h;⟨k*b,by rw[hk,Int.mul_assoc]⟩
theorem Lg {q a:Int}(h:q ∣ a)(b:Int):q ∣ b*a:=by rw[Int.mul_comm];exact Kc h b
structure Is (q N:Nat) (z:Int):Prop where
 lt:N<q
 dvd:(q:Int) ∣ (N:Int)-z
theorem Is.of {q:Nat}(hq:0<q)(N:Nat):Is q (N%q) N:=⟨Nat.mod_lt _ hq,by
 have h:=Nat.div_add_mod N q;refine⟨-((N/q:Nat):Int),?_⟩;have h2:(N:Int)=(q:Int)*(N/q:Nat)+(N%q:Nat):=by rw[<-Int.natCast_mul,<-Int.natCast_add,h]
 rw[Int.mul_neg];omega⟩
theorem Is.alike {q N:Nat}{x y:Int}(h:Is q N x)(hxy:(q:Int) ∣ x-y):Is q N y:=⟨h.lt,by
 have:=Int.dvd_add h.dvd hxy
 rwa [show (N:Int)-x+(x-y)=N-y by omega]at this⟩
theorem Is.uniq {q a b:Nat}{x y:Int}(h:Is q a x)(k:Is q b y)(hxy:(q:Int) ∣ x-y):a=b:=by
 have h1:=Int.dvd_sub (h.alike hxy).dvd k.dvd;rw[show (a:Int)-y-((b:Int)-y)=(a:Int)-b by omega]at h1
 have h2:=Hp h1
 rwa [Nat.mod_eq_of_lt h.lt,Nat.mod_eq_of_lt k.lt]at h2
theorem Is.rest {q N:Nat}{z:Int}(hq:0<q)(h:(q:Int) ∣ (N:Int)-z):Is q (N%q) z:=(Is.of hq N).alike h
theorem Is.mul {q a b:Nat}{x y:Int}(h:Is q a x)(k:Is q b y):Is q (a*b%q) (x*y):=Is.rest (Nat.lt_of_le_of_lt (Nat.zero_le _) h.lt) (by
 have h1:=Int.dvd_add (Kc h.dvd (b:Int)) (Lg k.dvd x)
 rwa [show ((a:Int)-x)*b+x*((b:Int)-y)=((a*b:Nat):Int)-x*y by rw[Int.sub_mul,Int.mul_sub,Int.natCast_mul];omega]at h1)
theorem Is.sub {q a b:Nat}{x y:Int}(hq:2<=q)(h:Is q a x)(k:Is q b y):Is q (Cb a b q) (x-y):=⟨Jt hq,by
 have h1:=Int.dvd_sub h.dvd k.dvd;unfold Cb;rw[Nat.mod_eq_of_lt h.lt,Nat.mod_eq_of_lt k.lt];split
 .rwa [show (a:Int)-x-((b:Int)-y)=((a-b:Nat):Int)-(x-y) by omega]at h1
 .have h2:=Int.dvd_add h1 (Int.dvd_refl (q:Int));have:=k.lt
  rwa [show (a:Int)-x-((b:Int)-y)+q=((q-b+a:Nat):Int)-(x-y) by omega]at h2⟩
theorem Is.one {q:Nat}(hq:2<=q):Is q 1 1:=⟨by omega,by simp⟩
theorem Is.zero {q:Nat}(hq:0<q):Is q 0 0:=⟨hq,by simp⟩
theorem Is.inv {q N X:Nat}{z:Int}(hq:Ch q)(h:Is q (N%q) z)(hX:Ia q N X)(hz:¬(q:Int) ∣ z):(q:Int) ∣ z*X-1/\X<q:=by
 have hg:Nat.gcd q N=1:=hq.coprime fun hd=>hz (by
  have h1:N%q=0:=Nat.mod_eq_zero_of_dvd hd;have h2:=h.dvd;rw[h1]at h2
  have:=Int.dvd_neg.2 h2
  rwa [show -(((0:Nat):Int)-z)=z by omega]at this)
 obtain⟨h1,h2⟩:=hX.1 hg;refine⟨?_,h1⟩;have h3:(q:Int) ∣ ((X*N:Nat):Int)-(1:Nat):=Kf h2;have h4:(q:Int) ∣ (N:Int)-z:=by
  have h5:=Int.dvd_sub (Is.of (by have:=hq.two;omega) N).dvd h.dvd;have h6:=Int.dvd_neg.2 h5
  rwa [show -(((N%q:Nat):Int)-N-(((N%q:Nat):Int)-z))=N-z by omega]at h6
 have h7:=Int.dvd_sub h3 (Lg h4 (X:Int))
 rwa [show ((X*N:Nat):Int)-(1:Nat)-X*((N:Int)-z)=z*X-1 by rw[Int.natCast_mul,Int.mul_sub,Int.mul_comm z X];omega]at h7
def Lh (q x:Nat):List Nat->Nat
 | []=>0
 | c::l=>(c+Lh q x l*x%q)%q
theorem Wy {q x:Nat}(hq:2<=q):∀l:List Nat,Is q (Lh q x l) (ev (l.map fun c:Nat=>(c:Int)) x)
 | []=>Is.zero (by omega)
 | c::l=>by
  have ih:=Wy (q:=q) (x:=x) hq l;have h0:0<q:=by omega
  have h1:Is q (Lh q x l*x%q) (ev (l.map fun c:Nat=>(c:Int)) x*x):=Is.rest h0 (by
   have:=Kc ih.dvd (x:Int)
   rwa [Int.sub_mul,<-Int.natCast_mul]at this)
  refine Is.rest h0 ?_;show (q:Int) ∣ ((c+Lh q x l*x%q:Nat):Int)-((c:Int)+x*ev (l.map fun c:Nat=>(c:Int)) x);have:=h1.dvd;rw[Int.mul_comm]at this
  rwa [show ((c+Lh q x l*x%q:Nat):Int)-((c:Int)+x*ev (l.map fun c:Nat=>(c:Int)) x)=((Lh q x l*x%q:Nat):Int)-x*ev (l.map fun c:Nat=>(c:Int)) x by omega]
theorem kU {M N:Nat}(hM:2<=M):∀(R D O X:Nat) (neg:Bool),Pg M N D R O X neg->∃Y,Ia M N Y:=by
 intro R
 induction R using Nat.strongRecOn with
 | _ R ih=>
  intro D O X neg h;rcases Nat.eq_zero_or_pos R with h0|h0
  .subst h0;have h1:=h.done hM
   by_cases hD:D=1
   .exact⟨_,h1.2 hD⟩
   .exact⟨0,fun hg=>absurd (h1.1.trans hg) hD,fun _=>rfl⟩
  .exact ih (D%R) (Nat.mod_lt _ h0) _ _ _ _ (h.step h0)
theorem cW {M:Nat}(hM:2<=M)(N:Nat):∃Y,Ia M N Y:=kU hM _ _ _ _ _ (Pg.start (M:=M) (N:=N) (by omega))
noncomputable def Mx (M N:Nat):Nat:=Classical.epsilon fun Y=>Ia M N Y
theorem Ou {M:Nat}(hM:2<=M)(N:Nat):Ia M N (Mx M N):=Classical.epsilon_spec (cW hM N)
theorem Wx {M N X:Nat}(hM:2<=M)(h:Ia M N X):X=Mx M N:=h.uniq (Ou hM N)
noncomputable def Ww (q:Nat) (z:Int):Int:=(Mx q (z%q).toNat:Nat)
theorem eG {q:Nat}(hq:0<q)(z:Int):Is q (z%q).toNat z:=by
 have h1:=Int.emod_nonneg z (show (q:Int)≠0 by omega);have h2:=Int.emod_lt_of_pos z (show (0:Int)<q by omega);refine⟨by omega,?_⟩;rw[Int.toNat_of_nonneg h1];refine⟨-(z/q),?_⟩;have:=Int.mul_ediv_add_emod z q;rw[Int.mul_neg];omega
theorem kT {q:Nat}(hq:Ch q)(xs:List Int):rF q (Ww q) xs:=fun a b _ _ h=>by
 have h0:0<q:=by have:=hq.two;omega
 have h1:=eG h0 (a-b);exact(Is.inv (N:=((a-b)%q).toNat) hq (by rw[Nat.mod_eq_of_lt h1.lt];exact h1) (Ou hq.two _) h).1
theorem nX {q N:Nat}{z:Int}(h:Is q N z):(z%q).toNat=N :=
 (eG (Nat.lt_of_le_of_lt (Nat.zero_le _) h.lt) z).uniq h (by simp)
noncomputable def Fv (q x xi:Nat) (o:Nat):List Nat->Nat
 | []=>o
 | a::l=>Fv q x xi (o*(Cb x a q*Mx q (Cb xi a q)%q)%q) l
theorem eR {q x xi:Nat}(hq:2<=q):∀(l:List Nat) (o:Nat) (z:Int),Is q o z ->
  Is q (Fv q x xi o l) (z*jA (l.map fun a:Nat=>((a:Int),Ww q ((xi:Int)-a))) x)
 | [],o,z,h=>by
  show Is q o (z*1);rw[Int.mul_one];exact h
 | a::l,o,z,h=>by
  have h0:0<q:=by omega
  have d1:Is q (Cb x a q) ((x:Int)-a):=by
   have:=(Is.of h0 x).sub hq (Is.of h0 a);have e:Cb (x%q) (a%q) q=Cb x a q:=by unfold Cb;rw[Nat.mod_mod,Nat.mod_mod]
   rwa [e]at this
  have d2:Is q (Cb xi a q) ((xi:Int)-a):=by
   have:=(Is.of h0 xi).sub hq (Is.of h0 a);have e:Cb (xi%q) (a%q) q=Cb xi a q:=by unfold Cb;rw[Nat.mod_mod,Nat.mod_mod]
   rwa [e]at this
  have h2:Is q (Cb x a q*Mx q (Cb xi a q)%q) (((x:Int)-a)*Ww q ((xi:Int)-a)):=by
   refine Is.rest h0 ?_;rw[Ww,nX d2,Int.natCast_mul,<-Int.sub_mul];exact Kc d1.dvd _
  have h3:=eR (x:=x) (xi:=xi) hq l _ _ (h.mul h2);show Is q (Fv q x xi (o*(Cb x a q*Mx q (Cb xi a q)%q)%q) l) (z*(((x:Int)-a)*Ww q ((xi:Int)-a)*jA (l.map fun a:Nat=>((a:Int),Ww q ((xi:Int)-a))) x));rw[<-Int.mul_assoc];exact h3
noncomputable def Nc (q x:Nat):List Nat->List Nat->List Nat->Nat->Nat
 | pre,z::post,y::ys,o=>Nc q x (pre++[z]) post ys ((o+Fv q x z 1 (pre++post)*y%q)%q)
 | _,_,_,o=>o
def ints (l:List Nat):List Int:=l.map fun a:Nat=>(a:Int)
theorem pK {q:Nat}(hq:2<=q)(x a:Nat):Is q (Cb x a q) ((x:Int)-a):=by
 have h0:0<q:=by omega
 have:=(Is.of h0 x).sub hq (Is.of h0 a);have e:Cb (x%q) (a%q) q=Cb x a q:=by unfold Cb;rw[Nat.mod_mod,Nat.mod_mod]
 rwa [e]at this
def Dd (q x:Nat)(o:Nat):List Nat->Nat
 | []=>o
 | a::l=>Dd q x (o*Cb x a q%q) l
theorem Nx (q x:Nat):∀(l:List Nat) (o a:Nat),Dd q x o (l++[a])=Dd q x o l*Cb x a q%q
 | [],_,_=>rfl
 | _::l,_,a=>Nx q x l _ a
theorem Ls {q x:Nat}(hq:2<=q):∀(l:List Nat) (o:Nat),o<q->Dd q x o l<q
 | [],_,h=>h
 | _::l,_,_=>Ls hq l _ (Nat.mod_lt _ (by omega))
def Dg:List Int->Int
 | []=>1
 | a::l=>a*Dg l
theorem Sj:∀(l:List Int) (a:Int),Dg (l++[a])=Dg l*a
 | [],a=>by show a*1=1*a;omega
 | b::l,a=>by
  show b*Dg (l++[a])=b*Dg l*a;rw[Sj l a,Int.mul_assoc]
theorem Oy {q x:Nat}(hq:2<=q):∀(l:List Nat) (o:Nat) (z:Int),Is q o z->Is q (Dd q x o l) (z*Dg (l.map fun a:Nat=>(x:Int)-a))
 | [],o,z,h=>by
  show Is q o (z*1);rw[Int.mul_one];exact h
 | a::l,o,z,h=>by
  have h3:=Oy (x:=x) hq l _ _ (h.mul (pK hq x a));show Is q (Dd q x (o*Cb x a q%q) l) (z*(((x:Int)-a)*Dg (l.map fun a:Nat=>(x:Int)-a)));rw[<-Int.mul_assoc];exact h3
theorem Um (iv:Nat->Int)(x:Int):∀l:List Nat,jA (l.map fun a:Nat=>((a:Int),iv a)) x=Dg (l.map fun a:Nat=>x-a)*Dg (l.map iv)
 | []=>rfl
 | a::l=>by
  show (x-(a:Int))*iv a*jA (l.map fun a:Nat=>((a:Int),iv a)) x=(x-(a:Int))*Dg (l.map fun a:Nat=>x-a)*(iv a*Dg (l.map iv));rw[Um iv x l];generalize Dg (l.map fun a:Nat=>x-a)=A;generalize Dg (l.map iv)=B;rw[Int.mul_assoc,Int.mul_assoc,<-Int.mul_assoc (iv a) A,Int.mul_comm (iv a) A,Int.mul_assoc]
theorem Rw {q:Int}(iv:Nat->Int)(x:Int):∀l:List Nat,(∀a∈l,q ∣ (x-a)*iv a-1)->q ∣ Dg (l.map fun a:Nat=>x-a)*Dg (l.map iv)-1
 | [],_=>by show q ∣ 1*1-1;simp
 | a::l,h=>by
  have h1:=h a List.mem_cons_self;have h2:=Rw iv x l fun b hb=>h b (List.mem_cons_of_mem _ hb)
  show q ∣ (x-(a:Int))*Dg (l.map fun a:Nat=>x-a)*(iv a*Dg (l.map iv))-1;generalize Dg (l.map fun a:Nat=>x-a)=A at *;generalize Dg (l.map iv)=B at *;generalize x-(a:Int)=D at *;generalize iv a=v at *;have t:D*A*(v*B)=D*v*(A*B):=by rw[Int.mul_assoc,Int.mul_assoc,<-Int.mul_assoc A,Int.mul_comm A v,Int.mul_assoc v]
  have s:(D*v-1)*(A*B)=D*v*(A*B)-A*B:=by rw[Int.sub_mul,Int.one_mul]
  have e:D*A*(v*B)-1=(D*v-1)*(A*B)+(A*B-1):=by omega
  rw[e];exact Int.dvd_add (Kc h1 _) h2
theorem Ii {q:Nat}(hq:Ch q)(x:Int):∀l:List Nat,(∀a∈l,¬(q:Int) ∣ x-a)->¬(q:Int) ∣ Dg (l.map fun a:Nat=>x-a)
 | [],_,h=>by
  have h2:=hq.two;have h1:(q:Int) ∣ 1:=h;have:=Int.le_of_dvd (by omega) h1;omega
 | a::l,h,k=>by
  rcases hq.dvd_imul (a:=x-a) (b:=Dg (l.map fun a:Nat=>x-a)) k with h1|h1
  .exact h a List.mem_cons_self h1
  .exact Ii hq x l (fun b hb=>h b (List.mem_cons_of_mem _ hb)) h1
noncomputable def qK (q x xi:Nat) (l:List Nat):Nat:=Dd q x 1 l*Mx q (Dd q xi 1 l)%q
theorem jB {q x xi:Nat}{l:List Nat}(hq:Ch q)(hu:∀a∈l,¬(q:Int) ∣ (xi:Int)-a):qK q x xi l=Fv q x xi 1 l:=by
 have h2:=hq.two;have hA:=Oy (x:=x) h2 l 1 1 (Is.one h2);have hB:=Oy (x:=xi) h2 l 1 1 (Is.one h2);have hW:=eR (x:=x) (xi:=xi) h2 l 1 1 (Is.one h2);rw[Int.one_mul]at hA hB hW
 have hN:=Ii hq (xi:Int) l hu;have hI:=Is.inv (N:=Dd q xi 1 l) hq (by rw[Nat.mod_eq_of_lt hB.lt];exact hB) (Ou h2 _) hN;have hI2:Is q (Mx q (Dd q xi 1 l)) (Mx q (Dd q xi 1 l):Nat):=⟨hI.2,by simp⟩
 refine(hA.mul hI2).uniq hW ?_;rw[Um (fun a=>Ww q ((xi:Int)-a))];have hU:=Rw (q:=q) (fun a=>Ww q ((xi:Int)-a)) xi l fun a ha=>kT hq ((xi:Int)::ints l) _ _ List.mem_cons_self (List.mem_cons_of_mem _ (by
  rw[ints];exact List.mem_map.2 ⟨a,ha,rfl⟩)) (hu a ha)
 have hI1:=hI.1;generalize Dg (l.map fun a:Nat=>(xi:Int)-a)=B at *;generalize Dg (l.map fun a:Nat=>Ww q ((xi:Int)-a))=V at *;generalize Dg (l.map fun a:Nat=>(x:Int)-a)=A at *;generalize ((Mx q (Dd q xi 1 l):Nat):Int)=I at *;have h3:(q:Int) ∣ B*(I-V):=by
  have:=Int.dvd_sub hI1 hU;rw[Int.mul_sub]
  rwa [show B*I-1-(B*V-1)=B*I-B*V by omega]at this
 rcases hq.dvd_imul h3 with h|h
 .exact absurd h hN
 .rw[<-Int.mul_sub];exact Lg h _
def others (xs:List Nat)(i k:Nat):List Nat:=(xs.take k).take i++(xs.take k).drop (i+1)
theorem Qo (xs:List Nat)(i:Nat):others xs i 0=[]:=by simp[others]
theorem Yw (xs:List Nat)(i:Nat):others xs i (i+1)=others xs i i:=by
 unfold others;have h1:(xs.take (i+1)).drop (i+1)=[]:=List.drop_eq_nil_of_le (by simp;omega);have h2:(xs.take i).drop (i+1)=[]:=List.drop_eq_nil_of_le (by simp;omega);rw[h1,h2,List.take_take,List.take_take];simp
theorem Yv {xs:List Nat}{i k a:Nat}(hk:xs[k]? = some a)(hne:k≠i):others xs i (k+1)=others xs i k++[a]:=by
 unfold others;have hkl:=(List.getElem?_eq_some_iff.1 hk).1;have hl:(xs.take k).length=k:=by rw[List.length_take];omega
 have e:xs.take (k+1)=xs.take k++[a]:=Dx hk;rw[e];rcases Nat.lt_or_ge k i with h|h
 .have e1:(xs.take k++[a]).take i=xs.take k++[a]:=List.take_of_length_le (by rw[List.length_append,hl,List.length_singleton];omega);have e2:(xs.take k++[a]).drop (i+1)=[]:=List.drop_eq_nil_of_le (by rw[List.length_append,hl,List.length_singleton];omega);have e3:(xs.take k).take i=xs.take k:=List.take_of_length_le (by omega);have e4:(xs.take k).drop (i+1)=[]:=List.drop_eq_nil_of_le (by omega);rw[e1,e2,e3,e4,List.append_nil,List.append_nil]
 .have e1:(xs.take k++[a]).take i=(xs.take k).take i:=List.take_append_of_le_length (by omega);have e2:(xs.take k++[a]).drop (i+1)=(xs.take k).drop (i+1)++[a]:=List.drop_append_of_le_length (by omega);rw[e1,e2,List.append_assoc]
theorem cJ (xs:List Nat)(i:Nat):others xs i xs.length=xs.take i++xs.drop (i+1):=by
 unfold others;rw[List.take_length]
theorem Jq {q:Nat}(xs:List Nat):Iy q (ints xs) ↔ (xs.map fun x=>x%q).Nodup:=by
 unfold Iy ints List.Nodup;rw[List.pairwise_map,List.pairwise_map];constructor
 .intro h;exact h.imp fun {a b} hab e=>hab (Kf e)
 .intro h;exact h.imp fun {a b} hab e=>hab (Hp e)
theorem Mz {q:Nat}{xs:List Nat}(h:Iy q (ints xs)){i z:Nat}(hi:xs[i]? = some z):∀a∈xs.take i++xs.drop (i+1),¬(q:Int) ∣ (z:Int)-a:=by
 have e:xs=xs.take i++z::xs.drop (i+1):=by
  obtain⟨h1,h2⟩:=List.getElem?_eq_some_iff.1 hi;rw[<-h2,List.getElem_cons_drop,List.take_append_drop]
 rw[e]at h
 unfold Iy ints at h;rw[List.map_append,List.map_cons,List.pairwise_append,List.pairwise_cons]at h
 obtain⟨_,⟨h2,_⟩,h3⟩:=h;intro a ha;rcases List.mem_append.1 ha with k|k
 .exact Iy.neg (h3 _ (List.mem_map.2 ⟨a,k,rfl⟩) _ List.mem_cons_self)
 .exact h2 _ (List.mem_map.2 ⟨a,k,rfl⟩)
theorem oV {l:List Nat}{i a:Nat}(h:l[i]? = some a)(k:l[i+1]? = some a):¬l.Nodup:=by
 intro hn;obtain⟨h1,h2⟩:=List.getElem?_eq_some_iff.1 h;obtain⟨k1,k2⟩:=List.getElem?_eq_some_iff.1 k;have:=List.pairwise_iff_getElem.1 hn i (i+1) h1 k1 (by omega);exact this (h2.trans k2.symm)
theorem kH:∀ {l:List Nat},l.Pairwise (fun a b=>a<=b)->(∀i a b,l[i]? = some a->l[i+1]? = some b->a≠b)->l.Nodup
 | [],_,_=>List.Pairwise.nil
 | [a],_,_=>List.pairwise_singleton _ _
 | a::b::l,h,k=>by
  obtain⟨h1,h2⟩:=List.pairwise_cons.1 h;refine List.pairwise_cons.2 ⟨fun c hc e=>?_,kH h2 fun i x y hx hy=>k (i+1) x y hx hy⟩;subst e;have hab:=h1 b List.mem_cons_self;have hne:=k 0 a b rfl rfl;rcases List.mem_cons.1 hc with e|hc
  .exact hne e
  .have:=(List.pairwise_cons.1 h2).1 a hc;omega
theorem Us:∀ {l:List Nat} {j a b:Nat},l[j+1]? = some a->l[j]? = some b->((l.set (j+1) b).set j a).Perm l
 | [],_,_,_,h,_=>by simp at h
 | [_],_,_,_,h,_=>by simp at h
 | x::y::l,0,a,b,h,k=>by
  simp at h k;subst h k;exact List.Perm.swap _ _ _
 | x::y::l,j+1,a,b,h,k=>List.Perm.cons x (Us (l:=y::l) (j:=j) h k)
structure Ins (i j:Nat) (l:List Nat):Prop where
 le:j<=i
 rest:∀p r a b,p<r->r<=i->p≠j->r≠j->l[p]? = some a->l[r]? = some b->a<=b
 low:∀r a b,j<r->r<=i->l[j]? = some a->l[r]? = some b->a<=b
def iZ (i:Nat)(l:List Nat):Prop:=∀p r a b,p<r->r<i->l[p]? = some a->l[r]? = some b->a<=b
theorem iZ.ins {i:Nat}{l:List Nat}(h:iZ i l):Ins i i l:=⟨Av _,fun p r a b h1 h2 _ h4 k1 k2=>h p r a b h1 (by omega) k1 k2,fun r _ _ h1 h2=>by omega⟩
theorem Ins.done {i j:Nat}{l:List Nat}(h:Ins i j l)(hj:j=0 ∨ ∀a b,l[j-1]? = some b->l[j]? = some a->b<=a)(hl:i<l.length):iZ (i+1) l:=by
 intro p r a b h1 h2 k1 k2
 by_cases e1:p=j
 .subst e1;exact h.low r a b h1 (by omega) k1 k2
 by_cases e2:r=j
 .subst e2;rcases hj with h0|hj
  .omega
  have hm:r-1<l.length:=by omega
  have km:l[r-1]? = some (l[r-1]'hm):=List.getElem?_eq_getElem _;have h5:=hj b _ km k2;rcases Nat.lt_or_ge p (r-1) with h6|h6
  .exact Dm (h.rest p (r-1) a _ h6 (by omega) e1 (by omega) k1 km) h5
  .obtain rfl:p=r-1:=by omega
   rw[k1]at km;cases km
   exact h5
 .exact h.rest p r a b h1 (by omega) e1 e2 k1 k2
theorem Ins.swap {i j x y:Nat}{l:List Nat}(h:Ins i (j+1) l)(hx:l[j+1]? = some x)(hy:l[j]? = some y)(hlt:x<y):Ins i j ((l.set (j+1) y).set j x):=by
 have hle:=h.le;obtain⟨l1,_⟩:=List.getElem?_eq_some_iff.1 hx;obtain⟨l2,_⟩:=List.getElem?_eq_some_iff.1 hy;have gj:((l.set (j+1) y).set j x)[j]? = some x:=by rw[List.getElem?_set_self (by simpa using l2)]
 have gj1:((l.set (j+1) y).set j x)[j+1]? = some y:=by rw[List.getElem?_set_ne (by omega),List.getElem?_set_self l1]
 have go:∀p,p≠j->p≠j+1->((l.set (j+1) y).set j x)[p]? = l[p]? := fun p h1 h2=>by rw[List.getElem?_set_ne (by omega),List.getElem?_set_ne (by omega)]
 refine⟨by omega,fun p r a b h1 h2 h3 h4 k1 k2=>?_,fun r a b h1 h2 k1 k2=>?_⟩
 .by_cases e1:p=j+1
  .subst e1;rw[gj1]at k1;cases k1
   rw[go r h4 (by omega)]at k2
   exact h.rest j r y b (by omega) h2 (by omega) (by omega) hy k2
  .rw[go p h3 e1]at k1
   by_cases e2:r=j+1
   .subst e2;rw[gj1]at k2;cases k2
    exact h.rest p j a y (by omega) (by omega) e1 (by omega) k1 hy
   .rw[go r h4 e2]at k2
    exact h.rest p r a b h1 h2 e1 e2 k1 k2
 .rw[gj]at k1;cases k1
  by_cases e2:r=j+1
  .subst e2;rw[gj1]at k2;cases k2
   omega
  .rw[go r (by omega) e2]at k2
   exact h.low r x b (by omega) h2 hx k2
theorem iZ.pairwise {l:List Nat}(h:iZ l.length l):l.Pairwise fun a b=>a<=b:=by
 rw[List.pairwise_iff_getElem];intro i j hi hj hij;exact h i j _ _ hij hj (List.getElem?_eq_getElem _) (List.getElem?_eq_getElem _)
end Go.Proofs.YtnbmfaihlefgfaaGreatDoor
