/- Groups over numbers, more: a product of powers bit by bit, the number behind a second base, what New tells of the laws' groups. -/
import Derived.Test.YtnbmfaihlefgfaaGreatDoorCurM
import Derived.Test.YtnbmfaihlefgfaaGreatDoorMacE
import Derived.Test.YtnbmfaihlefgfaaGreatDoorGrpN
import Derived.BigRegion
import Derived.Laws.Rows
set_option maxRecDepth 1000000
set_option maxHeartbeats 16000000
set_option linter.all false
namespace Go.Proofs.YtnbmfaihlefgfaaGreatDoor
theorem Zi (a b:List Nat):ints (a++b)=ints a++ints b:=by simp[ints]
theorem Zh (a:List Nat):(ints a).length=a.length:=by simp[ints]
theorem eQ (x c:Int):∀p:List Int,ev (p++[c]) x=ev p x+c*x^p.length
 | []=>by simp[ev]
 | a::p=>by
  show a+x*ev (p++[c]) x=a+x*ev p x+c*x^(p.length+1);rw[eQ x c p,Int.mul_add,Int.pow_succ,Int.mul_comm (x^p.length) x,<-Int.mul_assoc c,Int.mul_comm c x,Int.mul_assoc x c,Int.add_assoc]
theorem eP {l:List Nat}{i c:Nat}(h:l[i]? = some c)(x:Int):ev (ints (l.take (i+1))) x=ev (ints (l.take i)) x+c*x^i:=by
 have hi:=(List.getElem?_eq_some_iff.1 h).1;rw[Dx h,Zi,show ints [c]=[(c:Int)] from rfl,eQ,Zh,List.length_take,Nat.min_eq_left (by omega)]
theorem lK (x:Int):∀ {l:List Nat} {j c:Nat} (_:l[j]? = some c) (d:Nat),ev (ints (l.set j d)) x=ev (ints l) x+((d:Int)-c)*x^j
 | [],_,_,h,_=>by simp at h
 | a::l,0,c,h,d=>by
  simp at h;subst h;show (d:Int)+x*ev (ints l) x=(a:Int)+x*ev (ints l) x+((d:Int)-a)*x^0;rw[Int.pow_zero,Int.mul_one];omega
 | a::l,j+1,c,h,d=>by
  have ih:=lK x (l:=l) (j:=j) (c:=c) (by simpa using h) d;show (a:Int)+x*ev (ints (l.set j d)) x=(a:Int)+x*ev (ints l) x+((d:Int)-c)*x^(j+1);rw[ih,Int.mul_add,Int.pow_succ,Int.mul_comm (x^j) x,<-Int.mul_assoc ((d:Int)-c),Int.mul_comm ((d:Int)-c) x,Int.mul_assoc x ((d:Int)-c),Int.add_assoc]
theorem Xa {q:Nat}(hq:0<q)(x:Int):∀l:List Nat,(q:Int) ∣ ev (ints (l.map fun c=>c%q)) x-ev (ints l) x
 | []=>by simp[ints,ev]
 | a::l=>by
  have ih:=Xa hq x l;have h1:=(Is.of hq a).dvd;show (q:Int) ∣ ((a%q:Nat):Int)+x*ev (ints (l.map fun c=>c%q)) x-((a:Int)+x*ev (ints l) x);have h2:=Int.dvd_add h1 (Lg ih x);rw[Int.mul_sub]at h2
  rwa [show ((a%q:Nat):Int)-a+(x*ev (ints (l.map fun c=>c%q)) x-x*ev (ints l) x)=((a%q:Nat):Int)+x*ev (ints (l.map fun c=>c%q)) x-((a:Int)+x*ev (ints l) x) by omega]at h2
def addN:List Nat->List Nat->List Nat
 | [],r=>r
 | a::p,[]=>a::p
 | a::p,b::r=>(a+b)::addN p r
theorem Re:∀p r,(addN p r).length=max p.length r.length
 | [],r=>by simp[addN]
 | a::p,[]=>by simp[addN]
 | a::p,b::r=>by simp only[addN,List.length_cons,Re p r];omega
theorem aW:∀(p r:List Nat) (i:Nat),i<max p.length r.length->(addN p r)[i]? = some (p.getD i 0+r.getD i 0)
 | [],r,i,h=>by
  simp at h;simp[addN,h]
 | a::p,[],i,h=>by
  simp only[List.length_nil,Nat.max_zero]at h;show (a::p)[i]? = _;rw[List.getElem?_eq_getElem h,Ex,List.getElem?_eq_getElem h];simp
 | a::p,b::r,0,_=>by simp[addN]
 | a::p,b::r,i+1,h=>by
  show (addN p r)[i]? = some (p.getD i 0+r.getD i 0);exact aW p r i (by simp only[List.length_cons]at h;omega)
theorem Vf:∀p r,ints (addN p r)=Xv (ints p) (ints r)
 | [],r=>by simp[addN,ints,Xv]
 | a::p,[]=>by simp[addN,ints,Xv]
 | a::p,b::r=>by
  show ((a+b:Nat):Int)::ints (addN p r)=((a:Int)+b)::Xv (ints p) (ints r);rw[Vf p r,Int.natCast_add]
def Oa (q:Nat)(p r:List Nat):List Nat:=(addN p r).map fun c=>c%q
theorem Rd (q:Nat)(p r:List Nat):(Oa q p r).length=max p.length r.length:=by rw[Oa,List.length_map,Re]
theorem mQ (q:Nat)(p r:List Nat)(i:Nat)(h:i<max p.length r.length):(Oa q p r)[i]? = some ((p.getD i 0+r.getD i 0)%q):=by
 rw[Oa,List.getElem?_map,aW p r i h];rfl
theorem oX {q:Nat}(hq:0<q)(p r:List Nat):∀c∈Oa q p r,c<q:=fun c h=>by
 obtain⟨d,_,rfl⟩:=List.mem_map.1 h;exact Nat.mod_lt _ hq
theorem oY {q:Nat}(hq:0<q)(x:Int)(p r:List Nat):(q:Int) ∣ ev (ints (Oa q p r)) x-(ev (ints p) x+ev (ints r) x):=by
 have:=Xa hq x (addN p r)
 rwa [Vf,lL]at this
structure Ko (q:Nat) (p r:List Nat) (i a k:Nat) (acc:List Nat):Prop where
 len:acc.length=p.length+r.length-1
 lt:∀c∈acc,c<q
 val:∀x:Int,(q:Int) ∣ ev (ints acc) x-(ev (ints (p.take i)) x*ev (ints r) x+a*x^i*ev (ints (r.take k)) x)
theorem Sx (x:Int):∀n,ev (ints (List.replicate n 0)) x=0
 | 0=>rfl
 | n+1=>by
  show ((0:Nat):Int)+x*ev (ints (List.replicate n 0)) x=0;rw[Sx x n];simp
theorem Ko.start {q:Nat}(hq:0<q)(p r:List Nat)(a:Nat):Ko q p r 0 a 0 (List.replicate (p.length+r.length-1) 0) :=
 ⟨by simp,fun c hc=>by rw[(List.mem_replicate.1 hc).2];exact hq,fun x=>by
  rw[Sx,List.take_zero,List.take_zero];simp[ints,ev]⟩
theorem Ko.step {q:Nat}{p r acc:List Nat}{i a k b c:Nat}(hq:0<q)(h:Ko q p r i a k acc)(hb:r[k]? = some b)(hc:acc[i+k]? = some c):Ko q p r i a (k+1) (acc.set (i+k) ((c+a*b%q)%q)) :=
 ⟨by rw[List.length_set];exact h.len,fun d hd=>by
  rcases List.mem_or_eq_of_mem_set hd with h1|h1
  .exact h.lt d h1
  .rw[h1];exact Nat.mod_lt _ hq,fun x=>by
  have h1:=h.val x;have h2:(q:Int) ∣ (((c+a*b%q)%q:Nat):Int)-c-a*b:=by
   have e1:=(Is.of hq (c+a*b%q)).dvd;have e2:=(Is.of hq (a*b)).dvd;have:=Int.dvd_add e1 e2
   rwa [show (((c+a*b%q)%q:Nat):Int)-((c+a*b%q:Nat):Int)+(((a*b%q:Nat):Int)-((a*b:Nat):Int))=(((c+a*b%q)%q:Nat):Int)-c-a*b by rw[Int.natCast_mul];omega]at this
  rw[lK x hc,eP hb,Int.mul_add];have h3:=Int.dvd_add h1 (Kc h2 (x^(i+k)));generalize (((c+a*b%q)%q:Nat):Int)=D at *;have e:(a:Int)*x^i*(b*x^k)=a*b*x^(i+k):=by
   rw[Int.pow_add,Int.mul_assoc,Int.mul_assoc,<-Int.mul_assoc (x^i),Int.mul_comm (x^i) (b:Int),Int.mul_assoc]
  rw[e];rw[Int.sub_mul (D-c)]at h3
  generalize (D-(c:Int))*x^(i+k)=A at *;generalize (a:Int)*b*x^(i+k)=B at *
  rwa [show ev (ints acc) x-(ev (ints (p.take i)) x*ev (ints r) x+a*x^i*ev (ints (r.take k)) x)+(A-B)=ev (ints acc) x+A-(ev (ints (p.take i)) x*ev (ints r) x+(a*x^i*ev (ints (r.take k)) x+B)) by omega]at h3⟩
theorem Ko.next {q:Nat}{p r acc:List Nat}{i a:Nat}(h:Ko q p r i a r.length acc)(ha:p[i]? = some a)(b:Nat):Ko q p r (i+1) b 0 acc :=
 ⟨h.len,h.lt,fun x=>by
  have h1:=h.val x;rw[List.take_length,<-Int.add_mul]at h1
  rw[eP ha,List.take_zero,show ints []=[] from rfl,show ev [] x=0 from rfl,Int.mul_zero,Int.add_zero];exact h1⟩
theorem Ko.again {q:Nat}{p r acc:List Nat}{i a:Nat}(h:Ko q p r i a 0 acc)(b:Nat):Ko q p r i b 0 acc :=
 ⟨h.len,h.lt,fun x=>by
  have h1:=h.val x;rw[List.take_zero,show ints []=[] from rfl,show ev [] x=0 from rfl,Int.mul_zero]at *
  exact h1⟩
theorem Ko.done {q:Nat}{p r acc:List Nat}{a:Nat}(h:Ko q p r p.length a 0 acc)(x:Int):(q:Int) ∣ ev (ints acc) x-ev (ints p) x*ev (ints r) x:=by
 have h1:=h.val x;rw[List.take_length,List.take_zero,show ints []=[] from rfl,show ev [] x=0 from rfl,Int.mul_zero,Int.add_zero]at h1
 exact h1
structure Tm (q:Nat) (p r s:List Nat):Prop where
 len:s.length=p.length+r.length-1
 lt:∀c∈s,c<q
 val:∀x:Int,(q:Int) ∣ ev (ints s) x-ev (ints p) x*ev (ints r) x
theorem Tm.of_mod {q:Nat}(hq:0<q){p r s:List Nat}(h:Tm q (p.map fun c=>c%q) (r.map fun c=>c%q) s):Tm q p r s :=
 ⟨by have:=h.len;simpa using this,h.lt,fun x=>by
  have h1:=h.val x;have h2:=Xa hq x p;have h3:=Xa hq x r;generalize ev (ints (p.map fun c=>c%q)) x=A at *;generalize ev (ints (r.map fun c=>c%q)) x=B at *;have h4:=Int.dvd_add h1 (Int.dvd_add (Kc h2 B) (Lg h3 (ev (ints p) x)));rw[Int.sub_mul,Int.mul_sub]at h4
  generalize ev (ints p) x*B=C at *
  rwa [show ev (ints s) x-A*B+(A*B-C+(C-ev (ints p) x*ev (ints r) x))=ev (ints s) x-ev (ints p) x*ev (ints r) x by omega]at h4⟩
theorem Si {z:Int}:∀l:List Int,0∈l->Dg l=0
 | a::l,h=>by
  show a*Dg l=0;rcases List.mem_cons.1 h with h|h
  .rw[<-h,Int.zero_mul]
  .rw[Si (z:=z) l h,Int.mul_zero]
structure Lz (q:Nat) (zs ys:List Nat) (k:Nat) (p s:List Nat):Prop where
 plen:p.length=k
 plt:∀c∈p,c<q
 pval:∀j z y,j<k->zs[j]? = some z->ys[j]? = some y->(q:Int) ∣ ev (ints p) z-y
 slen:s.length=k+1
 slt:∀c∈s,c<q
 sval:∀x:Int,(q:Int) ∣ ev (ints s) x-Dg ((zs.take k).map fun z:Nat=>x-z)
theorem Lz.start {q:Nat}(hq:2<=q)(zs ys:List Nat):Lz q zs ys 0 [] [1] :=
 ⟨rfl,(fun c h=>by cases h),(fun j _ _ h=>by omega),rfl,(fun c h=>by simp at h;omega),fun x=>by
  rw[List.take_zero];show (q:Int) ∣ ((1:Nat):Int)+x*0-1;simp⟩
theorem Lz.apart {q:Nat}{zs ys p s:List Nat}{k z:Nat}(hq:Ch q)(h:Lz q zs ys k p s)(hu:Iy q (ints zs))(hz:zs[k]? = some z):¬(q:Int) ∣ ev (ints s) z:=by
 have h1:=Ii hq (z:Int) (zs.take k) fun a ha=>Mz hu hz a (List.mem_append_left _ ha)
 intro h2;refine h1 ?_;have h3:=Int.dvd_sub h2 (h.sval z)
 rwa [show ev (ints s) (z:Int)-(ev (ints s) (z:Int)-Dg ((zs.take k).map fun a:Nat=>(z:Int)-a))=Dg ((zs.take k).map fun a:Nat=>(z:Int)-a) by omega]at h3
theorem kC {q A B I:Nat}{e d:Int}(hq:Ch q)(hA:Is q A d)(hB:Is q B e)(hI:Ia q B I)(he:¬(q:Int) ∣ e):(q:Int) ∣ e*(A*I%q:Nat)-d:=by
 have h1:=Is.inv (N:=B) hq (by rw[Nat.mod_eq_of_lt hB.lt];exact hB) hI he;have h2:Is q (A*I%q) (d*I):=hA.mul ⟨h1.2,by simp⟩;have h3:=Int.dvd_add (Lg h2.dvd e) (Lg h1.1 d);rw[Int.mul_sub,Int.mul_sub,Int.mul_one]at h3
 rwa [show e*(A*I%q:Nat)-e*(d*I)+(d*(e*I)-d)=e*(A*I%q:Nat)-d by
  rw[show e*(d*(I:Int))=d*(e*I) by rw[<-Int.mul_assoc,Int.mul_comm e d,Int.mul_assoc]];omega]at h3
theorem Lz.step {q:Nat}{zs ys p s p2 m s2:List Nat}{k z y O t:Nat}(h:Lz q zs ys k p s)(hz:zs[k]? = some z)(hy:ys[k]? = some y)(hO:(q:Int) ∣ ev (ints s) z*O-(y-ev (ints p) z))(hm:Tm q s [O] m)(hp2:p2=Oa q p m)(hq:0<q)(ht:(q:Int) ∣ (t:Int)+z)(hs2:Tm q s [t,1] s2):Lz q zs ys (k+1) p2 s2:=by
 have hv:∀x:Int,(q:Int) ∣ ev (ints p2) x-(ev (ints p) x+ev (ints s) x*O):=fun x=>by
  have h1:=oY hq x p m;have h2:=hm.val x;rw[show ev (ints [O]) x=(O:Int) by show (O:Int)+x*0=O;omega]at h2
  have:=Int.dvd_add h1 h2;rw[hp2]
  rwa [show ev (ints (Oa q p m)) x-(ev (ints p) x+ev (ints m) x)+(ev (ints m) x-ev (ints s) x*O)=ev (ints (Oa q p m)) x-(ev (ints p) x+ev (ints s) x*O) by omega]at this
 refine⟨?_,?_,?_,?_,hs2.lt,?_⟩
 .rw[hp2,Rd,hm.len,h.plen,h.slen];simp
 .rw[hp2];exact oX hq p m
 .intro j a b hj ha hb;have h1:=hv a
  by_cases e:j=k
  .subst e;rw[hz]at ha;cases ha
   rw[hy]at hb;cases hb
   have:=Int.dvd_add h1 hO
   rwa [show ev (ints p2) (z:Int)-(ev (ints p) z+ev (ints s) z*O)+(ev (ints s) z*O-(y-ev (ints p) z))=ev (ints p2) z-y by omega]at this
  .have h2:=h.pval j a b (by omega) ha hb;have h3:=h.sval a;rw[Si (z:=0) _ (List.mem_map.2 ⟨a,List.mem_of_getElem? (i:=j) (by rw[List.getElem?_take,if_pos (by omega)];exact ha),by omega⟩),Int.sub_zero]at h3
   have h4:=Int.dvd_add (Int.dvd_add h1 h2) (Kc h3 (O:Int))
   rwa [show ev (ints p2) (a:Int)-(ev (ints p) a+ev (ints s) a*O)+(ev (ints p) a-b)+ev (ints s) a*O=ev (ints p2) a-b by omega]at h4
 .rw[hs2.len,h.slen];rfl
 .intro x;have h1:=hs2.val x;have h2:=h.sval x;rw[show ev (ints [t,1]) x=(t:Int)+x by show (t:Int)+x*(((1:Nat):Int)+x*0)=t+x;simp]at h1
  rw[Dx hz,List.map_append,List.map_singleton,Sj];generalize Dg ((zs.take k).map fun z:Nat=>x-z)=A at *;have h3:=Int.dvd_add (Int.dvd_add h1 (Kc h2 ((t:Int)+x))) (Lg ht A);rw[Int.sub_mul,Int.mul_add,Int.mul_add A,Int.mul_add A]at h3
  rw[Int.mul_sub]
  rwa [show ev (ints s2) x-(ev (ints s) x*t+ev (ints s) x*x)+(ev (ints s) x*t+ev (ints s) x*x-(A*t+A*x))+(A*t+A*z)=ev (ints s2) x-(A*x-A*z) by omega]at h3
def Ho (P:Nat):Nat->List (Nat×Nat)->Nat
 | x,[]=>x
 | x,(b,e)::l=>Ho P (x*(b^e%P)%P) l
theorem Sn (P:Nat):∀(l:List (Nat×Nat)) (x b e:Nat),Ho P x (l++[(b,e)])=Ho P x l*(b^e%P)%P
 | [],x,b,e=>rfl
 | (b',e')::l,x,b,e=>Sn P l _ b e
theorem Zb {P:Nat}(hP:2<=P):∀(l:List (Nat×Nat)) (x:Nat),x<P->Ho P x l<P
 | [],_,h=>h
 | (_,_)::l,_,_=>Zb hP l _ (Nat.mod_lt _ (by omega))
theorem bJ {q X XI I:Nat}{L:List Nat}(hq:Ch q)(hu:∀a∈L,¬(q:Int) ∣ (XI:Int)-a)(hI:Ia q (Dd q XI 1 L) I):Nat.gcd q (Dd q XI 1 L)=1/\Dd q X 1 L*I%q=Fv q X XI 1 L:=by
 have h2:=hq.two;refine⟨hq.coprime fun hd=>?_,?_⟩
 .have hB:=Oy (x:=XI) h2 L 1 1 (Is.one h2);rw[Int.one_mul]at hB
  refine Ii hq (XI:Int) L hu ?_;have h3:(q:Int) ∣ ((Dd q XI 1 L:Nat):Int):=Int.natCast_dvd_natCast.2 hd;have h4:=Int.dvd_sub h3 hB.dvd
  rwa [show ((Dd q XI 1 L:Nat):Int)-(((Dd q XI 1 L:Nat):Int)-Dg (L.map fun a:Nat=>(XI:Int)-a))=Dg (L.map fun a:Nat=>(XI:Int)-a) by omega]at h4
 .rw[Wx h2 hI];exact jB hq hu
theorem Uu (a b q:Nat):Cb (a%q) (b%q) q=Cb a b q:=by unfold Cb;rw[Nat.mod_mod,Nat.mod_mod]
theorem Zz (q x z:Nat):∀(l:List Nat) (o:Nat),Fv q (x%q) (z%q) o (l.map fun a=>a%q)=Fv q x z o l
 | [],_=>rfl
 | a::l,o=>by
  show Fv q (x%q) (z%q) (o*(Cb (x%q) (a%q) q*Mx q (Cb (z%q) (a%q) q)%q)%q) (l.map fun a=>a%q)=Fv q x z (o*(Cb x a q*Mx q (Cb z a q)%q)%q) l;rw[Uu,Uu];exact Zz q x z l _
theorem Xf {q x z:Nat}(hq:2<=q):∀(l:List Nat) (o:Nat),o<q->Fv q x z o l<q
 | [],_,h=>h
 | _::l,_,_=>Xf hq l _ (Nat.mod_lt _ (by omega))
noncomputable def Gb (q x:Nat):List Nat->List Nat->List Nat
 | _,[]=>[]
 | pre,z::post=>Fv q x z 1 (pre++post)::Gb q x (pre++[z]) post
theorem If (q x:Nat):∀post pre,(Gb q x pre post).length=post.length
 | [],_=>rfl
 | z::post,pre=>by simp only[Gb,List.length_cons,If q x post]
theorem Oi (q x:Nat):∀(post pre:List Nat) (i z:Nat),post[i]? = some z->(Gb q x pre post)[i]? = some (Fv q x z 1 (pre++(post.take i++post.drop (i+1))))
 | [],_,i,z,h=>by simp at h
 | y::post,pre,0,z,h=>by
  simp at h;subst h;simp[Gb]
 | y::post,pre,i+1,z,h=>by
  have h1:=Oi q x post (pre++[y]) i z (by simpa using h);show (Gb q x (pre++[y]) post)[i]? = _;rw[h1];simp
theorem Vu {q x:Nat}(hq:2<=q):∀post pre,∀c∈Gb q x pre post,c<q
 | [],_,c,h=>by cases h
 | z::post,pre,c,h=>by
  rcases List.mem_cons.1 h with rfl|h
  .exact Xf hq _ _ (by omega)
  .exact Vu hq post _ c h
def Ic (hp ht:Nat->Nat->Nat):Nat->List (Nat×Nat)->Nat
 | o,[]=>o
 | o,(a,v)::l=>Ic hp ht (hp o (ht a v)) l
theorem Pj (hp ht:Nat->Nat->Nat):∀(l:List (Nat×Nat)) (o a v:Nat),Ic hp ht o (l++[(a,v)])=hp (Ic hp ht o l) (ht a v)
 | [],_,_,_=>rfl
 | (_,_)::l,_,a,v=>Pj hp ht l _ a v
theorem Pk (q x:Nat):∀(post ys pre:List Nat) (o:Nat),Ic (fun a b=>(a+b)%q) (fun a b=>a*b%q) o (ys.zip (Gb q x pre post))=Nc q x pre post ys o
 | [],ys,pre,o=>by simp[Gb,Ic,Nc]
 | z::post,[],pre,o=>by simp[Ic,Nc]
 | z::post,y::ys,pre,o=>by
  show Ic (fun a b=>(a+b)%q) (fun a b=>a*b%q) ((o+y*Fv q x z 1 (pre++post)%q)%q) (ys.zip (Gb q x (pre++[z]) post))=Nc q x (pre++[z]) post ys ((o+Fv q x z 1 (pre++post)*y%q)%q);rw[Pk q x post ys (pre++[z]),Nat.mul_comm y]
theorem Rs (P:Nat):∀(l:List (Nat×Nat)) (o:Nat),Ic (fun a b=>a*b%P) (fun a b=>a^b%P) o l=Ho P o l
 | [],_=>rfl
 | _::l,_=>Rs P l _
def Kx (hp ht:Nat->Nat->Nat)(x nothing:Nat):List Nat->Nat
 | []=>nothing
 | c::l=>hp (ht (Kx hp ht x nothing l) x) c
theorem Yd (q x:Nat):∀l,Kx (fun a b=>(a+b)%q) (fun a b=>a*b%q) x 0 l=Lh q x l
 | []=>rfl
 | c::l=>by
  show (Kx (fun a b=>(a+b)%q) (fun a b=>a*b%q) x 0 l*x%q+c)%q=(c+Lh q x l*x%q)%q;rw[Yd q x l,Nat.add_comm]
theorem Zj (q x:Nat):∀l,Lh q (x%q) l=Lh q x l
 | []=>rfl
 | c::l=>by
  show (c+Lh q (x%q) l*(x%q)%q)%q=(c+Lh q x l*x%q)%q;rw[Zj q x l,Nat.mul_mod_mod]
open Go Go.RowKit Go.Proofs.YtnbmfaihlefgfaaGreatDoor.Flow
theorem mI (w:World)(p:Option Addr)(b off:Nat)(hp:p=some ⟨b,off,none⟩)(hb:b<w.heap.size):Bt w p 0 0 0:=by
 show Ff w p 0 0 [];exact⟨rfl,Av _,by omega,.inr ⟨b,off,hp,hb,fun i x hx=>by cases hx⟩⟩
theorem aV (N:Nat):be (Ef N (Ay N))=N:=by
 unfold be Ef;rw[List.reverse_reverse,Wt,Nat.mod_eq_of_lt (aO N)]
theorem Kb {w:World}{v:Value}{e N:Nat}(h:Fit e N v w)(he:e<=200) :
  Calls Tryz.prog 46 #[v] w fun en w'=>∃x,en=.returned x/\Al N x w'/\Below w.heap.size w w':=by
 obtain⟨p,n,c,rfl,h1,h2⟩:=h;have hbx:=Dq.mk1 w (.slice p n c) 36;have HF:=Aa ((Fit.of h1 h2).below hbx.bel);have HB:=Aa hbx.bel;have hl:Ab (Ay N<=1000):=⟨by
  have:Ak N<=32*e:=(Bq N _).2 (by
   have:Ao e=2^(32*e):=by unfold Ao;rw[Nat.pow_mul]
   rw[<-this];exact h2)
  unfold Ay;omega⟩
 clear h1 h2 hbx;go_enter Tryz.func46,Tryz.ntmps46
 go_wp2_with fail
 refine(Vc HF.out (by omega)).mono ?_;rintro en w1 ⟨_,rfl,⟨q,m,d,rfl,hr⟩,b1⟩;have HR:Ab (Ci w1 .u8 q m d (Ef N (Ay N))):=⟨⟨hr.len,hr.cap,hr.max,fun _=>hr⟩⟩
 have HM:Ab (m<=1000):=⟨by rw[hr.len,Lw];exact hl.out⟩
 have HB1:=Aa (Ae HB.out b1);clear hr b1
 go_wp2_with fail
 refine(Yx w1 q m d _ HR.out (Np N _).reverse HM.out).mono ?_;rintro en w2 ⟨x,y,z,rfl,hb,b2,_⟩;rw[aV]at hb
 have HN:=Aa hb;have HB2:=Aa (Ae HB1.out b2);clear hb b2;go_wp2;go_ret;exact⟨_,rfl,Al.of HN.out,HB2.out⟩
theorem gL {t:TypeId}{w:World}{b:Nat}{x0 x1 x2 x3:Option Addr×Nat×Nat}(h:Dp t w b (.slice x0.1 x0.2.1 x0.2.2) (.slice x1.1 x1.2.1 x1.2.2) (.slice x2.1 x2.2.1 x2.2.2) (.slice x3.1 x3.2.1 x3.2.2))(u0 u1 u2 u3:Value) :
  Gy w ((((w.setCell ⟨b,0,none⟩ u0).setCell ⟨b,1,none⟩ u1).setCell ⟨b,2,none⟩ u2).setCell ⟨b,3,none⟩ u3):=by
 have h0:=h.at_
 have k0:=Gy.set h.cells.1 u0;have k1:Gy (w.setCell ⟨b,0,none⟩ u0) ((w.setCell ⟨b,0,none⟩ u0).setCell ⟨b,1,none⟩ u1):=Gy.set (p:=x1.1) (n:=x1.2.1) (c:=x1.2.2) (by simp[World.cell?,World.setCell,Array.getElem?_modify,h0]) u1;have k2:Gy ((w.setCell ⟨b,0,none⟩ u0).setCell ⟨b,1,none⟩ u1) (((w.setCell ⟨b,0,none⟩ u0).setCell ⟨b,1,none⟩ u1).setCell ⟨b,2,none⟩ u2):=Gy.set (p:=x2.1) (n:=x2.2.1) (c:=x2.2.2) (by simp[World.cell?,World.setCell,Array.getElem?_modify,h0]) u2;have k3:Gy (((w.setCell ⟨b,0,none⟩ u0).setCell ⟨b,1,none⟩ u1).setCell ⟨b,2,none⟩ u2) ((((w.setCell ⟨b,0,none⟩ u0).setCell ⟨b,1,none⟩ u1).setCell ⟨b,2,none⟩ u2).setCell ⟨b,3,none⟩ u3):=Gy.set (p:=x3.1) (n:=x3.2.1) (c:=x3.2.2) (by simp[World.cell?,World.setCell,Array.getElem?_modify,h0]) u3;exact((k0.trans k1).trans k2).trans k3
structure Gv (P Q G H:Nat) (v:Value) (w:World):Prop where
 ex:∃p0 n0 c0 p1 n1 c1 p2 n2 c2 p3 n3 c3,v=.agg #[.slice p0 n0 c0,.slice p1 n1 c1,.slice p2 n2 c2,.slice p3 n3 c3]/\Bt w p0 n0 c0 P/\Bt w p1 n1 c1 Q/\Bt w p2 n2 c2 G/\Bt w p3 n3 c3 H
theorem Gv.below {P Q G H:Nat}{v:Value}{w w':World}(h:Gv P Q G H v w)(hb:Below w.heap.size w w'):Gv P Q G H v w':=by
 obtain⟨p0,n0,c0,p1,n1,c1,p2,n2,c2,p3,n3,c3,h0,h1,h2,h3,h4⟩:=h.ex;exact⟨p0,n0,c0,p1,n1,c1,p2,n2,c2,p3,n3,c3,h0,h1.below hb,h2.below hb,h3.below hb,h4.below hb⟩
structure nE (Q:Nat) (v:Value) (w:World):Prop where
 ex:∃r,v=.pointer (some ⟨r,0,none⟩)/\Ring w r Q 33
section
variable {At:World->Nat->Nat->Nat->Nat->Nat->Prop} {ready:World->Prop}
end
theorem Ub (w:World)(pk:Option Addr)(nk ck:Nat)(salt:List Nat)(ps:Option Addr)(ns cs:Nat)(secret:List Nat)(hT:Tabs w)(hK:Dj w ⟨pk,nk,ck,salt⟩)(hS:Dj w ⟨ps,ns,cs,secret⟩) :
  Calls Tryz.prog 243 #[.slice pk nk ck,.slice ps ns cs] w (Mb (bP salt secret) w):=by
 have hb:Below w.heap.size w (w.alloc (.cells #[.slice ps ns cs] 60)):=Dl;have hz:=hb.size;have HC:=Aa (Wq (w.alloc (.cells #[.slice ps ns cs] 60)) pk nk ck salt _ _ _ [⟨ps,ns,cs,secret⟩] (hT.below hb hT.size) (hK.below hb).row hK.bytes (jX w ⟨ps,ns,cs,secret⟩ hS));have HB:=Aa hb;clear hT hK hS hb;go_enter Tryz.func243,Tryz.ntmps243
 go_wp2_with fail
 refine HC.out.mono ?_;rintro e w1 ⟨q,rfl,hq,hb1,hk⟩;rw[Un]at hk
 go_wp2;go_ret;exact⟨q,rfl,by omega,Eo HB.out hb1,hk⟩
theorem Xi (w:World)(pk:Option Addr)(nk ck:Nat)(salt:List Nat)(ps:Option Addr)(ns cs:Nat)(secret:List Nat)(pi:Option Addr)(ni ci:Nat)(info:List Nat)(n:Nat)(hT:Tabs w)(hK:Dj w ⟨pk,nk,ck,salt⟩)(hS:Dj w ⟨ps,ns,cs,secret⟩)(hI:Dj w ⟨pi,ni,ci,info⟩)(hn:n<=8160) :
  Calls Tryz.prog 223 #[.slice pk nk ck,.slice ps ns cs,.slice pi ni ci,.int .i64 n] w (bE n ((Ie (Lk salt secret) info ((n+31)/32)).take n) w):=by
 have HC:=Aa (Ub w pk nk ck salt ps ns cs secret hT hK hS);have HI:Ab (Dj w ⟨pi,ni,ci,info⟩):=⟨hI⟩
 have HT:Ab (Tabs w):=⟨hT⟩
 clear hT hK hS hI;go_enter Tryz.func223,Tryz.ntmps223
 go_wp2_with fail
 refine HC.out.mono ?_;rintro e w1 ⟨q,rfl,hq,hb1,hk⟩;have hr:Ci w1 .u8 (some ⟨q,0,none⟩) 32 32 (Lk salt secret):=⟨(Lj _ _).symm,Av _,by omega,fun _=>hk.row (Lj _ _).symm (Av _) (by omega)⟩
 go_wp2_with fail
 refine(Wz w1 _ _ _ (Lk salt secret) pi ni ci info n (HT.out.below hb1 HT.out.size) hr (Sr _ _) (HI.out.below hb1) hn).mono ?_;rintro e w2 ⟨p,rfl,hr2,hn2,hb2,hz2⟩;have hz:=hb1.size;have HE:=Aa hr2;have HN:Ab (Ey w.heap.size p/\(p=none->n=0)):=⟨hn2.mono hz,hz2⟩
 clear hr2 hn2 hz2 hr hk;go_wp2;exact bodyPost_ret (v:=.tuple #[.slice p n n,.int .i64 0]) (by simp[results,Tryz.results223,go_sem]) rfl ⟨p,rfl,HE.out,HN.out.1,Eo hb1 hb2,HN.out.2⟩
theorem Ry {N:Nat}{l:List Ce}(h:Told N l):Ch N:=by
 rcases h with h|⟨h,s,hs,rfl⟩
 .exact h.prime
 .exact Lv l [] (fun x hx=>by cases hx) h s hs
def Fu (seed:List Nat)(P c:Nat):Nat:=be ((Ie (Lk [] seed) [104,c] ((Ay P+8+31)/32)).take (Ay P+8))
def Fl (f:Nat->Nat):Nat->Nat->Option Nat
 | 0,_=>none
 | k+1,c=>if 1<f c then some (f c) else Fl f k (c+1)
def Tl (P Q G:Nat):Prop:=(P-1)%Q=0/\64<Q/\1<G/\G<P/\G^Q%P=1
open Classical in
noncomputable def newSpec (P Q G:Nat) (seed:List Nat) (l:List Ce):Nat×Nat :=
 if Told P l/\Told Q l then
  if Tl P Q G then
   match Fl (fun c=>Fu seed P c^((P-1)/Q)%P) 256 0 with
   | some h=>(0,h)
   | none=>(6,0)
  else (1,0)
 else (8,0)
theorem Vq (xs ys:List Nat):be (xs++ys)=be xs*B8 ys.length+be ys:=by
 unfold be;rw[List.reverse_append,Vd,List.length_reverse,Nat.mul_comm (B8 _),Nat.add_comm]
theorem Zs:∀(bs:List Nat) (a:Nat),bs.foldl (fun n x=>n*256+x) a=a*B8 bs.length+be bs
 | [],a=>by simp[be,le,Io]
 | x::xs,a=>by
  rw[List.foldl_cons,Zs xs,show x::xs=[x]++xs from rfl,Vq,List.length_append,List.length_singleton,Nat.add_comm 1,Gp];have h1:be [x]=x:=by simp[be,le]
  rw[h1,Nat.add_mul,Nat.mul_assoc,Nat.add_assoc]
theorem Wj (bs:List Nat):cL bs=be bs:=by
 unfold cL;rw[Zs];simp
theorem oO {P X Y s:Nat}:((X*(256^s%P))%P+Y)%P=(X*256^s+Y)%P:=by
 rw[Nat.mul_mod_mod,Nat.mod_add_mod]
theorem kX (seed:List Nat)(P c:Nat):∃bs:List Nat,(Ie (Lk [] seed) [104,c] ((8+Ay P+31)/32)).take (8+Ay P)=bs/\bs.length=8+Ay P/\Bv bs/\be (bs.take 8)*256^Ay P+be (bs.drop 8)=Fu seed P c:=by
 have hl:((Ie (Lk [] seed) [104,c] ((8+Ay P+31)/32)).take (8+Ay P)).length=8+Ay P:=by
  rw[List.length_take,Il];omega
 refine⟨_,rfl,hl,(Sw _ _ _).take _,?_⟩;obtain⟨bs,hb⟩:∃x,(Ie (Lk [] seed) [104,c] ((8+Ay P+31)/32)).take (8+Ay P)=x:=⟨_,rfl⟩
 have hh:Fu seed P c=be bs:=by rw[<-hb];unfold Fu;rw[Nat.add_comm (Ay P) 8]
 rw[hb]at hl ⊢
 have h2:=Vq (bs.take 8) (bs.drop 8);rw[List.take_append_drop,List.length_drop,hl,show 8+Ay P-8=Ay P by omega]at h2
 rw[hh,h2];rfl
theorem nZ (A t P:Nat):(A%P)^t%P=A^t%P:=(Nat.pow_mod A t P).symm
theorem dA {f:Nat->Nat}{k c:Nat}(h:1<f c):Fl f (k+1) c=some (f c):=by rw[Fl,if_pos h]
theorem Ox:∀i,i<3->Ay (gP i)=qS i
 | 0,_=>by kernel_rfl
 | 1,_=>by kernel_rfl
 | 2,_=>by kernel_rfl
 | _+3,h=>by omega
theorem Sv (key info:List Nat):Ie key info 1=Lk key (info++[1]):=by
 simp[Ie,Ts]
theorem kW:∀i,i<3->Fu [] (gP i) 0=cL (Su i)
 | 0,h=>by
  rw[Wj];unfold Fu;rw[Ox 0 h,Wu];show be ((Ie _ _ 1).take 10)=_;rw[Sv];show be ((Lk _ [104,0,1]).take 10)=_;rw[bL];rfl
 | 1,h=>by
  rw[Wj];unfold Fu;rw[Ox 1 h,Wu];show be ((Ie _ _ 1).take 11)=_;rw[Sv];show be ((Lk _ [104,0,1]).take 11)=_;rw[bL];rfl
 | 2,h=>by
  rw[Wj];unfold Fu;rw[Ox 2 h,Wu];show be ((Ie _ _ 1).take 17)=_;rw[Sv];show be ((Lk _ [104,0,1]).take 17)=_;rw[bL];rfl
 | _+3,h=>by omega
theorem cX:∀i,i<3->(gP i-1)/gQ i=Nt i
 | 0,_=>by decide
 | 1,_=>by decide
 | 2,_=>by decide
 | _+3,h=>by omega
theorem pV (i:Nat)(hi:i<3):Tl (gP i) (gQ i) (gG i):=by
 obtain⟨h1,h2,h3,_⟩:=Jh i hi;exact⟨by rw[Vh i hi];exact Nat.mul_mod_right _ _,h1,h2,h3,Vi i hi⟩
theorem fS (i:Nat)(hi:i<3):newSpec (gP i) (gQ i) (gG i) [] (Ez i)=(0,gH i):=by
 have h1:Fu [] (gP i) 0^((gP i-1)/gQ i)%gP i=gH i:=by rw[kW i hi,cX i hi,qU i hi]
 have h2:=(Jh i hi).2.2.2.1;unfold newSpec;rw[if_pos ⟨oK i hi,eN i hi⟩,if_pos (pV i hi)];have h3:Fl (fun c=>Fu [] (gP i) c^((gP i-1)/gQ i)%gP i) 256 0=some (gH i):=by
  rw[dA (by show 1<_;rw[h1];exact h2)];show some (Fu [] (gP i) 0^((gP i-1)/gQ i)%gP i)=_;rw[h1]
 rw[h3]
theorem cZ:∀i,i<3->∀s∈Ez i,s.ps.length<=1000
 | 0,_=>by intro s hs;cases hs
 | 1,_=>by intro s hs;rcases List.mem_singleton.1 hs with rfl;simp
 | 2,_=>by
  intro s hs;rcases List.mem_cons.1 hs with rfl|hs
  .simp
  .rcases List.mem_singleton.1 hs with rfl;simp
 | _+3,h=>by omega
end Go.Proofs.YtnbmfaihlefgfaaGreatDoor
