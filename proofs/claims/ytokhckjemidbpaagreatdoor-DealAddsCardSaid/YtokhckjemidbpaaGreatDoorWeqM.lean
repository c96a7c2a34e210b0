/- The document's weights, as numbers, are those of WeiM; each number has an inverse, or none. Of no program (stage 10 ahead). -/
import Derived.Test.YtokhckjemidbpaaGreatDoorRing
set_option maxRecDepth 1000000
set_option maxHeartbeats 16000000
set_option linter.all false
namespace Go.Proofs.YtokhckjemidbpaaGreatDoor
def ev:List Int->Int->Int
 | [],_=>0
 | c::p,x=>c+x*ev p x
theorem lJ (c x:Int):ev [c] x=c:=by simp[ev]
def quo (a:Int):List Int->List Int
 | []=>[]
 | [_]=>[]
 | _::d::p=>ev (d::p) a::quo a (d::p)
theorem lI (a x:Int):∀p,ev p x-ev p a=(x-a)*ev (quo a p) x
 | []=>by simp[ev,quo]
 | [c]=>by simp[ev,quo]
 | c::d::p=>by
  have ih:=lI a x (d::p);show (c+x*ev (d::p) x)-(c+a*ev (d::p) a)=(x-a)*(ev (d::p) a+x*ev (quo a (d::p)) x);generalize ev (d::p) x=X at *;generalize ev (d::p) a=A at *;generalize ev (quo a (d::p)) x=Z at *;have h1:(x-a)*(A+x*Z)=(x-a)*A+x*((x-a)*Z):=by rw[Int.mul_add,<-Int.mul_assoc,Int.mul_comm (x-a) x,Int.mul_assoc]
  rw[h1,<-ih,Int.sub_mul,Int.mul_sub];omega
theorem Sa (a:Int):∀p,(quo a p).length=p.length-1
 | []=>rfl
 | [_]=>rfl
 | _::d::p=>by
  have:=Sa a (d::p);simp only[quo,List.length_cons]at *;omega
theorem lL {q x:Int}:∀p:List Int,(∀c∈p,q ∣ c)->q ∣ ev p x
 | [],_=>Int.dvd_zero q
 | c::p,h=>Int.dvd_add (h c List.mem_cons_self) (Int.dvd_mul_of_dvd_right (lL p fun d hd=>h d (List.mem_cons_of_mem _ hd)))
theorem Vq {q a:Int}:∀p:List Int,q ∣ ev p a->(∀c∈quo a p,q ∣ c)->∀c∈p,q ∣ c
 | [],_,_,c,hc=>by cases hc
 | [d],h,_,c,hc=>by
  rcases List.mem_singleton.1 hc with rfl
  rw[lJ]at h;exact h
 | e::d::p,h,hq,c,hc=>by
  have h1:q ∣ ev (d::p) a:=hq _ List.mem_cons_self;have ih:=Vq (d::p) h1 fun c hc=>hq c (List.mem_cons_of_mem _ hc)
  rcases List.mem_cons.1 hc with rfl|hc
  .have h2:c=ev (c::d::p) a-a*ev (d::p) a:=by show c=(c+a*ev (d::p) a)-_;omega
   rw[h2];exact Int.dvd_sub h (Int.dvd_mul_of_dvd_right h1)
  .exact ih c hc
theorem Bl.dvd_imul {q:Nat}(hq:Bl q){a b:Int}(h:(q:Int) ∣ a*b):(q:Int) ∣ a ∨ (q:Int) ∣ b:=by
 rw[Int.ofNat_dvd_left,Int.natAbs_mul]at h
 rcases hq.dvd_mul h with h|h
 .exact .inl (Int.ofNat_dvd_left.2 h)
 .exact .inr (Int.ofNat_dvd_left.2 h)
def Fc (q:Nat)(xs:List Int):Prop:=xs.Pairwise fun a b=>¬(q:Int) ∣ a-b
theorem Zl {q:Nat}(hq:Bl q):∀(xs p:List Int),p.length<=xs.length->Fc q xs->(∀x∈xs,(q:Int) ∣ ev p x)->∀c∈p,(q:Int) ∣ c
 | [],p,hl,_,_=>fun c hc=>by
  rw[List.eq_nil_of_length_eq_zero (Nat.le_zero.1 hl)]at hc;cases hc
 | a::xs,p,hl,hu,hx=>by
  have hu':=List.pairwise_cons.1 hu;have ha:=hx a List.mem_cons_self;refine Vq p ha (Zl hq xs (quo a p) (by rw[Sa];simp only[List.length_cons]at hl;omega) hu'.2 fun y hy=>?_);have h1:(q:Int) ∣ (y-a)*ev (quo a p) y:=by
   rw[<-lI];exact Int.dvd_sub (hx y (List.mem_cons_of_mem _ hy)) ha
  rcases hq.dvd_imul h1 with h2|h2
  .exact absurd (by have:=Int.dvd_neg.2 h2;rw[Int.neg_sub]at this;exact this) (hu'.1 y hy)
  .exact h2
def Mf:List Int->List Int->List Int
 | [],r=>r
 | p,[]=>p
 | a::p,b::r=>(a+b)::Mf p r
theorem Ss (x:Int):∀p r,ev (Mf p r) x=ev p x+ev r x
 | [],r=>by simp[Mf,ev]
 | a::p,[]=>by simp[Mf,ev]
 | a::p,b::r=>by
  show (a+b)+x*ev (Mf p r) x=(a+x*ev p x)+(b+x*ev r x);rw[Ss x p r,Int.mul_add];omega
theorem Ht:∀p r,(Mf p r).length=max p.length r.length
 | [],r=>by simp[Mf]
 | a::p,[]=>by simp[Mf]
 | a::p,b::r=>by simp only[Mf,List.length_cons,Ht p r];omega
def Jf (k:Int)(p:List Int):List Int:=p.map fun c=>k*c
theorem Ky (k x:Int):∀p,ev (Jf k p) x=k*ev p x
 | []=>by simp[Jf,ev]
 | c::p=>by
  show k*c+x*ev (Jf k p) x=k*(c+x*ev p x);rw[Ky k x p,Int.mul_add,<-Int.mul_assoc,<-Int.mul_assoc,Int.mul_comm x k]
theorem Gb (k:Int)(p:List Int):(Jf k p).length=p.length:=by simp[Jf]
def kQ (a:Int)(p:List Int):List Int:=Mf (0::p) (Jf (-a) p)
theorem pR (a x:Int)(p:List Int):ev (kQ a p) x=(x-a)*ev p x:=by
 rw[kQ,Ss,Ky];show 0+x*ev p x + -a*ev p x=_;rw[Int.sub_mul,Int.neg_mul];omega
theorem Zr (a:Int)(p:List Int):(kQ a p).length=p.length+1:=by
 rw[kQ,Ht,Gb,List.length_cons];omega
def Gz:List (Int×Int)->Int->Int
 | [],_=>1
 | (a,v)::l,x=>(x-a)*v*Gz l x
theorem oT:∀l:List (Int×Int),∃p:List Int,p.length=l.length+1/\∀x,ev p x=Gz l x
 | []=>⟨[1],rfl,fun x=>lJ 1 x⟩
 | (a,v)::l=>by
  obtain⟨p,h1,h2⟩:=oT l;refine⟨Jf v (kQ a p),by rw[Gb,Zr,h1];rfl,fun x=>?_⟩;rw[Ky,pR,h2];show v*((x-a)*Gz l x)=(x-a)*v*Gz l x;rw[<-Int.mul_assoc,Int.mul_comm v]
def sumW:List (Int×List (Int×Int))->Int->Int
 | [],_=>0
 | (y,l)::s,x=>y*Gz l x+sumW s x
theorem oU {n:Nat}:∀s:List (Int×List (Int×Int)),(∀e∈s,e.2.length+1<=n)->∃p:List Int,p.length<=n/\∀x,ev p x=sumW s x
 | [],_=>⟨[],Nat.zero_le _,fun _=>rfl⟩
 | (y,l)::s,h=>by
  obtain⟨p,h1,h2⟩:=oT l;obtain⟨r,h3,h4⟩:=oU s fun e he=>h e (List.mem_cons_of_mem _ he)
  have h5:=h _ List.mem_cons_self;refine⟨Mf (Jf y p) r,by rw[Ht,Gb,h1];exact Nat.max_le.2 ⟨h5,h3⟩,fun x=>?_⟩;rw[Ss,Ky,h2,h4];rfl
theorem pK {q:Nat}(hq:Bl q){xs p:List Int}{s:List (Int×List (Int×Int))}(hu:Fc q xs)(hp:p.length<=xs.length)(hs:∀e∈s,e.2.length+1<=xs.length)(hx:∀x∈xs,(q:Int) ∣ sumW s x-ev p x)(x:Int):(q:Int) ∣ sumW s x-ev p x:=by
 obtain⟨r,h1,h2⟩:=oU s hs;have e1:∀x,sumW s x-ev p x=ev (Mf r (Jf (-1) p)) x:=fun x=>by
  rw[Ss,Ky,h2];omega
 rw[e1];refine lL _ (Zl hq xs _ (by rw[Ht,Gb];exact Nat.max_le.2 ⟨h1,hp⟩) hu fun y hy=>?_);rw[<-e1];exact hx y hy
theorem Ot {a v:Int}:∀l:List (Int×Int),(a,v)∈l->Gz l a=0
 | (b,u)::l,h=>by
  show (a-b)*u*Gz l a=0;rcases List.mem_cons.1 h with h|h
  .cases h;rw[Int.sub_self,Int.zero_mul,Int.zero_mul]
  .rw[Ot l h,Int.mul_zero]
theorem Yc {q x:Int}:∀l:List (Int×Int),(∀e∈l,q ∣ (x-e.1)*e.2-1)->q ∣ Gz l x-1
 | [],_=>by simp[Gz]
 | (b,u)::l,h=>by
  show q ∣ (x-b)*u*Gz l x-1;have h1:=h _ List.mem_cons_self;have h2:=Yc l fun e he=>h e (List.mem_cons_of_mem _ he)
  simp only at h1;generalize (x-b)*u=t at *;rw[show t*Gz l x-1=(t-1)*Gz l x+(Gz l x-1) by rw[Int.sub_mul];omega];exact Int.dvd_add (Int.dvd_mul_of_dvd_left h1) h2
def Hd (iv:Int->Int):List Int->List Int->List Int->List (Int×List (Int×Int))
 | pre,z::post,y::ys=>(y,(pre++post).map fun a=>(a,iv (z-a)))::Hd iv (pre++[z]) post ys
 | _,_,_=>[]
theorem Yu (iv:Int->Int){x:Int}:∀(post ys pre:List Int),x∈pre->sumW (Hd iv pre post ys) x=0
 | [],_,_,_=>by simp[Hd,sumW]
 | _::_,[],_,_=>by simp[Hd,sumW]
 | z::post,y::ys,pre,h=>by
  show y*Gz ((pre++post).map fun a=>(a,iv (z-a))) x+sumW (Hd iv (pre++[z]) post ys) x=0;rw[Ot (v:=iv (z-x)) _ (List.mem_map.2 ⟨x,List.mem_append_left _ h,rfl⟩),Int.mul_zero,Yu iv post ys (pre++[z]) (List.mem_append_left _ h)];rfl
theorem Fc.neg {q:Nat}{a b:Int}(h:¬(q:Int) ∣ a-b):¬(q:Int) ∣ b-a:=fun k=>h (by have:=Int.dvd_neg.2 k;rw[Int.neg_sub]at this;exact this)
def pW (q:Nat)(iv:Int->Int)(xs:List Int):Prop:=∀a b,a∈xs->b∈xs->¬(q:Int) ∣ a-b->(q:Int) ∣ (a-b)*iv (a-b)-1
theorem eK {q:Nat}{iv:Int->Int}:∀(post ys pre:List Int),post.length=ys.length->Fc q (pre++post)->pW q iv (pre++post) ->
  ∀(k:Nat) (x y:Int),post[k]? = some x->ys[k]? = some y->(q:Int) ∣ sumW (Hd iv pre post ys) x-y
 | [],_,_,_,_,_,k,x,y,h,_=>by simp at h
 | _::_,[],_,hl,_,_,_,_,_,_,_=>by simp at hl
 | z::post,w::ys,pre,hl,hu,hi,k,x,y,hx,hy=>by
  show (q:Int) ∣ w*Gz ((pre++post).map fun a=>(a,iv (z-a))) x+sumW (Hd iv (pre++[z]) post ys) x-y;have e1:pre++z::post=pre++[z]++post:=by simp
  match k,hx,hy with
  | 0,hx,hy=>
   simp only[List.getElem?_cons_zero,Option.some.injEq]at hx hy;subst hx;subst hy;rw[Yu iv post ys (pre++[z]) (List.mem_append_right _ (List.mem_singleton.2 rfl)),Int.add_zero];have h1:(q:Int) ∣ Gz ((pre++post).map fun a=>(a,iv (z-a))) z-1:=Yc _ fun e he=>by
    obtain⟨a,ha,rfl⟩:=List.mem_map.1 he;have hz:z∈pre++z::post:=List.mem_append_right _ List.mem_cons_self;have hp:=List.pairwise_append.1 hu;have hc:=List.pairwise_cons.1 hp.2.1;rcases List.mem_append.1 ha with ha|ha
    .exact hi z a hz (List.mem_append_left _ ha) (Fc.neg (hp.2.2 a ha z List.mem_cons_self))
    .exact hi z a hz (List.mem_append_right _ (List.mem_cons_of_mem _ ha)) (hc.1 a ha)
   generalize Gz ((pre++post).map fun a=>(a,iv (z-a))) z=W at *;rw[show w*W-w=w*(W-1) by rw[Int.mul_sub];omega];exact Int.dvd_mul_of_dvd_right h1
  | k+1,hx,hy=>
   simp only[List.getElem?_cons_succ]at hx hy;rw[Ot (v:=iv (z-x)) _ (List.mem_map.2 ⟨x,List.mem_append_right _ (List.mem_of_getElem? hx),rfl⟩),Int.mul_zero,Int.zero_add];exact eK post ys (pre++[z]) (by simpa using hl) (by rw[<-e1];exact hu) (by rw[<-e1];exact hi) k x y hx hy
theorem Yv {iv:Int->Int}{n:Nat}:∀(post ys pre:List Int),pre.length+post.length=n->∀e∈Hd iv pre post ys,e.2.length+1<=n
 | [],_,_,_,e,he=>by simp[Hd]at he
 | _::_,[],_,_,e,he=>by simp[Hd]at he
 | z::post,y::ys,pre,hn,e,he=>by
  rcases List.mem_cons.1 he with rfl|he
  .simp only[List.length_map,List.length_append,List.length_cons]at *;omega
  .exact Yv post ys (pre++[z]) (by simp only[List.length_append,List.length_cons,List.length_nil]at *;omega) e he
theorem kR {q:Nat}(hq:Bl q){iv:Int->Int}{xs ys p:List Int}(hu:Fc q xs)(hi:pW q iv xs)(hl:xs.length=ys.length)(hp:p.length<=xs.length)(hy:∀(k:Nat) (x y:Int),xs[k]? = some x->ys[k]? = some y->(q:Int) ∣ y-ev p x)(x:Int):(q:Int) ∣ sumW (Hd iv [] xs ys) x-ev p x:=by
 refine pK hq hu hp (Yv xs ys [] (by simp)) (fun z hz=>?_) x;obtain⟨k,hk⟩:=List.getElem?_of_mem hz;have hkl:k<ys.length:=by rw[<-hl];exact(List.getElem?_eq_some_iff.1 hk).1
 have h1:=eK xs ys [] hl (by simpa using hu) (by simpa using hi) k z (ys[k]) hk (List.getElem?_eq_getElem hkl);have h2:=hy k z (ys[k]) hk (List.getElem?_eq_getElem hkl);rw[show sumW (Hd iv [] xs ys) z-ev p z=(sumW (Hd iv [] xs ys) z-ys[k])+(ys[k]-ev p z) by omega];exact Int.dvd_add h1 h2
theorem Jk {M a b:Nat}(h:(M:Int) ∣ (a:Int)-b):a%M=b%M:=by
 have:=Int.emod_emod_of_dvd;have h1:((a:Int)-b)%M=0:=Int.emod_eq_zero_of_dvd h;have h2:=Int.emod_eq_emod_iff_emod_sub_eq_zero.2 h1
 exact_mod_cast h2
theorem Mx {M a b:Nat}(h:a%M=b%M):(M:Int) ∣ (a:Int)-b:=by
 have h2:(a:Int)%M=(b:Int)%M:=by exact_mod_cast h
 exact Int.dvd_of_emod_eq_zero (Int.emod_eq_emod_iff_emod_sub_eq_zero.1 h2)
def Jc (M N X:Nat):Prop:=(Nat.gcd M N=1->X<M/\X*N%M=1%M)/\(Nat.gcd M N≠1->X=0)
theorem dE {M N X Y:Nat}(hX:X<M)(hY:Y<M)(h1:X*N%M=1%M)(h2:Y*N%M=1%M):X=Y:=by
 have e1:(X*N)*Y%M=Y%M:=by rw[Nat.mul_mod,h1,<-Nat.mul_mod,Nat.one_mul]
 have e2:X*(Y*N)%M=X%M:=by rw[Nat.mul_mod,h2,<-Nat.mul_mod,Nat.mul_one]
 have e3:(X*N)*Y=X*(Y*N):=by rw[Nat.mul_assoc,Nat.mul_comm N Y]
 rw[e3,e2,Nat.mod_eq_of_lt hX,Nat.mod_eq_of_lt hY]at e1
 exact e1
theorem Jc.uniq {M N X Y:Nat}(h:Jc M N X)(k:Jc M N Y):X=Y:=by
 by_cases hg:Nat.gcd M N=1
 .exact dE (h.1 hg).1 (k.1 hg).1 (h.1 hg).2 (k.1 hg).2
 .rw[h.2 hg,k.2 hg]
structure Om (M N D R O X:Nat) (neg:Bool):Prop where
 gcd:Nat.gcd D R=Nat.gcd M N
 sum:O*R+X*D=M
 pos:0<D
 le:O<=M
 dle:D<=M
 rle:R<=M
 par:if neg=true then (M:Int) ∣ (O*N:Nat)+(D:Int)/\(M:Int) ∣ (X*N:Nat)-(R:Int) else (M:Int) ∣ (O*N:Nat)-(D:Int)/\(M:Int) ∣ (X*N:Nat)+(R:Int)
theorem Om.start {M N:Nat}(hM:0<M):Om M N M (N%M) 0 1 true:=by
 refine⟨by rw[Nat.gcd_comm,<-Nat.gcd_rec],by omega,hM,by omega,Aw _,Nat.le_of_lt (Nat.mod_lt _ hM),?_⟩;rw[if_pos rfl];refine⟨by simp,?_⟩;rw[Nat.one_mul];exact Mx (Nat.mod_mod _ _).symm
theorem Om.step {M N D R O X:Nat}{neg:Bool}(h:Om M N D R O X neg)(hR:0<R):Om M N R (D%R) X (O+D/R*X) (!neg):=by
 have hD:(D:Int)=(D/R:Nat)*(R:Int)+(D%R:Nat):=by
  have:=Nat.div_add_mod D R;rw[Nat.mul_comm]at this
  exact_mod_cast this.symm
 have hle:X<=M:=by
  have h1:=h.sum;have h2:X*1<=X*D:=Nat.mul_le_mul_left X h.pos;omega
 have hX:(((O+D/R*X)*N:Nat):Int)=((O*N:Nat):Int)+(D/R:Nat)*((X*N:Nat):Int):=by
  rw[Nat.add_mul,Nat.mul_assoc]
  push_cast
  rfl
 refine⟨by rw[<-h.gcd,Nat.gcd_comm D R,Nat.gcd_rec R D,Nat.gcd_comm],?_,hR,hle,h.rle,Er (Nat.mod_le _ _) h.dle,?_⟩
 .have h1:=h.sum;have h2:=Nat.div_add_mod D R;have h3:X*(D%R)+X*(R*(D/R))=X*D:=by rw[<-Nat.mul_add];congr 1;omega
  have h4:(O+D/R*X)*R=O*R+X*(R*(D/R)):=by rw[Nat.add_mul,Nat.mul_assoc,Nat.mul_comm (D/R),Nat.mul_assoc]
  omega
 .have hp:=h.par;clear h;rw[hX];clear hX;generalize ((O*N:Nat):Int)=on at *;generalize ((X*N:Nat):Int)=xn at *;generalize ((D/R:Nat):Int)=q at *;generalize ((D%R:Nat):Int)=r at *
  cases neg with
  | true=>
   simp only[Bool.not_true,Bool.false_eq_true,if_false,if_true]at hp ⊢;refine⟨hp.2,?_⟩;have e:on+q*xn+r=(on+(D:Int))+q*(xn-(R:Int)):=by rw[Int.mul_sub];omega
   rw[e];exact Int.dvd_add hp.1 (Int.dvd_mul_of_dvd_right hp.2)
  | false=>
   simp only[Bool.not_false,Bool.false_eq_true,if_false,if_true]at hp ⊢;refine⟨hp.2,?_⟩;have e:on+q*xn-r=(on-(D:Int))+q*(xn+(R:Int)):=by rw[Int.mul_add];omega
   rw[e];exact Int.dvd_add hp.1 (Int.dvd_mul_of_dvd_right hp.2)
theorem Om.next_le {M N D R O X:Nat}{neg:Bool}(h:Om M N D R O X neg):X<=M:=by
 have h1:=h.sum;have h2:X*1<=X*D:=Nat.mul_le_mul_left X h.pos;omega
theorem Om.done {M N D O X:Nat}{neg:Bool}(h:Om M N D 0 O X neg)(hM:2<=M):D=Nat.gcd M N/\(D=1->Jc M N (if neg=true then M-O else O)):=by
 have hg:D=Nat.gcd M N:=by rw[<-h.gcd,Nat.gcd_zero_right]
 refine⟨hg,fun h1=>⟨fun _=>?_,fun hn=>absurd (by rw[<-hg,h1]) hn⟩⟩;have hp:=h.par;have hle:=h.le;have no1:¬(M:Int) ∣ 1:=fun hd=>by
  have:=Int.le_of_dvd (by omega) hd;omega
 subst h1
 cases neg with
 | true=>
  simp only[if_true]at hp ⊢;have hO:O≠0:=fun h0=>no1 (by subst h0;simpa using hp.1)
  refine⟨by omega,Jk ?_⟩;have e:(((M-O)*N:Nat):Int)-((1:Nat):Int)=(M:Int)*N-(((O*N:Nat):Int)+((1:Nat):Int)):=by
   rw[Nat.sub_mul,Int.ofNat_sub (Nat.mul_le_mul_right N hle)]
   push_cast
   omega
  rw[e];exact Int.dvd_sub (Int.dvd_mul_right _ _) hp.1
 | false=>
  simp only[Bool.false_eq_true,if_false]at hp ⊢;refine⟨Nat.lt_of_le_of_ne hle fun he=>no1 ?_,Jk hp.1⟩;subst he;have h2:(O:Int) ∣ ((O*N:Nat):Int):=by push_cast;exact Int.dvd_mul_right _ _
  have:=Int.dvd_sub h2 hp.1
  rwa [show ((O*N:Nat):Int)-(((O*N:Nat):Int)-((1:Nat):Int))=1 by omega]at this
theorem Pf {q a:Int}(h:q ∣ a)(b:Int):q ∣ a*b:=let ⟨k,hk⟩:=h;⟨k*b,by rw[hk,Int.mul_assoc]⟩
theorem Xe {q a:Int}(h:q ∣ a)(b:Int):q ∣ b*a:=by rw[Int.mul_comm];exact Pf h b
structure Is (q N:Nat) (z:Int):Prop where
 lt:N<q
 dvd:(q:Int) ∣ (N:Int)-z
theorem Is.of {q:Nat}(hq:0<q)(N:Nat):Is q (N%q) N:=⟨Nat.mod_lt _ hq,by
 have h:=Nat.div_add_mod N q;refine⟨-((N/q:Nat):Int),?_⟩;have h2:(N:Int)=(q:Int)*(N/q:Nat)+(N%q:Nat):=by rw[<-Int.natCast_mul,<-Int.natCast_add,h]
 rw[Int.mul_neg];omega⟩
theorem Is.alike {q N:Nat}{x y:Int}(h:Is q N x)(hxy:(q:Int) ∣ x-y):Is q N y:=⟨h.lt,by
 have:=Int.dvd_add h.dvd hxy
 rwa [show (N:Int)-x+(x-y)=N-y by omega]at this⟩
theorem Is.uniq {q a b:Nat}{x y:Int}(h:Is q a x)(k:Is q b y)(hxy:(q:Int) ∣ x-y):a=b:=by
 have h1:=Int.dvd_sub (h.alike hxy).dvd k.dvd;rw[show (a:Int)-y-((b:Int)-y)=(a:Int)-b by omega]at h1
 have h2:=Jk h1
 rwa [Nat.mod_eq_of_lt h.lt,Nat.mod_eq_of_lt k.lt]at h2
theorem Is.rest {q N:Nat}{z:Int}(hq:0<q)(h:(q:Int) ∣ (N:Int)-z):Is q (N%q) z:=(Is.of hq N).alike h
theorem Is.add {q a b:Nat}{x y:Int}(h:Is q a x)(k:Is q b y):Is q ((a+b)%q) (x+y):=Is.rest (Nat.lt_of_le_of_lt (Nat.zero_le _) h.lt) (by
 have:=Int.dvd_add h.dvd k.dvd
 rwa [show (a:Int)-x+((b:Int)-y)=((a+b:Nat):Int)-(x+y) by omega]at this)
theorem Is.mul {q a b:Nat}{x y:Int}(h:Is q a x)(k:Is q b y):Is q (a*b%q) (x*y):=Is.rest (Nat.lt_of_le_of_lt (Nat.zero_le _) h.lt) (by
 have h1:=Int.dvd_add (Pf h.dvd (b:Int)) (Xe k.dvd x)
 rwa [show ((a:Int)-x)*b+x*((b:Int)-y)=((a*b:Nat):Int)-x*y by rw[Int.sub_mul,Int.mul_sub,Int.natCast_mul];omega]at h1)
theorem Is.sub {q a b:Nat}{x y:Int}(hq:2<=q)(h:Is q a x)(k:Is q b y):Is q (Cq a b q) (x-y):=⟨Wj hq,by
 have h1:=Int.dvd_sub h.dvd k.dvd;unfold Cq;rw[Nat.mod_eq_of_lt h.lt,Nat.mod_eq_of_lt k.lt];split
 .rwa [show (a:Int)-x-((b:Int)-y)=((a-b:Nat):Int)-(x-y) by omega]at h1
 .have h2:=Int.dvd_add h1 (Int.dvd_refl (q:Int));have:=k.lt
  rwa [show (a:Int)-x-((b:Int)-y)+q=((q-b+a:Nat):Int)-(x-y) by omega]at h2⟩
theorem Is.one {q:Nat}(hq:2<=q):Is q 1 1:=⟨by omega,by simp⟩
theorem Is.zero {q:Nat}(hq:0<q):Is q 0 0:=⟨hq,by simp⟩
theorem Is.inv {q N X:Nat}{z:Int}(hq:Bl q)(h:Is q (N%q) z)(hX:Jc q N X)(hz:¬(q:Int) ∣ z):(q:Int) ∣ z*X-1/\X<q:=by
 have hg:Nat.gcd q N=1:=hq.coprime fun hd=>hz (by
  have h1:N%q=0:=Nat.mod_eq_zero_of_dvd hd;have h2:=h.dvd;rw[h1]at h2
  have:=Int.dvd_neg.2 h2
  rwa [show -(((0:Nat):Int)-z)=z by omega]at this)
 obtain⟨h1,h2⟩:=hX.1 hg;refine⟨?_,h1⟩;have h3:(q:Int) ∣ ((X*N:Nat):Int)-(1:Nat):=Mx h2;have h4:(q:Int) ∣ (N:Int)-z:=by
  have h5:=Int.dvd_sub (Is.of (by have:=hq.two;omega) N).dvd h.dvd;have h6:=Int.dvd_neg.2 h5
  rwa [show -(((N%q:Nat):Int)-N-(((N%q:Nat):Int)-z))=N-z by omega]at h6
 have h7:=Int.dvd_sub h3 (Xe h4 (X:Int))
 rwa [show ((X*N:Nat):Int)-(1:Nat)-X*((N:Int)-z)=z*X-1 by rw[Int.natCast_mul,Int.mul_sub,Int.mul_comm z X];omega]at h7
def Be (q x:Nat):List Nat->Nat
 | []=>0
 | c::l=>(c+Be q x l*x%q)%q
theorem Hp {q x:Nat}(hq:2<=q):∀l:List Nat,Is q (Be q x l) (ev (l.map fun c:Nat=>(c:Int)) x)
 | []=>Is.zero (by omega)
 | c::l=>by
  have ih:=Hp (q:=q) (x:=x) hq l;have h0:0<q:=by omega
  have h1:Is q (Be q x l*x%q) (ev (l.map fun c:Nat=>(c:Int)) x*x):=Is.rest h0 (by
   have:=Pf ih.dvd (x:Int)
   rwa [Int.sub_mul,<-Int.natCast_mul]at this)
  refine Is.rest h0 ?_;show (q:Int) ∣ ((c+Be q x l*x%q:Nat):Int)-((c:Int)+x*ev (l.map fun c:Nat=>(c:Int)) x);have:=h1.dvd;rw[Int.mul_comm]at this
  rwa [show ((c+Be q x l*x%q:Nat):Int)-((c:Int)+x*ev (l.map fun c:Nat=>(c:Int)) x)=((Be q x l*x%q:Nat):Int)-x*ev (l.map fun c:Nat=>(c:Int)) x by omega]
theorem kS {M N:Nat}(hM:2<=M):∀(R D O X:Nat) (neg:Bool),Om M N D R O X neg->∃Y,Jc M N Y:=by
 intro R
 induction R using Nat.strongRecOn with
 | _ R ih=>
  intro D O X neg h;rcases Nat.eq_zero_or_pos R with h0|h0
  .subst h0;have h1:=h.done hM
   by_cases hD:D=1
   .exact⟨_,h1.2 hD⟩
   .exact⟨0,fun hg=>absurd (h1.1.trans hg) hD,fun _=>rfl⟩
  .exact ih (D%R) (Nat.mod_lt _ h0) _ _ _ _ (h.step h0)
theorem dF {M:Nat}(hM:2<=M)(N:Nat):∃Y,Jc M N Y:=kS hM _ _ _ _ _ (Om.start (M:=M) (N:=N) (by omega))
noncomputable def Qx (M N:Nat):Nat:=Classical.epsilon fun Y=>Jc M N Y
theorem Xc {M:Nat}(hM:2<=M)(N:Nat):Jc M N (Qx M N):=Classical.epsilon_spec (dF hM N)
theorem oB {M N X:Nat}(hM:2<=M)(h:Jc M N X):X=Qx M N:=h.uniq (Xc hM N)
noncomputable def Mu (q:Nat) (z:Int):Int:=(Qx q (z%q).toNat:Nat)
theorem eM {q:Nat}(hq:0<q)(z:Int):Is q (z%q).toNat z:=by
 have h1:=Int.emod_nonneg z (show (q:Int)≠0 by omega);have h2:=Int.emod_lt_of_pos z (show (0:Int)<q by omega);refine⟨by omega,?_⟩;rw[Int.toNat_of_nonneg h1];refine⟨-(z/q),?_⟩;have:=Int.mul_ediv_add_emod z q;rw[Int.mul_neg];omega
theorem Zw {q:Nat}(hq:Bl q)(xs:List Int):pW q (Mu q) xs:=fun a b _ _ h=>by
 have h0:0<q:=by have:=hq.two;omega
 have h1:=eM h0 (a-b);exact(Is.inv (N:=((a-b)%q).toNat) hq (by rw[Nat.mod_eq_of_lt h1.lt];exact h1) (Xc hq.two _) h).1
theorem nL {q N:Nat}{z:Int}(h:Is q N z):(z%q).toNat=N :=
 (eM (Nat.lt_of_le_of_lt (Nat.zero_le _) h.lt) z).uniq h (by simp)
noncomputable def Jp (q x xi:Nat) (o:Nat):List Nat->Nat
 | []=>o
 | a::l=>Jp q x xi (o*(Cq x a q*Qx q (Cq xi a q)%q)%q) l
theorem Xl {q x xi:Nat}(hq:2<=q):∀(l:List Nat) (o:Nat) (z:Int),Is q o z ->
  Is q (Jp q x xi o l) (z*Gz (l.map fun a:Nat=>((a:Int),Mu q ((xi:Int)-a))) x)
 | [],o,z,h=>by
  show Is q o (z*1);rw[Int.mul_one];exact h
 | a::l,o,z,h=>by
  have h0:0<q:=by omega
  have d1:Is q (Cq x a q) ((x:Int)-a):=by
   have:=(Is.of h0 x).sub hq (Is.of h0 a);have e:Cq (x%q) (a%q) q=Cq x a q:=by unfold Cq;rw[Nat.mod_mod,Nat.mod_mod]
   rwa [e]at this
  have d2:Is q (Cq xi a q) ((xi:Int)-a):=by
   have:=(Is.of h0 xi).sub hq (Is.of h0 a);have e:Cq (xi%q) (a%q) q=Cq xi a q:=by unfold Cq;rw[Nat.mod_mod,Nat.mod_mod]
   rwa [e]at this
  have h2:Is q (Cq x a q*Qx q (Cq xi a q)%q) (((x:Int)-a)*Mu q ((xi:Int)-a)):=by
   refine Is.rest h0 ?_;rw[Mu,nL d2,Int.natCast_mul,<-Int.sub_mul];exact Pf d1.dvd _
  have h3:=Xl (x:=x) (xi:=xi) hq l _ _ (h.mul h2);show Is q (Jp q x xi (o*(Cq x a q*Qx q (Cq xi a q)%q)%q) l) (z*(((x:Int)-a)*Mu q ((xi:Int)-a)*Gz (l.map fun a:Nat=>((a:Int),Mu q ((xi:Int)-a))) x));rw[<-Int.mul_assoc];exact h3
noncomputable def Kb (q x:Nat):List Nat->List Nat->List Nat->Nat->Nat
 | pre,z::post,y::ys,o=>Kb q x (pre++[z]) post ys ((o+Jp q x z 1 (pre++post)*y%q)%q)
 | _,_,_,o=>o
def ints (l:List Nat):List Int:=l.map fun a:Nat=>(a:Int)
theorem Zv {q x:Nat}(hq:2<=q):∀(post ys pre:List Nat) (o:Nat) (s:Int),Is q o s ->
  Is q (Kb q x pre post ys o) (s+sumW (Hd (Mu q) (ints pre) (ints post) (ints ys)) x)
 | [],_,pre,o,s,h=>by
  show Is q o (s+0);rw[Int.add_zero];exact h
 | z::post,[],pre,o,s,h=>by
  show Is q o (s+0);rw[Int.add_zero];exact h
 | z::post,y::ys,pre,o,s,h=>by
  have h0:0<q:=by omega
  have hw:=Xl (x:=x) (xi:=z) hq (pre++post) 1 1 (Is.one hq);rw[Int.one_mul]at hw
  have h1:Is q (Jp q x z 1 (pre++post)*y%q) ((y:Int)*Gz ((pre++post).map fun a:Nat=>((a:Int),Mu q ((z:Int)-a))) x):=by
   refine Is.rest h0 ?_;have:=Pf hw.dvd (y:Int);rw[Int.sub_mul,<-Int.natCast_mul]at this
   rwa [Int.mul_comm (y:Int)]
  have h2:=Zv (x:=x) hq post ys (pre++[z]) _ _ (h.add h1);have e1:(ints pre++ints post).map (fun a:Int=>(a,Mu q ((z:Int)-a)))=(pre++post).map fun a:Nat=>((a:Int),Mu q ((z:Int)-a)):=by
   simp[ints,List.map_append,List.map_map,Function.comp_def]
  have e2:ints (pre++[z])=ints pre++[(z:Int)]:=by simp[ints]
  rw[e2]at h2
  show Is q (Kb q x (pre++[z]) post ys ((o+Jp q x z 1 (pre++post)*y%q)%q)) (s+((y:Int)*Gz ((ints pre++ints post).map fun a:Int=>(a,Mu q ((z:Int)-a))) x+sumW (Hd (Mu q) (ints pre++[(z:Int)]) (ints post) (ints ys)) x));rw[e1,<-Int.add_assoc];exact h2
theorem Zx {l:List Nat}{k:Nat}{z:Int}(h:(ints l)[k]? = some z):∃a:Nat,l[k]? = some a/\z=a:=by
 rw[ints,List.getElem?_map]at h
 cases hl:l[k]? with
 | none=>rw[hl]at h;simp at h
 | some a=>rw[hl]at h;simp at h;exact⟨a,rfl,h.symm⟩
theorem Zt {q:Nat}(hq:Bl q){xs p:List Nat}(hu:Fc q (ints xs))(hp:p.length<=xs.length)(x:Nat):Kb q x [] xs (xs.map fun a=>Be q a p) 0=Be q x p:=by
 have h2:=hq.two;have h1:=Zv (x:=x) h2 xs (xs.map fun a=>Be q a p) [] 0 0 (Is.zero (by omega));rw[Int.zero_add]at h1
 refine h1.uniq (Hp h2 p) (kR hq hu (Zw hq _) (by simp[ints]) (by simpa [ints]using hp) (fun k z y hz hy=>?_) x);obtain⟨a,ha,rfl⟩:=Zx hz;obtain⟨b,hb,rfl⟩:=Zx hy;rw[List.getElem?_map,ha]at hb
 simp only[Option.map_some,Option.some.injEq]at hb;rw[<-hb];exact(Hp h2 p).dvd
theorem Xf {q x:Nat}(hq:2<=q):∀(p:List Nat) (n:Nat),Be q x (p++List.replicate n 0)=Be q x p
 | [],0=>rfl
 | [],n+1=>by
  have:=Xf (q:=q) (x:=x) hq [] n;rw[List.nil_append]at *
  rw[List.replicate_succ];show (0+Be q x (List.replicate n 0)*x%q)%q=0;rw[this];show (0+0*x%q)%q=0;simp
 | c::p,n=>by
  show (c+Be q x (p++List.replicate n 0)*x%q)%q=_;rw[Xf hq p n];rfl
end Go.Proofs.YtokhckjemidbpaaGreatDoor
