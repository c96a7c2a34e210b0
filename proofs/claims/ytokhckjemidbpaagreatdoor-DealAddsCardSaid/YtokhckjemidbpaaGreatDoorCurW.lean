/- All places' weights, as a list; sums of what is weighed: over numbers. Of no program (stage 10). -/
import Derived.Test.YtokhckjemidbpaaGreatDoorWeqM
import Derived.Test.YtokhckjemidbpaaGreatDoorGrpN
import Derived.Test.YtokhckjemidbpaaGreatDoorMacE
import Derived.BigRegion
import Derived.Laws.Rows
import Derived.Laws.OwnMore
import Derived.Lib.AppendZeros
import Derived.ArgAppend
set_option maxRecDepth 1000000
set_option maxHeartbeats 16000000
set_option linter.all false
namespace Go.Proofs.YtokhckjemidbpaaGreatDoor
theorem pC {q:Nat}(hq:2<=q)(x a:Nat):Is q (Cq x a q) ((x:Int)-a):=by
 have h0:0<q:=by omega
 have:=(Is.of h0 x).sub hq (Is.of h0 a);have e:Cq (x%q) (a%q) q=Cq x a q:=by unfold Cq;rw[Nat.mod_mod,Nat.mod_mod]
 rwa [e]at this
def Cm (q x:Nat)(o:Nat):List Nat->Nat
 | []=>o
 | a::l=>Cm q x (o*Cq x a q%q) l
theorem Na (q x:Nat):∀(l:List Nat) (o a:Nat),Cm q x o (l++[a])=Cm q x o l*Cq x a q%q
 | [],_,_=>rfl
 | _::l,_,a=>Na q x l _ a
theorem Lf {q x:Nat}(hq:2<=q):∀(l:List Nat) (o:Nat),o<q->Cm q x o l<q
 | [],_,h=>h
 | _::l,_,_=>Lf hq l _ (Nat.mod_lt _ (by omega))
def En:List Int->Int
 | []=>1
 | a::l=>a*En l
theorem Oa {q x:Nat}(hq:2<=q):∀(l:List Nat) (o:Nat) (z:Int),Is q o z->Is q (Cm q x o l) (z*En (l.map fun a:Nat=>(x:Int)-a))
 | [],o,z,h=>by
  show Is q o (z*1);rw[Int.mul_one];exact h
 | a::l,o,z,h=>by
  have h3:=Oa (x:=x) hq l _ _ (h.mul (pC hq x a));show Is q (Cm q x (o*Cq x a q%q) l) (z*(((x:Int)-a)*En (l.map fun a:Nat=>(x:Int)-a)));rw[<-Int.mul_assoc];exact h3
theorem Ud (iv:Nat->Int)(x:Int):∀l:List Nat,Gz (l.map fun a:Nat=>((a:Int),iv a)) x=En (l.map fun a:Nat=>x-a)*En (l.map iv)
 | []=>rfl
 | a::l=>by
  show (x-(a:Int))*iv a*Gz (l.map fun a:Nat=>((a:Int),iv a)) x=(x-(a:Int))*En (l.map fun a:Nat=>x-a)*(iv a*En (l.map iv));rw[Ud iv x l];generalize En (l.map fun a:Nat=>x-a)=A;generalize En (l.map iv)=B;rw[Int.mul_assoc,Int.mul_assoc,<-Int.mul_assoc (iv a) A,Int.mul_comm (iv a) A,Int.mul_assoc]
theorem Ro {q:Int}(iv:Nat->Int)(x:Int):∀l:List Nat,(∀a∈l,q ∣ (x-a)*iv a-1)->q ∣ En (l.map fun a:Nat=>x-a)*En (l.map iv)-1
 | [],_=>by show q ∣ 1*1-1;simp
 | a::l,h=>by
  have h1:=h a List.mem_cons_self;have h2:=Ro iv x l fun b hb=>h b (List.mem_cons_of_mem _ hb)
  show q ∣ (x-(a:Int))*En (l.map fun a:Nat=>x-a)*(iv a*En (l.map iv))-1;generalize En (l.map fun a:Nat=>x-a)=A at *;generalize En (l.map iv)=B at *;generalize x-(a:Int)=D at *;generalize iv a=v at *;have t:D*A*(v*B)=D*v*(A*B):=by rw[Int.mul_assoc,Int.mul_assoc,<-Int.mul_assoc A,Int.mul_comm A v,Int.mul_assoc v]
  have s:(D*v-1)*(A*B)=D*v*(A*B)-A*B:=by rw[Int.sub_mul,Int.one_mul]
  have e:D*A*(v*B)-1=(D*v-1)*(A*B)+(A*B-1):=by omega
  rw[e];exact Int.dvd_add (Pf h1 _) h2
theorem Kj {q:Nat}(hq:Bl q)(x:Int):∀l:List Nat,(∀a∈l,¬(q:Int) ∣ x-a)->¬(q:Int) ∣ En (l.map fun a:Nat=>x-a)
 | [],_,h=>by
  have h2:=hq.two;have h1:(q:Int) ∣ 1:=h;have:=Int.le_of_dvd (by omega) h1;omega
 | a::l,h,k=>by
  rcases hq.dvd_imul (a:=x-a) (b:=En (l.map fun a:Nat=>x-a)) k with h1|h1
  .exact h a List.mem_cons_self h1
  .exact Kj hq x l (fun b hb=>h b (List.mem_cons_of_mem _ hb)) h1
noncomputable def qA (q x xi:Nat) (l:List Nat):Nat:=Cm q x 1 l*Qx q (Cm q xi 1 l)%q
theorem jE {q x xi:Nat}{l:List Nat}(hq:Bl q)(hu:∀a∈l,¬(q:Int) ∣ (xi:Int)-a):qA q x xi l=Jp q x xi 1 l:=by
 have h2:=hq.two;have hA:=Oa (x:=x) h2 l 1 1 (Is.one h2);have hB:=Oa (x:=xi) h2 l 1 1 (Is.one h2);have hW:=Xl (x:=x) (xi:=xi) h2 l 1 1 (Is.one h2);rw[Int.one_mul]at hA hB hW
 have hN:=Kj hq (xi:Int) l hu;have hI:=Is.inv (N:=Cm q xi 1 l) hq (by rw[Nat.mod_eq_of_lt hB.lt];exact hB) (Xc h2 _) hN;have hI2:Is q (Qx q (Cm q xi 1 l)) (Qx q (Cm q xi 1 l):Nat):=⟨hI.2,by simp⟩
 refine(hA.mul hI2).uniq hW ?_;rw[Ud (fun a=>Mu q ((xi:Int)-a))];have hU:=Ro (q:=q) (fun a=>Mu q ((xi:Int)-a)) xi l fun a ha=>Zw hq ((xi:Int)::ints l) _ _ List.mem_cons_self (List.mem_cons_of_mem _ (by
  rw[ints];exact List.mem_map.2 ⟨a,ha,rfl⟩)) (hu a ha)
 have hI1:=hI.1;generalize En (l.map fun a:Nat=>(xi:Int)-a)=B at *;generalize En (l.map fun a:Nat=>Mu q ((xi:Int)-a))=V at *;generalize En (l.map fun a:Nat=>(x:Int)-a)=A at *;generalize ((Qx q (Cm q xi 1 l):Nat):Int)=I at *;have h3:(q:Int) ∣ B*(I-V):=by
  have:=Int.dvd_sub hI1 hU;rw[Int.mul_sub]
  rwa [show B*I-1-(B*V-1)=B*I-B*V by omega]at this
 rcases hq.dvd_imul h3 with h|h
 .exact absurd h hN
 .rw[<-Int.mul_sub];exact Xe h _
def others (xs:List Nat)(i k:Nat):List Nat:=(xs.take k).take i++(xs.take k).drop (i+1)
theorem Qb (xs:List Nat)(i:Nat):others xs i 0=[]:=by simp[others]
theorem Zi (xs:List Nat)(i:Nat):others xs i (i+1)=others xs i i:=by
 unfold others;have h1:(xs.take (i+1)).drop (i+1)=[]:=List.drop_eq_nil_of_le (by simp;omega);have h2:(xs.take i).drop (i+1)=[]:=List.drop_eq_nil_of_le (by simp;omega);rw[h1,h2,List.take_take,List.take_take];simp
theorem Zh {xs:List Nat}{i k a:Nat}(hk:xs[k]? = some a)(hne:k≠i):others xs i (k+1)=others xs i k++[a]:=by
 unfold others;have hkl:=(List.getElem?_eq_some_iff.1 hk).1;have hl:(xs.take k).length=k:=by rw[List.length_take];omega
 have e:xs.take (k+1)=xs.take k++[a]:=Cz hk;rw[e];rcases Nat.lt_or_ge k i with h|h
 .have e1:(xs.take k++[a]).take i=xs.take k++[a]:=List.take_of_length_le (by rw[List.length_append,hl,List.length_singleton];omega);have e2:(xs.take k++[a]).drop (i+1)=[]:=List.drop_eq_nil_of_le (by rw[List.length_append,hl,List.length_singleton];omega);have e3:(xs.take k).take i=xs.take k:=List.take_of_length_le (by omega);have e4:(xs.take k).drop (i+1)=[]:=List.drop_eq_nil_of_le (by omega);rw[e1,e2,e3,e4,List.append_nil,List.append_nil]
 .have e1:(xs.take k++[a]).take i=(xs.take k).take i:=List.take_append_of_le_length (by omega);have e2:(xs.take k++[a]).drop (i+1)=(xs.take k).drop (i+1)++[a]:=List.drop_append_of_le_length (by omega);rw[e1,e2,List.append_assoc]
theorem cO (xs:List Nat)(i:Nat):others xs i xs.length=xs.take i++xs.drop (i+1):=by
 unfold others;rw[List.take_length]
theorem Ha {q:Nat}(xs:List Nat):Fc q (ints xs) ↔ (xs.map fun x=>x%q).Nodup:=by
 unfold Fc ints List.Nodup;rw[List.pairwise_map,List.pairwise_map];constructor
 .intro h;exact h.imp fun {a b} hab e=>hab (Mx e)
 .intro h;exact h.imp fun {a b} hab e=>hab (Jk e)
theorem Tn {q:Nat}{xs:List Nat}(h:Fc q (ints xs)){i z:Nat}(hi:xs[i]? = some z):∀a∈xs.take i++xs.drop (i+1),¬(q:Int) ∣ (z:Int)-a:=by
 have e:xs=xs.take i++z::xs.drop (i+1):=by
  obtain⟨h1,h2⟩:=List.getElem?_eq_some_iff.1 hi;rw[<-h2,List.getElem_cons_drop,List.take_append_drop]
 rw[e]at h
 unfold Fc ints at h;rw[List.map_append,List.map_cons,List.pairwise_append,List.pairwise_cons]at h
 obtain⟨_,⟨h2,_⟩,h3⟩:=h;intro a ha;rcases List.mem_append.1 ha with k|k
 .exact Fc.neg (h3 _ (List.mem_map.2 ⟨a,k,rfl⟩) _ List.mem_cons_self)
 .exact h2 _ (List.mem_map.2 ⟨a,k,rfl⟩)
theorem oM {l:List Nat}{i a:Nat}(h:l[i]? = some a)(k:l[i+1]? = some a):¬l.Nodup:=by
 intro hn;obtain⟨h1,h2⟩:=List.getElem?_eq_some_iff.1 h;obtain⟨k1,k2⟩:=List.getElem?_eq_some_iff.1 k;have:=List.pairwise_iff_getElem.1 hn i (i+1) h1 k1 (by omega);exact this (h2.trans k2.symm)
theorem kG:∀ {l:List Nat},l.Pairwise (fun a b=>a<=b)->(∀i a b,l[i]? = some a->l[i+1]? = some b->a≠b)->l.Nodup
 | [],_,_=>List.Pairwise.nil
 | [a],_,_=>List.pairwise_singleton _ _
 | a::b::l,h,k=>by
  obtain⟨h1,h2⟩:=List.pairwise_cons.1 h;refine List.pairwise_cons.2 ⟨fun c hc e=>?_,kG h2 fun i x y hx hy=>k (i+1) x y hx hy⟩;subst e;have hab:=h1 b List.mem_cons_self;have hne:=k 0 a b rfl rfl;rcases List.mem_cons.1 hc with e|hc
  .exact hne e
  .have:=(List.pairwise_cons.1 h2).1 a hc;omega
theorem Un:∀ {l:List Nat} {j a b:Nat},l[j+1]? = some a->l[j]? = some b->((l.set (j+1) b).set j a).Perm l
 | [],_,_,_,h,_=>by simp at h
 | [_],_,_,_,h,_=>by simp at h
 | x::y::l,0,a,b,h,k=>by
  simp at h k;subst h k;exact List.Perm.swap _ _ _
 | x::y::l,j+1,a,b,h,k=>List.Perm.cons x (Un (l:=y::l) (j:=j) h k)
structure Ins (i j:Nat) (l:List Nat):Prop where
 le:j<=i
 rest:∀p r a b,p<r->r<=i->p≠j->r≠j->l[p]? = some a->l[r]? = some b->a<=b
 low:∀r a b,j<r->r<=i->l[j]? = some a->l[r]? = some b->a<=b
def jD (i:Nat)(l:List Nat):Prop:=∀p r a b,p<r->r<i->l[p]? = some a->l[r]? = some b->a<=b
theorem jD.ins {i:Nat}{l:List Nat}(h:jD i l):Ins i i l:=⟨Aw _,fun p r a b h1 h2 _ h4 k1 k2=>h p r a b h1 (by omega) k1 k2,fun r _ _ h1 h2=>by omega⟩
theorem Ins.done {i j:Nat}{l:List Nat}(h:Ins i j l)(hj:j=0 ∨ ∀a b,l[j-1]? = some b->l[j]? = some a->b<=a)(hl:i<l.length):jD (i+1) l:=by
 intro p r a b h1 h2 k1 k2
 by_cases e1:p=j
 .subst e1;exact h.low r a b h1 (by omega) k1 k2
 by_cases e2:r=j
 .subst e2;rcases hj with h0|hj
  .omega
  have hm:r-1<l.length:=by omega
  have km:l[r-1]? = some (l[r-1]'hm):=List.getElem?_eq_getElem _;have h5:=hj b _ km k2;rcases Nat.lt_or_ge p (r-1) with h6|h6
  .exact Er (h.rest p (r-1) a _ h6 (by omega) e1 (by omega) k1 km) h5
  .obtain rfl:p=r-1:=by omega
   rw[k1]at km;cases km
   exact h5
 .exact h.rest p r a b h1 (by omega) e1 e2 k1 k2
theorem Ins.swap {i j x y:Nat}{l:List Nat}(h:Ins i (j+1) l)(hx:l[j+1]? = some x)(hy:l[j]? = some y)(hlt:x<y):Ins i j ((l.set (j+1) y).set j x):=by
 have hle:=h.le;obtain⟨l1,_⟩:=List.getElem?_eq_some_iff.1 hx;obtain⟨l2,_⟩:=List.getElem?_eq_some_iff.1 hy;have gj:((l.set (j+1) y).set j x)[j]? = some x:=by rw[List.getElem?_set_self (by simpa using l2)]
 have gj1:((l.set (j+1) y).set j x)[j+1]? = some y:=by rw[List.getElem?_set_ne (by omega),List.getElem?_set_self l1]
 have go:∀p,p≠j->p≠j+1->((l.set (j+1) y).set j x)[p]? = l[p]? := fun p h1 h2=>by rw[List.getElem?_set_ne (by omega),List.getElem?_set_ne (by omega)]
 refine⟨by omega,fun p r a b h1 h2 h3 h4 k1 k2=>?_,fun r a b h1 h2 k1 k2=>?_⟩
 .by_cases e1:p=j+1
  .subst e1;rw[gj1]at k1;cases k1
   rw[go r h4 (by omega)]at k2
   exact h.rest j r y b (by omega) h2 (by omega) (by omega) hy k2
  .rw[go p h3 e1]at k1
   by_cases e2:r=j+1
   .subst e2;rw[gj1]at k2;cases k2
    exact h.rest p j a y (by omega) (by omega) e1 (by omega) k1 hy
   .rw[go r h4 e2]at k2
    exact h.rest p r a b h1 h2 e1 e2 k1 k2
 .rw[gj]at k1;cases k1
  by_cases e2:r=j+1
  .subst e2;rw[gj1]at k2;cases k2
   omega
  .rw[go r (by omega) e2]at k2
   exact h.low r x b (by omega) h2 hx k2
theorem jD.pairwise {l:List Nat}(h:jD l.length l):l.Pairwise fun a b=>a<=b:=by
 rw[List.pairwise_iff_getElem];intro i j hi hj hij;exact h i j _ _ hij hj (List.getElem?_eq_getElem _) (List.getElem?_eq_getElem _)
open Go Go.RowKit Go.Proofs.YtokhckjemidbpaaGreatDoor.Flow
theorem Tu (w:World)(pk:Option Addr)(nk ck:Nat)(salt:List Nat)(ps:Option Addr)(ns cs:Nat)(secret:List Nat)(hT:Tabs w)(hK:Ct w ⟨pk,nk,ck,salt⟩)(hS:Ct w ⟨ps,ns,cs,secret⟩) :
  Calls Tryz.prog 241 #[.slice pk nk ck,.slice ps ns cs] w (Ll (bU salt secret) w):=by
 have hb:Below w.heap.size w (w.alloc (.cells #[.slice ps ns cs] 23)):=Bt;have hz:=hb.size;have HC:=Ab (Wy (w.alloc (.cells #[.slice ps ns cs] 23)) pk nk ck salt _ _ _ [⟨ps,ns,cs,secret⟩] (hT.below hb hT.size) (hK.below hb).row hK.bytes (jY w ⟨ps,ns,cs,secret⟩ hS));have HB:=Ab hb;clear hT hK hS hb;go_enter Tryz.func241,Tryz.ntmps241
 go_wp2_with fail
 refine HC.out.mono ?_;rintro e w1 ⟨q,rfl,hq,hb1,hk⟩;rw[Uh]at hk
 go_wp2;go_ret;exact⟨q,rfl,by omega,Eg HB.out hb1,hk⟩
theorem Xn (w:World)(pk:Option Addr)(nk ck:Nat)(salt:List Nat)(ps:Option Addr)(ns cs:Nat)(secret:List Nat)(pi:Option Addr)(ni ci:Nat)(info:List Nat)(n:Nat)(hT:Tabs w)(hK:Ct w ⟨pk,nk,ck,salt⟩)(hS:Ct w ⟨ps,ns,cs,secret⟩)(hI:Ct w ⟨pi,ni,ci,info⟩)(hn:n<=8160) :
  Calls Tryz.prog 219 #[.slice pk nk ck,.slice ps ns cs,.slice pi ni ci,.int .i64 n] w (bK n ((Hk (Kr salt secret) info ((n+31)/32)).take n) w):=by
 have HC:=Ab (Tu w pk nk ck salt ps ns cs secret hT hK hS);have HI:Aa (Ct w ⟨pi,ni,ci,info⟩):=⟨hI⟩
 have HT:Aa (Tabs w):=⟨hT⟩
 clear hT hK hS hI;go_enter Tryz.func219,Tryz.ntmps219
 go_wp2_with fail
 refine HC.out.mono ?_;rintro e w1 ⟨q,rfl,hq,hb1,hk⟩;have hr:Bq w1 .u8 (some ⟨q,0,none⟩) 32 32 (Kr salt secret):=⟨(Kq _ _).symm,Aw _,by omega,fun _=>hk.row (Kq _ _).symm (Aw _) (by omega)⟩
 go_wp2_with fail
 refine(Xg w1 _ _ _ (Kr salt secret) pi ni ci info n (HT.out.below hb1 HT.out.size) hr (Sl _ _) (HI.out.below hb1) hn).mono ?_;rintro e w2 ⟨p,rfl,hr2,hn2,hb2,hz2⟩;have hz:=hb1.size;have HE:=Ab hr2;have HN:Aa (Gw w.heap.size p/\(p=none->n=0)):=⟨hn2.mono hz,hz2⟩
 clear hr2 hn2 hz2 hr hk;go_wp2;exact bodyPost_ret (v:=.tuple #[.slice p n n,.int .i64 0]) (by simp[results,Tryz.results219,go_sem]) rfl ⟨p,rfl,HE.out,HN.out.1,Eg hb1 hb2,HN.out.2⟩
def Kl (P:Nat):Nat->List (Nat×Nat)->Nat
 | x,[]=>x
 | x,(b,e)::l=>Kl P (x*(b^e%P)%P) l
theorem Si {P:Nat}(hP:2<=P):∀(l:List (Nat×Nat)) (x:Nat),x<P->Kl P x l<P
 | [],_,h=>h
 | (_,_)::l,_,_=>Si hP l _ (Nat.mod_lt _ (by omega))
theorem Lp {P Q g:Nat}(h:g^Q%P=1%P)(a:Nat):g^a%P=g^(a%Q)%P:=by
 have h1:a=Q*(a/Q)+a%Q:=(Nat.div_add_mod a Q).symm;have h2:g^(Q*(a/Q))%P=1%P:=by
  rw[Nat.pow_mul,Nat.pow_mod,h,<-Nat.pow_mod,Nat.one_pow]
 rw[show g^a=g^(Q*(a/Q))*g^(a%Q) by rw[<-Nat.pow_add,<-h1],Nat.mul_mod,h2,<-Nat.mul_mod,Nat.one_mul]
theorem Uv {P Q g a b:Nat}(h:g^Q%P=1%P)(hab:a%Q=b%Q):g^a%P=g^b%P:=by
 rw[Lp h a,Lp h b,hab]
def Md (P x:Nat):List Nat->Nat
 | []=>1
 | c::l=>Md P x l^x%P*c%P
def Tt (x:Nat):List Nat->Nat
 | []=>0
 | c::l=>c+x*Tt x l
theorem Rq {N:Nat}{l:List Bo}(h:Told N l):Bl N:=by
 rcases h with h|⟨h,s,hs,rfl⟩
 .exact h.prime
 .exact Lh l [] (fun x hx=>by cases hx) h s hs
def Fp (seed:List Nat)(P c:Nat):Nat:=be ((Hk (Kr [] seed) [104,c] ((Dl P+8+31)/32)).take (Dl P+8))
def Fa (f:Nat->Nat):Nat->Nat->Option Nat
 | 0,_=>none
 | k+1,c=>if 1<f c then some (f c) else Fa f k (c+1)
def Td (P Q G:Nat):Prop:=(P-1)%Q=0/\64<Q/\1<G/\G<P/\G^Q%P=1
open Classical in
noncomputable def newSpec (P Q G:Nat) (seed:List Nat) (l:List Bo):Nat×Nat :=
 if Told P l/\Told Q l then
  if Td P Q G then
   match Fa (fun c=>Fp seed P c^((P-1)/Q)%P) 256 0 with
   | some h=>(0,h)
   | none=>(6,0)
  else (1,0)
 else (8,0)
theorem dO {q:Nat}(hq:0<q)(x:Int):∀l:List Nat,(q:Int) ∣ ev (ints (l.map fun c=>c%q)) x-ev (ints l) x
 | []=>by simp[ints,ev]
 | a::l=>by
  have ih:=dO hq x l;have h1:=(Is.of hq a).dvd;show (q:Int) ∣ ((a%q:Nat):Int)+x*ev (ints (l.map fun c=>c%q)) x-((a:Int)+x*ev (ints l) x);have h2:=Int.dvd_add h1 (Xe ih x);rw[Int.mul_sub]at h2
  rwa [show ((a%q:Nat):Int)-a+(x*ev (ints (l.map fun c=>c%q)) x-x*ev (ints l) x)=((a%q:Nat):Int)+x*ev (ints (l.map fun c=>c%q)) x-((a:Int)+x*ev (ints l) x) by omega]at h2
def addN:List Nat->List Nat->List Nat
 | [],r=>r
 | a::p,[]=>a::p
 | a::p,b::r=>(a+b)::addN p r
theorem Qr:∀p r,(addN p r).length=max p.length r.length
 | [],r=>by simp[addN]
 | a::p,[]=>by simp[addN]
 | a::p,b::r=>by simp only[addN,List.length_cons,Qr p r];omega
theorem bD:∀(p r:List Nat) (i:Nat),i<max p.length r.length->(addN p r)[i]? = some (p.getD i 0+r.getD i 0)
 | [],r,i,h=>by
  simp at h;simp[addN,h]
 | a::p,[],i,h=>by
  simp only[List.length_nil,Nat.max_zero]at h;show (a::p)[i]? = _;rw[List.getElem?_eq_getElem h,Dn,List.getElem?_eq_getElem h];simp
 | a::p,b::r,0,_=>by simp[addN]
 | a::p,b::r,i+1,h=>by
  show (addN p r)[i]? = some (p.getD i 0+r.getD i 0);exact bD p r i (by simp only[List.length_cons]at h;omega)
theorem Vg:∀p r,ints (addN p r)=Mf (ints p) (ints r)
 | [],r=>by simp[addN,ints,Mf]
 | a::p,[]=>by simp[addN,ints,Mf]
 | a::p,b::r=>by
  show ((a+b:Nat):Int)::ints (addN p r)=((a:Int)+b)::Mf (ints p) (ints r);rw[Vg p r,Int.natCast_add]
def Dc (q:Nat)(p r:List Nat):List Nat:=(addN p r).map fun c=>c%q
theorem Do (q:Nat)(p r:List Nat):(Dc q p r).length=max p.length r.length:=by rw[Dc,List.length_map,Qr]
theorem mH (q:Nat)(p r:List Nat)(i:Nat)(h:i<max p.length r.length):(Dc q p r)[i]? = some ((p.getD i 0+r.getD i 0)%q):=by
 rw[Dc,List.getElem?_map,bD p r i h];rfl
theorem oO {q:Nat}(hq:0<q)(x:Int)(p r:List Nat):(q:Int) ∣ ev (ints (Dc q p r)) x-(ev (ints p) x+ev (ints r) x):=by
 have:=dO hq x (addN p r)
 rwa [Vg,Ss]at this
theorem bQ {q X XI I:Nat}{L:List Nat}(hq:Bl q)(hu:∀a∈L,¬(q:Int) ∣ (XI:Int)-a)(hI:Jc q (Cm q XI 1 L) I):Nat.gcd q (Cm q XI 1 L)=1/\Cm q X 1 L*I%q=Jp q X XI 1 L:=by
 have h2:=hq.two;refine⟨hq.coprime fun hd=>?_,?_⟩
 .have hB:=Oa (x:=XI) h2 L 1 1 (Is.one h2);rw[Int.one_mul]at hB
  refine Kj hq (XI:Int) L hu ?_;have h3:(q:Int) ∣ ((Cm q XI 1 L:Nat):Int):=Int.natCast_dvd_natCast.2 hd;have h4:=Int.dvd_sub h3 hB.dvd
  rwa [show ((Cm q XI 1 L:Nat):Int)-(((Cm q XI 1 L:Nat):Int)-En (L.map fun a:Nat=>(XI:Int)-a))=En (L.map fun a:Nat=>(XI:Int)-a) by omega]at h4
 .rw[oB h2 hI];exact jE hq hu
theorem Ur (a b q:Nat):Cq (a%q) (b%q) q=Cq a b q:=by unfold Cq;rw[Nat.mod_mod,Nat.mod_mod]
theorem aM (q x z:Nat):∀(l:List Nat) (o:Nat),Jp q (x%q) (z%q) o (l.map fun a=>a%q)=Jp q x z o l
 | [],_=>rfl
 | a::l,o=>by
  show Jp q (x%q) (z%q) (o*(Cq (x%q) (a%q) q*Qx q (Cq (z%q) (a%q) q)%q)%q) (l.map fun a=>a%q)=Jp q x z (o*(Cq x a q*Qx q (Cq z a q)%q)%q) l;rw[Ur,Ur];exact aM q x z l _
noncomputable def Qu (q x:Nat):List Nat->List Nat->List Nat
 | _,[]=>[]
 | pre,z::post=>Jp q x z 1 (pre++post)::Qu q x (pre++[z]) post
theorem Pu (q x:Nat):∀post pre,(Qu q x pre post).length=post.length
 | [],_=>rfl
 | z::post,pre=>by simp only[Qu,List.length_cons,Pu q x post]
theorem Yh (q x:Nat):∀(post pre:List Nat) (i z:Nat),post[i]? = some z->(Qu q x pre post)[i]? = some (Jp q x z 1 (pre++(post.take i++post.drop (i+1))))
 | [],_,i,z,h=>by simp at h
 | y::post,pre,0,z,h=>by
  simp at h;subst h;simp[Qu]
 | y::post,pre,i+1,z,h=>by
  have h1:=Yh q x post (pre++[y]) i z (by simpa using h);show (Qu q x (pre++[y]) post)[i]? = _;rw[h1];simp
def Mm (hp ht:Nat->Nat->Nat):Nat->List (Nat×Nat)->Nat
 | o,[]=>o
 | o,(a,v)::l=>Mm hp ht (hp o (ht a v)) l
theorem Ue (hp ht:Nat->Nat->Nat):∀(l:List (Nat×Nat)) (o a v:Nat),Mm hp ht o (l++[(a,v)])=hp (Mm hp ht o l) (ht a v)
 | [],_,_,_=>rfl
 | (_,_)::l,_,a,v=>Ue hp ht l _ a v
theorem Uf (q x:Nat):∀(post ys pre:List Nat) (o:Nat),Mm (fun a b=>(a+b)%q) (fun a b=>a*b%q) o (ys.zip (Qu q x pre post))=Kb q x pre post ys o
 | [],ys,pre,o=>by simp[Qu,Mm,Kb]
 | z::post,[],pre,o=>by simp[Mm,Kb]
 | z::post,y::ys,pre,o=>by
  show Mm (fun a b=>(a+b)%q) (fun a b=>a*b%q) ((o+y*Jp q x z 1 (pre++post)%q)%q) (ys.zip (Qu q x (pre++[z]) post))=Kb q x (pre++[z]) post ys ((o+Jp q x z 1 (pre++post)*y%q)%q);rw[Uf q x post ys (pre++[z]),Nat.mul_comm y]
def Ih (hp ht:Nat->Nat->Nat)(x nothing:Nat):List Nat->Nat
 | []=>nothing
 | c::l=>hp (ht (Ih hp ht x nothing l) x) c
theorem Yk (q x:Nat):∀l,Ih (fun a b=>(a+b)%q) (fun a b=>a*b%q) x 0 l=Be q x l
 | []=>rfl
 | c::l=>by
  show (Ih (fun a b=>(a+b)%q) (fun a b=>a*b%q) x 0 l*x%q+c)%q=(c+Be q x l*x%q)%q;rw[Yk q x l,Nat.add_comm]
theorem Uj (P x:Nat):∀l,Ih (fun a b=>a*b%P) (fun a b=>a^b%P) x 1 l=Md P x l
 | []=>rfl
 | c::l=>by
  show Ih (fun a b=>a*b%P) (fun a b=>a^b%P) x 1 l^x%P*c%P=Md P x l^x%P*c%P;rw[Uj P x l]
theorem Sk (q x:Nat):∀l,Be q (x%q) l=Be q x l
 | []=>rfl
 | c::l=>by
  show (c+Be q (x%q) l*(x%q)%q)%q=(c+Be q x l*x%q)%q;rw[Sk q x l,Nat.mul_mod_mod]
end Go.Proofs.YtokhckjemidbpaaGreatDoor
