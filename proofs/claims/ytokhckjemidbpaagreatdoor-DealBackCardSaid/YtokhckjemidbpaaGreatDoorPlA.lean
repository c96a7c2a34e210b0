/- Pledges: of one, and of a polynomial (pledge.Of, All, Bare). -/
import Derived.Test.YtokhckjemidbpaaGreatDoorGqG
import Derived.Lib.SmallJoins
set_option maxRecDepth 1000000
set_option maxHeartbeats 16000000
set_option linter.all false
namespace Go.Proofs.YtokhckjemidbpaaGreatDoor
theorem Zt (q x:Nat):∀l,Tk x l%q=Bp q x l%q
 | []=>rfl
 | c::l=>by
  show (c+x*Tk x l)%q=(c+Bp q x l*x%q)%q%q;rw[Nat.mod_mod,Nat.add_mod_mod,Nat.mul_comm x,<-Nat.add_mod_mod,Nat.mul_mod,Zt q x l,<-Nat.mul_mod,Nat.add_mod_mod]
theorem nZ {P x:Nat}(hP:2<=P):∀l,Lo P x l<P
 | []=>by show 1<P;omega
 | c::l=>Nat.mod_lt _ (by omega)
open Go Go.RowKit Go.Proofs.YtokhckjemidbpaaGreatDoor.Flow
theorem gR {w:World}{b P Q G H e ex n c X N:Nat}{p:Option Addr}{As:List Nat}{v:Value}(hG:Au w b P Q G H)(hA:Aq w e p n c As)(hX:Fit ex X v w)(he:e<=200)(hex:ex<=200)(hn:n<=1000000)(hN:Lo P (X%Q) As=N) :
  Calls Tryz.prog 233 #[.pointer (some ⟨b,0,none⟩),.slice p n c,v] w fun en w'=>∃x,en=.returned x/\Fit 33 N x w'/\Below w.heap.size w w':=by
 subst hN;exact aE hG hA hX he hex hn
theorem Ve {w:World}{r q e ex n c X N:Nat}{p:Option Addr}{As:List Nat}{v:Value}(hR:Ring w r q 33)(hA:Aq w e p n c As)(hX:Fit ex X v w)(he:e<=200)(hex:ex<=200)(hn:n<=1000000)(hN:Bp q X As=N) :
  Calls Tryz.prog 102 #[.pointer (some ⟨r,0,none⟩),.slice p n c,v] w fun en w'=>∃x,en=.returned x/\Fit 33 N x w'/\Below w.heap.size w w':=by
 subst hN;exact lA hR hA hX he hex hn
def Fz (P Q G H s r:Nat):Nat:=G^(s%Q)%P*(H^(r%Q)%P)%P
theorem cF (P Q G H s r:Nat):Ka P 1 ([G,H].zip [s%Q,r%Q])=Fz P Q G H s r:=by
 show 1*(G^(s%Q)%P)%P*(H^(r%Q)%P)%P=G^(s%Q)%P*(H^(r%Q)%P)%P;rw[Nat.one_mul,Nat.mod_mod]
theorem eJ {P Q G H s r:Nat}(hP:0<P):Fz P Q G H s r<P:=Nat.mod_lt _ hP
theorem Yx {P Q G H:Nat}(hG:G^Q%P=1%P)(hH:H^Q%P=1%P)(s r:Nat):Fz P Q G H s r=G^s%P*(H^r%P)%P:=by
 unfold Fz;rw[<-Lc hG,<-Lc hH]
theorem Um {P Q G H:Nat}(hG:G^Q%P=1%P)(hH:H^Q%P=1%P)(s r:Nat):Fz P Q G H s r=G^s*H^r%P:=by rw[Yx hG hH,<-Nat.mul_mod]
def Ql (n:Nat)(l:List Nat):List Nat:=l++List.replicate (n-l.length) 0
theorem Hl {n:Nat}{l:List Nat}(h:l.length<=n):(Ql n l).length=n:=by simp[Ql];omega
theorem Zc {n i:Nat}{l:List Nat}(h:i<n):(Ql n l)[i]? = some (l.getD i 0):=by
 unfold Ql
 by_cases hi:i<l.length
 .rw[List.getElem?_append_left hi,Dy,List.getElem?_eq_getElem hi];rfl
 .rw[List.getElem?_append_right (by omega),List.getElem?_replicate,if_pos (by omega),Dy,List.getElem?_eq_none (by omega)];rfl
def Cw (P Q G H:Nat)(xs bs:List Nat):List Nat:=((Ql (max xs.length bs.length) xs).zip (Ql (max xs.length bs.length) bs)).map fun p=>Fz P Q G H p.1 p.2
theorem Wi (P Q G H:Nat)(xs bs:List Nat):(Cw P Q G H xs bs).length=max xs.length bs.length:=by
 unfold Cw;rw[List.length_map,List.length_zip,Hl (by omega),Hl (by omega),Nat.min_self]
theorem fL (P Q G H:Nat)(xs bs:List Nat)(i:Nat)(h:i<max xs.length bs.length):(Cw P Q G H xs bs)[i]? = some (Fz P Q G H (xs.getD i 0) (bs.getD i 0)):=by
 unfold Cw;rw[List.getElem?_map,List.getElem?_zip_eq_some.2 (show _=some ((xs.getD i 0,bs.getD i 0):Nat×Nat).1/\_=some ((xs.getD i 0,bs.getD i 0):Nat×Nat).2 from ⟨Zc h,Zc h⟩)];rfl
theorem jQ {P Q G H x:Nat}(hG:G^Q%P=1%P)(hH:H^Q%P=1%P):∀l:List (Nat×Nat),
  Lo P x (l.map fun p=>Fz P Q G H p.1 p.2)%P=G^Tk x (l.map (·.1))%P*(H^Tk x (l.map (·.2))%P)%P
 | []=>by
  show 1%P=1%P*(1%P)%P;rw[<-Nat.mul_mod]
 | (a,b)::l=>by
  have ih:=jQ hG hH (x:=x) l;obtain⟨E,hE⟩:∃E,Lo P x (l.map fun p=>Fz P Q G H p.1 p.2)=E:=⟨_,rfl⟩
  obtain⟨h1,e1⟩:∃E,Tk x (l.map (·.1))=E:=⟨_,rfl⟩
  obtain⟨h2,e2⟩:∃E,Tk x (l.map (·.2))=E:=⟨_,rfl⟩
  rw[hE,e1,e2]at ih
  show Lo P x (l.map fun p=>Fz P Q G H p.1 p.2)^x%P*Fz P Q G H a b%P%P=G^(a+x*Tk x (l.map (·.1)))%P*(H^(b+x*Tk x (l.map (·.2)))%P)%P;rw[hE,e1,e2];have e:E^x%P=(G^h1*H^h2)^x%P:=by rw[Nat.pow_mod,ih,<-Nat.mul_mod,<-Nat.pow_mod]
  rw[Nat.mod_mod,e,Um hG hH,<-Nat.mul_mod,<-Nat.mul_mod,Nat.mul_pow,<-Nat.pow_mul,<-Nat.pow_mul,Nat.pow_add,Nat.pow_add,Nat.mul_comm h1 x,Nat.mul_comm h2 x]
  congr 1
  generalize G^a=A;generalize H^b=B;generalize G^(x*h1)=C;generalize H^(x*h2)=D
  ac_rfl
theorem zip_fst {xs bs:List Nat}(h:xs.length=bs.length):(xs.zip bs).map (·.1)=xs:=List.map_fst_zip (by omega)
theorem mV {xs bs:List Nat}(h:xs.length=bs.length):(xs.zip bs).map (·.2)=bs:=List.map_snd_zip (by omega)
theorem Un {P Q G H X:Nat}(hP:2<=P)(hQ:2<=Q)(hG:G^Q%P=1%P)(hH:H^Q%P=1%P)(xs bs:List Nat) :
  Lo P (X%Q) (Cw P Q G H xs bs)=Fz P Q G H (Bp Q X xs) (Bp Q X bs):=by
 have h1:=jQ hG hH (x:=X%Q) ((Ql (max xs.length bs.length) xs).zip (Ql (max xs.length bs.length) bs));have hl:(Ql (max xs.length bs.length) xs).length=(Ql (max xs.length bs.length) bs).length:=by rw[Hl (by omega),Hl (by omega)]
 rw[zip_fst hl,mV hl,Nat.mod_eq_of_lt (nZ hP _)]at h1
 unfold Cw;rw[h1,Yx hG hH];have hx:∀l n,Tk (X%Q) (Ql n l)%Q=Bp Q X l%Q:=fun l n=>by
  rw[Zt,Sb];unfold Ql;rw[Wx hQ]
 rw[Uk hG (hx xs _),Uk hH (hx bs _)]
theorem pD {P Q y:Nat}(hP:2<=P)(hQ:0<Q)(h:y^Q%P=1%P):Nat.gcd P y=1:=by
 have h1:Nat.gcd P y ∣ y^Q:=Nat.dvd_trans (Nat.gcd_dvd_right _ _) (Nat.dvd_trans (by rw[Nat.pow_one];exact Nat.dvd_refl _) (Nat.pow_dvd_pow y (show 1<=Q from hQ)));have h2:Nat.gcd P y ∣ P*(y^Q/P):=Nat.dvd_trans (Nat.gcd_dvd_left _ _) (Nat.dvd_mul_right _ _);have h3:=Nat.div_add_mod (y^Q) P;rw[h,Nat.mod_eq_of_lt (by omega)]at h3
 have h5:y^Q-P*(y^Q/P)=1:=by omega
 have h4:Nat.gcd P y ∣ y^Q-P*(y^Q/P):=Nat.dvd_sub h1 h2;rw[h5]at h4
 exact Nat.dvd_one.1 h4
theorem Rt {P Q G i j:Nat}(hQ:Bf Q)(hP:2<=P)(hG:G^Q%P=1%P)(h1:G%P≠1%P)(hij:i<=j)(hj:j<Q)(h:G^i%P=G^j%P):i=j:=by
 have hq:=hQ.two;have hc:=Ru (pD hP (by omega) hG) hij h;rcases Nat.eq_zero_or_pos (j-i) with h0|h0
 .omega
 obtain⟨d,d0,dl,hd,hm⟩:=Va (n:=Q) (by omega) hG;have k1:=Ou hd hm d0 hG;have k2:=Ou hd hm d0 hc;rcases hQ.2 d k1 with e|e
 .rw[e,Nat.pow_one]at hd
  exact absurd hd h1
 .have:=Nat.le_of_dvd h0 k2;omega
theorem nK {P Q G i j:Nat}(hQ:Bf Q)(hP:2<=P)(hG:G^Q%P=1%P)(h1:G%P≠1%P)(hi:i<Q)(hj:j<Q)(h:G^i%P=G^j%P):i=j:=by
 rcases Nat.le_total i j with hl|hl
 .exact Rt hQ hP hG h1 hl hj h
 .exact(Rt hQ hP hG h1 hl hi h.symm).symm
theorem jR {P Q G H s s' r:Nat}(hQ:Bf Q)(hP:2<=P)(hG:G^Q%P=1%P)(hH:H^Q%P=1%P)(h1:G%P≠1%P)(hs:s<Q)(hs':s'<Q):Fz P Q G H s r=Fz P Q G H s' r ↔ s=s':=by
 refine⟨fun h=>?_,fun h=>by rw[h]⟩;unfold Fz at h;rw[Nat.mod_eq_of_lt hs,Nat.mod_eq_of_lt hs',<-Nat.mul_mod,<-Nat.mul_mod]at h
 have hr:r%Q<=Q:=Nat.le_of_lt (Nat.mod_lt _ (by omega));have hY:H^(r%Q)*H^(Q-r%Q)%P=1%P:=by rw[<-Nat.pow_add,Nat.add_sub_cancel' hr,hH]
 have h2:∀A,A*H^(r%Q)*H^(Q-r%Q)%P=A%P:=fun A=>by rw[Nat.mul_assoc,Nat.mul_mod,hY,<-Nat.mul_mod,Nat.mul_one]
 have h3:G^s*H^(r%Q)*H^(Q-r%Q)%P=G^s'*H^(r%Q)*H^(Q-r%Q)%P:=by rw[Nat.mul_mod,h,<-Nat.mul_mod]
 rw[h2,h2]at h3
 exact nK hQ hP hG h1 hs hs' h3
def Gf (Q a:Nat)(ds:List Nat):List Nat:=(a::ds).map fun c=>c%Q
theorem Hk (Q a:Nat)(ds:List Nat):(Gf Q a ds).length=ds.length+1:=by simp[Gf]
theorem Fa {Q x:Nat}(hQ:2<=Q)(l:List Nat):Bp Q x l<Q:=(Nj (x:=x) hQ l).lt
theorem Ul {Q:Nat}(hQ:2<=Q)(a:Nat)(ds:List Nat):Bp Q 0 (Gf Q a ds)=a%Q:=by
 refine(Nj (x:=0) hQ _).uniq (Is.of (by omega) a) ?_;have h:=lD (q:=Q) (by omega) 0 (a::ds);have e:ev (ints (a::ds)) 0=(a:Int):=by
  show (a:Int)+0*ev (ints ds) 0=a;omega
 rw[e]at h
 exact h
variable {α:Type}
def Hh (f:Nat->Option α)(t k:Nat):List α:=((List.range k).filterMap fun i=>f (i+1)).take t
theorem gV (f:Nat->Option α)(t:Nat):Hh f t 0=[]:=by simp[Hh]
theorem gW {f:Nat->Option α}{t k:Nat}{x:α}(h:(Hh f t k).length<t)(hx:f (k+1)=some x):Hh f t (k+1)=Hh f t k++[x]:=by
 unfold Hh at *;rw[List.length_take]at h
 have hl:((List.range k).filterMap fun i=>f (i+1)).length<t:=by omega
 rw[List.range_succ,List.filterMap_append,List.take_append,List.take_of_length_le (Nat.le_of_lt hl)];have e:[k].filterMap (fun i=>f (i+1))=[x]:=by simp[hx]
 rw[e,List.take_of_length_le (by simp;omega)]
theorem gX {f:Nat->Option α}{t k:Nat}(hx:f (k+1)=none):Hh f t (k+1)=Hh f t k:=by
 unfold Hh;rw[List.range_succ,List.filterMap_append];simp[hx]
theorem gY {f:Nat->Option α}{t k:Nat}(h:¬(Hh f t k).length<t):Hh f t (k+1)=Hh f t k:=by
 unfold Hh at *;rw[List.length_take]at h
 rw[List.range_succ,List.filterMap_append,List.take_append,show t-((List.range k).filterMap fun i=>f (i+1)).length=0 by omega,List.take_zero,List.append_nil]
theorem Vj {f:Nat->Option α}{t k:Nat}(h:¬(Hh f t k).length<t):∀m,k<=m->Hh f t m=Hh f t k
 | 0,hm=>by rw[show k=0 by omega]
 | m+1,hm=>by
  by_cases e:k=m+1
  .rw[e]
  .have ih:=Vj h m (by omega);rw[gY (by rw[ih];exact h),ih]
theorem Sm {f:Nat->Option α}{t k:Nat}{x:α}(h:x∈Hh f t k):∃i,i<k/\f (i+1)=some x:=by
 have h1:=List.mem_of_mem_take h;obtain⟨i,hi,he⟩:=List.mem_filterMap.1 h1;exact⟨i,List.mem_range.1 hi,he⟩
theorem Vk {f:Nat->Option α}{g:α->Nat}(hg:∀j x,f j=some x->g x=j)(t:Nat):∀k,(((List.range k).filterMap fun i=>f (i+1)).map g).Pairwise (· < ·)
 | 0=>List.Pairwise.nil
 | k+1=>by
  rw[List.range_succ,List.filterMap_append,List.map_append,List.pairwise_append];refine⟨Vk hg t k,?_,?_⟩
  .cases hx:f (k+1) with
   | none=>simp[hx]
   | some x=>simp[hx]
  .intro a ha b hb;obtain⟨x,hx,rfl⟩:=List.mem_map.1 ha;obtain⟨i,hi,he⟩:=List.mem_filterMap.1 hx;obtain⟨y,hy,rfl⟩:=List.mem_map.1 hb;obtain⟨j,hj,hf⟩:=List.mem_filterMap.1 hy;rw[List.mem_singleton.1 hj]at hf
   rw[hg _ _ he,hg _ _ hf];have:=List.mem_range.1 hi;omega
theorem dM {f:Nat->Option α}{g:α->Nat}(hg:∀j x,f j=some x->g x=j)(t k:Nat):((Hh f t k).map g).Nodup:=by
 unfold Hh;rw[List.map_take];exact List.Pairwise.imp (fun h=>Nat.ne_of_lt h) ((Vk hg t k).sublist (List.take_sublist _ _))
theorem Vl {f:Nat->Option α}{a b:Nat}(hb:0<b):∀(n k:Nat),(∀i,i<n->∃x,f (a+1+i*b)=some x)->(∀i,i<n->a+1+i*b<=k)->n<=((List.range k).filterMap fun i=>f (i+1)).length
 | 0,_,_,_=>Nat.zero_le _
 | n+1,k,hf,hk=>by
  have hk1:=hk n (by omega);have ih:=Vl hb n (a+n*b) (fun i hi=>hf i (by omega)) (fun i hi=>by
   have:(i+1)*b<=n*b:=Nat.mul_le_mul_right b (by omega);rw[Nat.succ_mul]at this
   omega)
  obtain⟨x,hx⟩:=hf n (by omega);obtain⟨d,rfl⟩:∃d,k=a+n*b+1+d:=⟨k-(a+n*b+1),by omega⟩
  rw[List.range_add,List.filterMap_append,List.length_append,List.range_succ,List.filterMap_append,List.length_append];have e:a+1+n*b=a+n*b+1:=by omega
  rw[e]at hx
  have:([a+n*b].filterMap fun i=>f (i+1)).length=1:=by simp[hx]
  omega
theorem aS {f:Nat->Option α}{a b t k:Nat}(hb:0<b)(hf:∀i,i<t->∃x,f (a+1+i*b)=some x)(hk:∀i,i<t->a+1+i*b<=k):(Hh f t k).length=t:=by
 have:=Vl hb t k hf hk;unfold Hh;rw[List.length_take];omega
abbrev Fj:=Int×Nat×Nat
def Lz (P Q G H:Nat)(cs:List Nat)(j:Nat)(p:Fj):Bool:=decide (p.1=(j:Int))&&(decide (p.2.1<Q)&&(decide (p.2.2<Q)&&decide (Fz P Q G H p.2.1 p.2.2=Lo P (j%Q) cs)))
def Mh (P Q G H:Nat)(cs:List Nat)(l:List Fj)(j:Nat):Option Fj:=l.find? (Lz P Q G H cs j)
theorem Ki {P Q G H:Nat}{cs:List Nat}{l:List Fj}{j:Nat}{p:Fj}(h:Mh P Q G H cs l j=some p):p∈l/\p.1=(j:Int)/\p.2.1<Q/\p.2.2<Q/\Fz P Q G H p.2.1 p.2.2=Lo P (j%Q) cs:=by
 have h1:=List.find?_some h;unfold Lz at h1;simp only[Bool.and_eq_true,decide_eq_true_eq]at h1;exact⟨List.mem_of_find?_eq_some h,h1⟩
theorem Nk {P Q G H:Nat}{cs:List Nat}{l:List Fj}(j:Nat)(p:Fj)(h:Mh P Q G H cs l j=some p):p.1.toNat=j:=by rw[(Ki h).2.1];rfl
def Bz (P Q G H t:Nat)(cs:List Nat)(l:List Fj)(k:Nat):List Fj:=Hh (Mh P Q G H cs l) t k
theorem Lv {P Q G H t k:Nat}{cs:List Nat}{l:List Fj}(hk:k<Q):Ev Q (ints ((Bz P Q G H t cs l k).map fun p=>p.1.toNat)):=by
 rw[Gv];have h:=dM (f:=Mh P Q G H cs l) (g:=fun p=>p.1.toNat) Nk t k;have e:((Bz P Q G H t cs l k).map fun p=>p.1.toNat).map (fun x=>x%Q)=(Bz P Q G H t cs l k).map fun p=>p.1.toNat:=by
  rw[List.map_map];refine List.map_congr_left fun p hp=>?_
  obtain⟨i,hi,he⟩:=Sm hp;have:=Nk _ _ he;show p.1.toNat%Q=p.1.toNat;rw[Nat.mod_eq_of_lt (by omega)]
 rw[e];exact h
noncomputable def Po (Q X:Nat) (f:Fj->Nat) (l:List Fj):Nat:=Jr Q X [] (l.map fun p=>p.1.toNat) (l.map f) 0
def Cg (Q:Nat)(vs ms:List Nat)(j:Int)(x:Nat):Fj:=if 1<=j/\j<=64 then (j,(Bp Q j.toNat vs+x)%Q,Bp Q j.toNat ms) else (j,(0+x)%Q,0)
theorem Yz (Q:Nat)(vs ms:List Nat)(j:Int)(x:Nat):(Cg Q vs ms j x).1=j:=by
 unfold Cg;split<;>rfl
theorem fN {Q:Nat}(hQ:2<=Q)(vs ms:List Nat)(j:Int)(x:Nat):(Cg Q vs ms j x).2.1<Q/\(Cg Q vs ms j x).2.2<Q:=by
 unfold Cg;split
 .exact⟨Nat.mod_lt _ (by omega),Fa hQ _⟩
 .exact⟨Nat.mod_lt _ (by omega),(by omega:0<Q)⟩
theorem Ot {Q j:Nat}(vs ms:List Nat)(x:Nat)(h:1<=j/\j<=64):Cg Q vs ms (j:Int) x=((j:Int),(Bp Q j vs+x)%Q,Bp Q j ms):=by
 unfold Cg;rw[if_pos (by omega)];rfl
theorem eO {Q A x:Nat}(hA:A<Q):(A+x)%Q=A ↔ x%Q=0:=by
 constructor
 .intro h;have h2:(A+x)%Q=(A+x%Q)%Q:=by rw[Nat.add_mod_mod]
  have hx:x%Q<Q:=Nat.mod_lt _ (by omega);rw[h2]at h
  by_cases hl:A+x%Q<Q
  .rw[Nat.mod_eq_of_lt hl]at h;omega
  .rw[Nat.mod_eq_sub_mod (by omega),Nat.mod_eq_of_lt (by omega)]at h;omega
 .intro h;rw[<-Nat.add_mod_mod,h,Nat.add_zero,Nat.mod_eq_of_lt hA]
theorem Ps {P Q G H:Nat}{vs ms:List Nat}{j:Nat}{i:Int}{x:Nat}(hQ:Bf Q)(hP:2<=P)(hG:G^Q%P=1%P)(hH:H^Q%P=1%P)(h1:G%P≠1%P)(hj:1<=j/\j<=64) :
  Lz P Q G H (Cw P Q G H vs ms) j (Cg Q vs ms i x)=(decide (i=(j:Int))&&decide (x%Q=0)):=by
 have h2:=hQ.two;have hl:=fN h2 vs ms i x
 by_cases e:i=(j:Int)
 .subst e;unfold Lz;rw[Ot vs ms x hj];rw[Ot vs ms x hj]at hl
  rw[Un hP h2 hG hH vs ms];rw[decide_eq_true hl.1,decide_eq_true hl.2,Bool.true_and,Bool.true_and]
  congr 1
  rw[decide_eq_decide,jR hQ hP hG hH h1 hl.1 (Fa h2 _)];exact eO (Fa h2 _)
 .unfold Lz;rw[Yz,decide_eq_false e,Bool.false_and,Bool.false_and]
theorem Yy {P Q G H:Nat}{vs ms:List Nat}{l:List (Int×Nat)}{j:Nat}{p:Fj}(hQ:Bf Q)(hP:2<=P)(hG:G^Q%P=1%P)(hH:H^Q%P=1%P)(h1:G%P≠1%P)(hj:1<=j/\j<=64)(h:Mh P Q G H (Cw P Q G H vs ms) (l.map fun x=>Cg Q vs ms x.1 x.2) j=some p):p=((j:Int),Bp Q j vs,Bp Q j ms):=by
 have h2:=hQ.two;have hf:=List.find?_some h;obtain⟨⟨i,x⟩,hi,rfl⟩:=List.mem_map.1 (Ki h).1;rw[Ps hQ hP hG hH h1 hj]at hf
 simp only[Bool.and_eq_true,decide_eq_true_eq]at hf;obtain⟨rfl,hx⟩:=hf;show Cg Q vs ms (j:Int) x=_;rw[Ot vs ms x hj,(eO (Fa h2 _)).2 hx]
theorem cG {P Q G H:Nat}{vs ms:List Nat}{l:List (Int×Nat)}{j:Nat}(hQ:Bf Q)(hP:2<=P)(hG:G^Q%P=1%P)(hH:H^Q%P=1%P)(h1:G%P≠1%P)(hj:1<=j/\j<=64)(hm:((j:Int),0)∈l) :
  ∃p,Mh P Q G H (Cw P Q G H vs ms) (l.map fun x=>Cg Q vs ms x.1 x.2) j=some p:=by
 cases h:Mh P Q G H (Cw P Q G H vs ms) (l.map fun x=>Cg Q vs ms x.1 x.2) j with
 | some p=>exact⟨p,rfl⟩
 | none=>
  have h3:=List.find?_eq_none.1 h _ (List.mem_map.2 ⟨((j:Int),0),hm,rfl⟩);rw[Ps hQ hP hG hH h1 hj]at h3
  simp at h3
theorem Ua {P Q G H t k:Nat}{cs:List Nat}{l:List Fj}{f:Fj->Nat}{ps:List Nat}(hQ:Bf Q)(hk:k<Q)(hf:∀p∈Bz P Q G H t cs l k,f p=Bp Q p.1.toNat ps)(hl:ps.length<=(Bz P Q G H t cs l k).length)(X:Nat) :
  Po Q X f (Bz P Q G H t cs l k)=Bp Q X ps:=by
 unfold Po;have e:(Bz P Q G H t cs l k).map f=((Bz P Q G H t cs l k).map fun p=>p.1.toNat).map fun a=>Bp Q a ps:=by
  rw[List.map_map];exact List.map_congr_left fun p hp=>hf p hp
 rw[e];exact Zo hQ (Lv hk) (by rw[List.length_map];exact hl) X
structure KN (B:Nat) (w w':World):Prop where
 k:Am B w w'
 blk:∀(g:Nat) (o:Obj),w.heap[g]? = some o->(∀q m d,o≠.cells #[.slice q m d] 37 (0,0))->w'.heap[g]? = some o
theorem KN.of {B:Nat}{w w':World}(h:Below w.heap.size w w')(hB:B<=w.heap.size):KN B w w':=⟨Am.of h hB,fun g o ho _=>by rw[h.block g (Gg ho).1];exact ho⟩
theorem KN.same (B:Nat)(w:World):KN B w w:=⟨Am.same _ _,fun _ _ h _=>h⟩
theorem KN.store {B b m d:Nat}{q:Option Addr}{w:World}(hb:Af w b (.slice q m d))(hB:B<=b)(v:Value):KN B w (w.setCell ⟨b,0,none⟩ v):=⟨Am.store hb hB v,fun g o ho hn=>by
 have hne:g≠b:=fun e=>by
  subst e;unfold Af at hb;rw[hb]at ho
  cases ho;exact hn _ _ _ rfl
 simp[World.setCell,Array.getElem?_modify,hne.symm];exact ho⟩
theorem Fit.kn {e N B:Nat}{v:Value}{w w':World}(h:Fit e N v w)(k:KN B w w'):Fit e N v w':=h.keep k.k
theorem Gh.kn {e N B:Nat}{t v:Value}{w w':World}(h:Gh e N t v w)(k:KN B w w'):Gh e N t v w':=h.keep k.k
def oM (Q:Nat)(v:Value)(w:World):Prop:=(∃b P G H,v=.pointer (some ⟨b,0,none⟩)/\Au w b P Q G H) ∨ (v=.pointer none/\Q=0)
theorem oM.below {Q:Nat}{v:Value}{w w':World}(h:oM Q v w)(hb:Below w.heap.size w w'):oM Q v w':=by
 rcases h with ⟨b,P,G,H,h1,h2⟩|h
 .exact .inl ⟨b,P,G,H,h1,h2.below hb⟩
 .exact .inr h
theorem oM.of {w:World}{b P Q G H:Nat}(h:Au w b P Q G H):oM Q (.pointer (some ⟨b,0,none⟩)) w:=.inl ⟨b,P,G,H,rfl,h⟩
def RQ (Q:Nat)(v:Value)(w:World):Prop:=(∃r,v=.pointer (some ⟨r,0,none⟩)/\Ring w r Q 33) ∨ (v=.pointer none/\Q=0)
theorem cB {w:World}{Q:Nat}{g0:Value}(h:oM Q g0 w) :
  Calls Tryz.prog 30 #[g0] w fun en w'=>∃x,en=.returned x/\RQ Q x w'/\Below w.heap.size w w':=by
 rcases h with ⟨b,P,G,H,rfl,h2⟩|⟨rfl,rfl⟩
 .refine(Dx h2).mono ?_;rintro en w' ⟨r,rfl,hr,hb⟩;exact⟨_,rfl,.inl ⟨r,rfl,hr⟩,hb⟩
 .refine(dA w).mono ?_;rintro en w' ⟨rfl,hb⟩;exact⟨_,rfl,.inr ⟨rfl,rfl⟩,hb⟩
theorem jI {w:World}{Q:Nat}{r0:Value}(h:RQ Q r0 w) :
  Calls Tryz.prog 57 #[r0] w fun en w'=>∃x,en=.returned x/\Fit 33 Q x w'/\Below w.heap.size w w':=by
 rcases h with ⟨r,rfl,h2⟩|⟨rfl,rfl⟩
 .exact Ew h2
 .refine(Pu w).mono ?_;rintro en w' ⟨rfl,hb⟩;exact⟨_,rfl,Fit.of (Ag.nil _) (by decide),hb⟩
theorem Nm {N M:Nat}:Bk N M<0 ↔ N<M:=by
 unfold Bk;split
 .simp_all
 .split<;>simp_all<;>omega
structure KT (T:TypeId) (B:Nat) (w w':World):Prop where
 k:Am B w w'
 blk:∀(g:Nat) (vs:Array Value) (U:TypeId) (m:Nat×Nat),w.heap[g]? = some (.cells vs U m)->(U≠T ∨ ∃(j:Nat) (u:Value),vs[j]? = some u/\∀q k d,u≠Value.slice q k d)->w'.heap[g]? = some (.cells vs U m)
theorem Ring.kt {T:TypeId}{B r M f:Nat}{w w':World}(h:Ring w r M f)(k:KT T B w w')(hT : 156 ≠ T):Ring w' r M f:=by
 obtain⟨p,n,c,h1,h2,h3⟩:=h.at_.ex
 exact⟨⟨p,n,c,k.blk _ _ _ _ h1 (.inl hT),k.k.nat _ _ _ _ h2,h3⟩,h.two,h.lim,h.few⟩
theorem Ag.off {w w':World}{p:Option Addr}{n c N b:Nat}{vs:Array Value}{T:TypeId}{m:Nat×Nat}(h:Ag w p n c N)(hb:w.heap[b]? = some (.cells vs T m))(hs:∀(j:Nat) (u:Value),vs[j]? = some u->∃q k d,u=.slice q k d)(hz:w.heap.size<=w'.heap.size)(ho:∀g,g≠b->w'.heap[g]? = w.heap[g]?):Ag w' p n c N:=by
 rcases Nat.eq_zero_or_pos n with rfl|h0
 .obtain⟨ws,r1,r2,r3,r4⟩:=h.ex;refine⟨ws,⟨r1.len,r1.cap,r1.max,?_⟩,r2,r3,r4⟩;rcases r1.at_ with k|⟨g,off,k1,k2,k3⟩
  .exact .inl k
  .refine .inr ⟨g,off,k1,Da k2 hz,fun i x hx=>?_⟩;have:ws=[]:=List.eq_nil_of_length_eq_zero r1.len.symm;rw[this]at hx;cases hx
 .refine Cj.stay h hz fun q hq o=>World.cell?_of_block (a:=⟨q.block,o,none⟩) (ho q.block fun e=>?_)
  obtain⟨ws,r1,r2,r3,r4⟩:=h.ex;obtain⟨b',off,k1,k2,k3⟩:=r1.pos h0;rw[k1]at hq;cases hq
  have hbb:b'=b:=e;subst hbb;have h1:=k3 0 (ws.getD 0 0) (by rw[Dy];simp[show 0<ws.length by rw[<-r1.len];exact h0]);rw[Nat.add_zero]at h1
  simp only[World.cell?,hb]at h1;obtain⟨q,k,d,hu⟩:=hs _ _ h1;cases hu
def set2 (w:World)(b:Nat)(u0 u1:Value):World:=(w.setCell ⟨b,0,none⟩ u0).setCell ⟨b,1,none⟩ u1
def nE (w:World)(b:Nat)(u0 u1 u2 u3:Value):World:=(((w.setCell ⟨b,0,none⟩ u0).setCell ⟨b,1,none⟩ u1).setCell ⟨b,2,none⟩ u2).setCell ⟨b,3,none⟩ u3
structure iN (w:World) (b:Nat) (o:Obj) (w':World):Prop where
 new:w'.heap[b]? = some o
 old:∀g,g≠b->w'.heap[g]? = w.heap[g]?
 size:w'.heap.size=w.heap.size
 bel:∀B,B<=b->Below B w w'
theorem put2 {w:World}{b:Nat}{v0 v1 u0 u1:Value}{T:TypeId}(h:w.heap[b]? = some (.cells #[v0,v1] T (0,0))):iN w b (.cells #[u0,u1] T (0,0)) (set2 w b u0 u1) :=
 ⟨by simp[set2,World.setCell,Array.getElem?_modify,h],fun g hg=>by simp[set2,World.setCell,Array.getElem?_modify,hg.symm],by simp[set2],fun B hB=>(((Ba _ _).setCell hB _).setCell hB _)⟩
theorem put4 {w:World}{b:Nat}{v0 v1 v2 v3 u0 u1 u2 u3:Value}{T:TypeId}(h:w.heap[b]? = some (.cells #[v0,v1,v2,v3] T (0,0))):iN w b (.cells #[u0,u1,u2,u3] T (0,0)) (nE w b u0 u1 u2 u3) :=
 ⟨by simp[nE,World.setCell,Array.getElem?_modify,h],fun g hg=>by simp[nE,World.setCell,Array.getElem?_modify,hg.symm],by simp[nE],fun B hB=>(((((Ba _ _).setCell hB _).setCell hB _).setCell hB _).setCell hB _)⟩
theorem iN.keep {w w':World}{b B:Nat}{o:Obj}{vs:Array Value}{T:TypeId}{m:Nat×Nat}(h:iN w b o w')(hb:w.heap[b]? = some (.cells vs T m))(hs:∀(j:Nat) (u:Value),vs[j]? = some u->∃q k d,u=.slice q k d)(hB:B<=b):Am B w w' :=
 ⟨h.bel B hB,fun _ _ _ _ k=>k.off hb hs (Nat.le_of_eq h.size.symm) h.old⟩
theorem iN.kt {w w':World}{b B:Nat}{o:Obj}{vs:Array Value}{T:TypeId}{m:Nat×Nat}(h:iN w b o w')(hb:w.heap[b]? = some (.cells vs T m))(hs:∀(j:Nat) (u:Value),vs[j]? = some u->∃q k d,u=.slice q k d)(hB:B<=b):KT T B w w' :=
 ⟨h.keep hb hs hB,fun g us U k ho hU=>by
  have:g≠b:=fun e=>by
   subst e;rw[hb]at ho
   cases ho;rcases hU with hU|⟨j,u,hj,hu⟩
   .exact hU rfl
   .obtain⟨_,_,_,hx⟩:=hs _ _ hj;exact hu _ _ _ hx
  rw[h.old g this];exact ho⟩
theorem Qv (x y:Option Addr×Nat×Nat):∀(j:Nat) (u:Value),(#[Value.slice x.1 x.2.1 x.2.2,.slice y.1 y.2.1 y.2.2]:Array Value)[j]? = some u->∃q k d,u=.slice q k d
 | 0,u,h=>by cases h;exact⟨_,_,_,rfl⟩
 | 1,u,h=>by cases h;exact⟨_,_,_,rfl⟩
 | j+2,u,h=>by simp at h
def z4 (T:TypeId):Obj:=.cells #[.slice none 0 0,.slice none 0 0,.slice none 0 0,.slice none 0 0] T (0,0)
theorem pH (i:Nat)(hi:i<3):gP i<An 3/\gQ i<An 3/\gG i<An 3:=by
 have h:=Ih i hi;have h1:gP i<An 3:=Da h.2.2.2.2.2 (by decide);have h2:=Vb i hi;refine⟨h1,?_,by omega⟩;rcases Nat.eq_zero_or_pos (Mg i) with h0|h0
 .rw[h0,Nat.mul_zero]at h2;omega
 .have:=Nat.le_mul_of_pos_right (gQ i) h0;omega
theorem dC:∀i,i<3->(Ei i).length<=60
 | 0,_=>by decide
 | 1,_=>by decide
 | 2,_=>by decide
 | _+3,h=>by omega
def aX (N M:Nat)(v:Value)(w:World):Prop:=∃(g:Nat) (x y:Option Addr×Nat×Nat),v=.slice (some ⟨g,0,none⟩) 2 2/\w.heap[g]? = some (.cells #[.slice x.1 x.2.1 x.2.2,.slice y.1 y.2.1 y.2.2] 37 (0,0))/\Cr w x N/\Cr w y M/\N<An 33/\M<An 33
theorem aX.kn {N M B:Nat}{v:Value}{w w':World}(h:aX N M v w)(k:KN B w w'):aX N M v w' :=
 let ⟨g,x,y,h1,h2,h3,h4,h5,h6⟩:=h
 ⟨g,x,y,h1,k.blk _ _ h2 (fun _ _ _=>by simp),k.k.nat _ _ _ _ h3,k.k.nat _ _ _ _ h4,h5,h6⟩
theorem aX.plist {N M g:Nat}{x y:Option Addr×Nat×Nat}{w:World}(h2:w.heap[g]? = some (.cells #[.slice x.1 x.2.1 x.2.2,.slice y.1 y.2.1 y.2.2] 37 (0,0)))(h3:Cr w x N)(h4:Cr w y M)(h5:N<An 33)(h6:M<An 33):Aq w 33 (some ⟨g,0,none⟩) 2 2 [N,M]:=by
 refine⟨rfl,Av _,by decide,(fun e=>by cases e),fun _=>⟨g,0,rfl,(Gg h2).1,fun i K hK=>?_⟩⟩
 match i,hK with
 | 0,hK=>cases hK;exact⟨x.1,x.2.1,x.2.2,by simp[World.cell?,h2],h3,h5⟩
 | 1,hK=>cases hK;exact⟨y.1,y.2.1,y.2.2,by simp[World.cell?,h2],h4,h6⟩
theorem eB {x:Nat}(h:Su x):x<An 2:=by
 unfold Su at h;exact Da h (by decide)
theorem cL (w:World)(p:Option Addr)(n c:Nat)(xs:List Nat)(h:Br w .u64 p n c xs)(h64:∀x∈xs,Su x)(hn:n<=1000) :
  Calls Tryz.prog 39 #[.slice p n c] w fun e w'=>∃q d,e=.returned (.slice q n d)/\Aq w' 2 q n d xs/\Below w.heap.size w w':=by
 have HX:=Ab h;have H6:=Ab h64;have HLn:=Ab h.len;clear h h64;go_enter Tryz.func39,Tryz.ntmps39;go_wp2
 go_loopw [3,5,8] (fun vv _ iv wr=>∃(k:Nat) (bad:Nat->Prop),k<=n/\iv=.int .i64 k/\Aa (Below w.heap.size w wr)/\Aa (∀g,bad g->g<wr.heap.size)/\Aa (Fg Ag 37 w.heap.size bad wr vv (xs.take k))/\Aa (∀g,vv.ownBlock=some g->bad g)) (fun _ _ iv _=>n-(intOf iv).toNat)
 case atStart=>exact⟨0,fun _=>False,by omega,rfl,⟨Ba _ _⟩,⟨fun _ h=>h.elim⟩,⟨Fg.nil⟩,⟨fun g h=>by cases h⟩⟩
 case round=>
  obtain⟨k,bad,hk,rfl,HB,HLT,HO,HV⟩:=hrel
  by_cases hkn:k<n
  .obtain⟨S,hSk⟩:∃s,xs[k]? = some s:=⟨xs[k]'(by rw[<-HLn.out];exact hkn),List.getElem?_eq_getElem _⟩
   obtain⟨bb,off,rfl,hb,hc⟩:=(HX.out.row (by omega)).pos (by omega);have hx:wr.cell? ⟨bb,off+k,none⟩=some (.int .u64 (S:Nat)):=(HB.out.cell (p:=⟨bb,off+k,none⟩) hb).trans (hc k S hSk);have HTk:Aa (xs.take (k+1)=xs.take k++[S]):=⟨Cx hSk⟩
   have HTl:Aa ((xs.take k).length<=1000000):=⟨by rw[List.length_take];omega⟩
   have HSU:Aa (S<18446744073709551616):=⟨H6.out S (List.mem_of_getElem? hSk)⟩
   have hkn':(k:Int)<n:=by omega
   clear hc hSk hb
   go_wp2_with fail
   refine(Cc S wr HSU.out).mono ?_;rintro en w3 ⟨q,m,d,rfl,hn3,b3,hnew⟩;have hb4:Below w3.heap.size w3 (w3.alloc (.cells #[.slice q m d] 37)):=Bq;have hx4:(w3.alloc (.cells #[.slice q m d] 37)).cell? ⟨w3.heap.size,0,none⟩=some (.slice q m d):=(Af.made w3 (.slice q m d)).cell;obtain⟨w4,hw4⟩:∃w4,w3.alloc (.cells #[.slice q m d] 37)=w4:=⟨_,rfl⟩
   rw[hw4]at hb4 hx4
   have hb34:=Ae b3 hb4;have hB4:=Ae HB.out hb34;have hfirm:Gc (fun w=>Ag w q m d S) bad w4:=Cj.fresh (hn3.below hb4) hnew HLT.out;obtain⟨i1,hi1,hz1,hs1,hbb1⟩:=info_parts Tryz.info_Nat;refine(HO.out.below hb34).app2 (x:=(q,m,d)) Tryz.underlying62 hi1 hz1 hs1 hbb1 rfl (by decide) hB4.size hx4 hfirm HV.out (fun g hg=>Da (HLT.out g hg) hb34.size) HTl.out 62 (c:=1) ?_;intro v9 w9 bad9 happ ho9 hg9 m1 m2 m3 m4;have HO9:=Ab ho9;have HB9:Aa (Below w.heap.size w w9):=⟨hB4.grown hg9 hB4.size fun g hg=>(HO.out.block g hg).1⟩
   have HLT9:=Ab m4;have HV9:=Ab m3;clear hb4 hx4 hb34 hB4 hfirm hi1 hz1 hs1 hbb1 ho9 hg9 m1 m2 m3 m4 b3 hn3 hnew
   go_wp2_with (at_builtin;refine Lib.wpList_append_run _ rfl _ _ _ _ rfl _ _ rfl rfl _ _ happ ?_;refine Fd.out ?_)
   refine⟨?_⟩;clear happ;go_wp2;go_roundw
   case rel=>exact⟨k+1,bad9,by omega,by go_num,HB9,HLT9,⟨by rw[HTk.out];exact HO9.out⟩,HV9⟩
   case measure=>simp[intOf];omega
  .obtain rfl:k=n:=by omega
   have hkn':¬(k:Int)<k:=by omega
   have htk:xs.take k=xs:=List.take_of_length_le (by rw[<-HLn.out];exact Av _);rw[htk]at HO
   obtain⟨q,d,rfl,hp⟩:=HO.out.plist (e:=2) (fun N hN=>eB (H6.out N hN));have HP:Aa (Aq wr 2 q k d xs):=⟨by have e:=HLn.out;rw[<-e]at hp;exact hp⟩
   have e9:xs.length=k:=HLn.out.symm;rw[e9];clear htk hp e9;go_wp2;go_ret;exact⟨q,d,rfl,HP.out,HB.out⟩
theorem kW (i:Nat)(hi:i<3):Bf (gQ i):=by
 rcases eL i hi with h|⟨h1,s,hs,h2⟩
 .exact h.prime
 .rw[<-h2];exact Ku _ [] (fun x hx=>by cases hx) h1 s hs
theorem kN (A:Int):((IntKind.u64.wrap A)%3).toNat<3:=by
 have h1:=Int.emod_nonneg (IntKind.u64.wrap A) (show (3:Int)≠0 by decide);have h2:=Int.emod_lt_of_pos (IntKind.u64.wrap A) (show (0:Int)<3 by decide);omega
theorem kQ {w:World}{i:Nat}{x y z:Option Addr×Nat×Nat}{pc:Option Addr}{nc cc:Nat}(hi:i<3)(hr:Tabs w)(hx:Cr w x (gP i))(hy:Cr w y (gQ i))(hz:Cr w z (gG i))(hc:Ek w 3 pc nc cc (Ei i)) :
  Calls Tryz.prog 62 #[.agg #[.slice x.1 x.2.1 x.2.2,.slice y.1 y.2.1 y.2.2,.slice z.1 z.2.1 z.2.2,.slice none 0 0],.slice pc nc cc] w fun e w'=>
   ∃b,e=.returned (.tuple #[.pointer (some ⟨b,0,none⟩),.int .i64 0])/\Au w' b (gP i) (gQ i) (gG i) (gH i)/\Below w.heap.size w w':=by
 obtain⟨l1,l2,l3⟩:=pH i hi;refine(kR (e:=3) (seed:=[]) hr hx l1 hy l2 hz l3 (Zb w) hc (by rw[hc.len];exact dC i hi) (dD i hi) (by decide)).mono ?_;rintro en w' ⟨_,h0,_,hbl⟩;rw[fS i hi]at h0
 obtain⟨b,rfl,hg⟩:=h0 (by decide) rfl;exact⟨b,rfl,hg,hbl⟩
theorem Lu (w:World)(A:Int)(hr:Tabs w) :
  Calls Tryz.prog 14 #[.int .i64 A,.slice none 0 0] w fun e w'=>∃b,e=.returned (.pointer (some ⟨b,0,none⟩))/\Au w' b (gP ((IntKind.u64.wrap A)%3).toNat) (gQ ((IntKind.u64.wrap A)%3).toNat) (gG ((IntKind.u64.wrap A)%3).toNat) (gH ((IntKind.u64.wrap A)%3).toNat)/\Below w.heap.size w w':=by
 have HR:=Ab hr;have hi:=kN A;obtain⟨i,ei⟩:∃i,((IntKind.u64.wrap A)%3).toNat=i:=⟨_,rfl⟩
 have HN:=Ab (Ti w A none 0 0);rw[ei]at hi HN ⊢
 have HI:=Ab hi;clear hr hi ei;go_enter Tryz.func14,Tryz.ntmps14
 go_wp2_with fail
 refine HN.out.mono ?_;rintro en w1 ⟨x,y,z,pc,nc,cc,rfl,h1,h2,h3,h4,b1⟩;have HH:=Ab (kQ HI.out (HR.out.below b1 HR.out.size) h1 h2 h3 h4);have B1:=Ab b1;clear h1 h2 h3 h4 b1 HN
 go_wp2_with fail
 refine HH.out.mono ?_;rintro en w2 ⟨b,rfl,hg,b2⟩;have HG:=Ab hg;have B2:=Ab (Ae B1.out b2);clear hg b2 HH B1;go_wp2;go_ret;exact⟨b,rfl,HG.out,B2.out⟩
theorem Yw {w:World}{b P Q GG HH es er S R:Nat}{vs vr:Value}(hg:Au w b P Q GG HH)(hs:Fit es S vs w)(hr:Fit er R vr w)(hes:es<=200)(her:er<=200) :
  Calls Tryz.prog 162 #[.pointer (some ⟨b,0,none⟩),vs,vr] w fun en w'=>∃u,en=.returned u/\Fit 33 (Fz P Q GG HH S R) u w'/\Below w.heap.size w w':=by
 obtain⟨ps,ns,cs,rfl,h1,h2⟩:=Ao hs;obtain⟨pr,nr,cr,rfl,h3,h4⟩:=Ao hr;have hbx:=Xs.mk3 w (.slice ps ns cs) (.slice pr nr cr) (.slice none 0 0);have q0:=hbx.b0;have q1:=hbx.b1;have q2:=hbx.b2;have hbl:=hbx.bel;obtain⟨wa,hwa⟩:∃wa,(((w.alloc (.cells #[.slice ps ns cs] 37)).alloc (.cells #[.slice pr nr cr] 37)).alloc (.cells #[.slice none 0 0] 37))=wa:=⟨_,rfl⟩
 rw[hwa]at q0 q1 q2 hbl
 have HXS0:=Ab q0;have HXR0:=Ab q1;have HZ00:=Ab q2;have HB0:=Ab hbl;have HS0:=Ab ((Fit.of h1 h2).below hbl);have HR0:=Ab ((Fit.of h3 h4).below hbl);have HG0:=Ab (hg.below hbl);have HL:=Ab hg.lims;obtain⟨SQ,hSQ⟩:∃K,S%Q=K:=⟨_,rfl⟩
 obtain⟨RQ,hRQ⟩:∃K,R%Q=K:=⟨_,rfl⟩
 obtain⟨AA,hAA⟩:∃K,Ka P 1 ([GG,HH].zip [SQ,RQ])=K:=⟨_,rfl⟩
 have HSQ:=Ab hSQ;have HRQ:=Ab hRQ;have HAA:=Ab hAA;have hAE:Fz P Q GG HH S R=AA:=by rw[<-hAA,<-hSQ,<-hRQ,cF]
 have hAAl:AA<P:=by rw[<-hAE];exact eJ (by have:=HL.out.1;omega)
 have HAAb:Aa (AA<An 33):=⟨Nat.lt_trans hAAl HL.out.2.1⟩
 rw[hAE];clear hAE hAAl hSQ hRQ hAA h1 h2 h3 h4 hbx q0 q1 q2 hbl hg hs hr;go_enter Tryz.func162,Tryz.ntmps162
 go_wp2_with fail
 refine(Dx HG0.out).mono ?_;rintro en w1 ⟨r,rfl,hr,hb1⟩;have HR:=Ab hr;have HXS:=Ab (HXS0.out.below hb1 HXS0.out.lt);have HXR:=Ab (HXR0.out.below hb1 HXR0.out.lt);have HZ0:=Ab (HZ00.out.below hb1 HZ00.out.lt);have HB3:=Ab (Ae HB0.out hb1);have HS:=Ab (HS0.out.below hb1);have HRr:=Ab (HR0.out.below hb1);have HG:=Ab (HG0.out.below hb1);clear hr hb1 HXS0 HXR0 HZ00 HB0 HS0 HR0 HG0 hwa;go_wp2;refine Aj (by kernel_rfl) (by kernel_rfl)
  [some (.pointer (some ⟨b,0,none⟩)),some (.pointer (some ⟨b,0,none⟩)),none,some (.pointer (some ⟨b,0,none⟩)),none,none,some (.pointer (some ⟨r,0,none⟩)),some (.agg #[.slice ps ns cs]),none,some (.pointer (some ⟨r,0,none⟩)),some (.agg #[.slice pr nr cr]),none,none,none,none,none,some (.int .i64 0),none,none,some (.int .i64 0)]
  [false,false,true,false,true,true,false,false,true,false,false,true,true,true,true,true,false,true,true,false] rfl
  (fun wA wB=>KN (w1.heap.size) wA wB)
  (fun D sp w'=>RG (w1.heap.size) w1 [] w'/\bC (D 17) (D 18) (sp 17) (w1.heap.size) (AA) w')
  (fun i v w'=>match i with
   | 2=>Fit 33 (GG) v w'
   | 4=>Fit 33 (HH) v w'
   | 5=>aX GG HH v w'
   | 8=>Fit 33 (SQ) v w'
   | 11=>Fit 33 (RQ) v w'
   | 12=>aX SQ RQ v w'
   | 13=>Gh 33 AA (.int .i64 0) v w'
   | 14=>Gh 33 AA (.int .i64 0) v w'
   | 15=>Fit (33) (AA) v w'
   | _=>True)
  ?_ ⟨RG.start (Av _) (fun x hx=>by cases hx),bC.start (Av _)⟩ ?_ ?_
 .intro i v wA wB hf hb;split at hf
  .exact hf.kn hb
  .exact hf.kn hb
  .exact hf.kn hb
  .exact hf.kn hb
  .exact hf.kn hb
  .exact hf.kn hb
  .exact hf.kn hb
  .exact hf.kn hb
  .exact hf.kn hb
  .trivial
 .simp only[Az,Nat.reduceAdd];refine⟨?_,?_,?_,?_,?_,?_,?_,?_,?_,?_,?_,?_,?_,?_,?_,?_,?_,?_,?_,?_,trivial⟩
  all_goals intro D sp w' hD hW hdp hg
  case refine_3=>
   (with_reducible refine Ac (w1:=w') (f := 26) (args:=#[.pointer (some ⟨b,0,none⟩)]) ?_ ?_ ?_)
   .simp[Region.wanted,yielded,Act.put,go_sem]
   .simp[Act.eval,Act.put,go_sem]
   .refine(pK (HG.out.below hg.1.keep.bel)).mono ?_;rintro en w9 ⟨u,rfl,hu,hb⟩;exact⟨u,rfl,KN.of hb hg.1.base,hu,hg.1.later hb,by simpa [upd]using hg.2.later hb⟩
  case refine_5=>
   (with_reducible refine Ac (w1:=w') (f := 53) (args:=#[.pointer (some ⟨b,0,none⟩)]) ?_ ?_ ?_)
   .simp[Region.wanted,yielded,Act.put,go_sem]
   .simp[Act.eval,Act.put,go_sem]
   .refine(pJ (HG.out.below hg.1.keep.bel)).mono ?_;rintro en w9 ⟨u,rfl,hu,hb⟩;exact⟨u,rfl,KN.of hb hg.1.base,hu,hg.1.later hb,by simpa [upd]using hg.2.later hb⟩
  case refine_6=>
   have hxa:∃p n c,sp 2=.agg #[.slice p n c]/\Ag w' p n c (GG)/\GG<An (33):=(hdp 2 (mq (by kernel_rfl))).2
   (with_reducible refine Aw hxa fun pa hxa1=>Aw hxa1 fun na hxa2=>Aw hxa2 fun ca hxa3=>?_)
   have ha:=hxa3.1;have hxb:∃p n c,sp 4=.agg #[.slice p n c]/\Ag w' p n c (HH)/\HH<An (33):=(hdp 4 (mq (by kernel_rfl))).2
   (with_reducible refine Aw hxb fun pb hxb1=>Aw hxb1 fun nb hxb2=>Aw hxb2 fun cb hxb3=>?_)
   have hb:=hxb3.1
   (with_reducible refine Ai (w1:=w'.alloc (.cells #[.slice pa na ca,.slice pb nb cb] 37)) (v:=.slice (some ⟨w'.heap.size,0,none⟩) 2 2) ?_ ?_ ?_)
   .simp only[Region.wanted]
   .simp[execOp,Act.eval,Act.put,go_sem,ha,hb]
   .have hbl:Below w'.heap.size w' (w'.alloc (.cells #[.slice pa na ca,.slice pb nb cb] 37)):=Bq;exact⟨KN.of hbl hg.1.base,⟨w'.heap.size,(pa,na,ca),(pb,nb,cb),rfl,heap_alloc_new w' _,hxa3.2.1.below hbl,hxb3.2.1.below hbl,hxa3.2.2,hxb3.2.2⟩,hg.1.later hbl,by simpa [upd]using hg.2.later hbl⟩
  case refine_8=>
   have c0:=(HXS.out.below hg.1.keep.bel HXS.out.lt).cell
   with_reducible refine Ad ?_ ?_
   all_goals simp[Region.wanted,yielded,execOp,Act.eval,Act.put,go_sem,c0]
  case refine_9=>
   (with_reducible refine Ac (w1:=w') (f := 31) (args:=#[.pointer (some ⟨r,0,none⟩),.agg #[.slice ps ns cs]]) ?_ ?_ ?_)
   .simp[Region.wanted,yielded,Act.put,go_sem]
   .simp[Act.eval,Act.put,go_sem]
   .refine(Ce (HR.out.below hg.1.keep.bel) (HS.out.below hg.1.keep.bel) (by omega)).mono ?_;rintro en w9 ⟨u,rfl,hu,hb⟩;rw[HSQ.out]at hu
    exact⟨u,rfl,KN.of hb hg.1.base,hu,hg.1.later hb,by simpa [upd]using hg.2.later hb⟩
  case refine_11=>
   have c0:=(HXR.out.below hg.1.keep.bel HXR.out.lt).cell
   with_reducible refine Ad ?_ ?_
   all_goals simp[Region.wanted,yielded,execOp,Act.eval,Act.put,go_sem,c0]
  case refine_12=>
   (with_reducible refine Ac (w1:=w') (f := 31) (args:=#[.pointer (some ⟨r,0,none⟩),.agg #[.slice pr nr cr]]) ?_ ?_ ?_)
   .simp[Region.wanted,yielded,Act.put,go_sem]
   .simp[Act.eval,Act.put,go_sem]
   .refine(Ce (HR.out.below hg.1.keep.bel) (HRr.out.below hg.1.keep.bel) (by omega)).mono ?_;rintro en w9 ⟨u,rfl,hu,hb⟩;rw[HRQ.out]at hu
    exact⟨u,rfl,KN.of hb hg.1.base,hu,hg.1.later hb,by simpa [upd]using hg.2.later hb⟩
  case refine_13=>
   have hxa:∃p n c,sp 8=.agg #[.slice p n c]/\Ag w' p n c (SQ)/\SQ<An (33):=(hdp 8 (mq (by kernel_rfl))).2
   (with_reducible refine Aw hxa fun pa hxa1=>Aw hxa1 fun na hxa2=>Aw hxa2 fun ca hxa3=>?_)
   have ha:=hxa3.1;have hxb:∃p n c,sp 11=.agg #[.slice p n c]/\Ag w' p n c (RQ)/\RQ<An (33):=(hdp 11 (mq (by kernel_rfl))).2
   (with_reducible refine Aw hxb fun pb hxb1=>Aw hxb1 fun nb hxb2=>Aw hxb2 fun cb hxb3=>?_)
   have hb:=hxb3.1
   (with_reducible refine Ai (w1:=w'.alloc (.cells #[.slice pa na ca,.slice pb nb cb] 37)) (v:=.slice (some ⟨w'.heap.size,0,none⟩) 2 2) ?_ ?_ ?_)
   .simp only[Region.wanted]
   .simp[execOp,Act.eval,Act.put,go_sem,ha,hb]
   .have hbl:Below w'.heap.size w' (w'.alloc (.cells #[.slice pa na ca,.slice pb nb cb] 37)):=Bq;exact⟨KN.of hbl hg.1.base,⟨w'.heap.size,(pa,na,ca),(pb,nb,cb),rfl,heap_alloc_new w' _,hxa3.2.1.below hbl,hxb3.2.1.below hbl,hxa3.2.2,hxb3.2.2⟩,hg.1.later hbl,by simpa [upd]using hg.2.later hbl⟩
  case refine_14=>
   have hr:∃(g:Nat) (x y:Option Addr×Nat×Nat),sp 5=.slice (some ⟨g,0,none⟩) 2 2/\w'.heap[g]? = some (.cells #[.slice x.1 x.2.1 x.2.2,.slice y.1 y.2.1 y.2.2] 37 (0,0))/\Cr w' x GG/\Cr w' y HH/\GG<An 33/\HH<An 33:=(hdp 5 (mq (by kernel_rfl))).2
   (with_reducible refine Aw hr fun ga ha1=>Aw ha1 fun ua ha2=>Aw ha2 fun ta ha3=>?_)
   have hr:∃(g:Nat) (x y:Option Addr×Nat×Nat),sp 12=.slice (some ⟨g,0,none⟩) 2 2/\w'.heap[g]? = some (.cells #[.slice x.1 x.2.1 x.2.2,.slice y.1 y.2.1 y.2.2] 37 (0,0))/\Cr w' x SQ/\Cr w' y RQ/\SQ<An 33/\RQ<An 33:=(hdp 12 (mq (by kernel_rfl))).2
   (with_reducible refine Aw hr fun gb hb1=>Aw hb1 fun ub hb2=>Aw hb2 fun tb hb3=>?_)
   have ea:=ha3.1;have eb:=hb3.1
   (with_reducible refine Ac (w1:=w') (f := 149) (args:=#[.pointer (some ⟨b,0,none⟩),.slice (some ⟨ga,0,none⟩) 2 2,.slice (some ⟨gb,0,none⟩) 2 2]) ?_ ?_ ?_)
   .simp only[Region.wanted]
   .simp[Act.eval,Act.put,go_sem,ea,eb]
   .refine(fT (HG.out.below hg.1.keep.bel) (aX.plist ha3.2.1 ha3.2.2.1 ha3.2.2.2.1 ha3.2.2.2.2.1 ha3.2.2.2.2.2) (aX.plist hb3.2.1 hb3.2.2.1 hb3.2.2.2.1 hb3.2.2.2.2.1 hb3.2.2.2.2.2) (by decide) (by decide) (by decide) (by decide)).mono ?_;rintro en w9 ⟨_,rfl,⟨p9,n9,c9,rfl,u1,u2⟩,hb⟩;rw[if_pos rfl,HAA.out]at u1 u2
    exact⟨_,rfl,KN.of hb hg.1.base,⟨p9,n9,c9,rfl,u1,u2⟩,hg.1.later hb,by simpa [upd]using hg.2.later hb⟩
  case refine_15=>
   have k13:Gh 33 AA (.int .i64 0) (sp 13) w':=(hdp 13 (mq (by kernel_rfl))).2
   (with_reducible refine Ai (w1:=w') (v:=sp 13) ?_ ?_ ?_)
   .simp[Region.wanted,yielded,Act.put,go_sem]
   .simp[execOp,Act.eval,Act.put,go_sem]
   .exact⟨KN.same _ _,k13,hg.1,by simpa [upd]using hg.2⟩
  case refine_16=>
   have hx:∃p n c,sp 14=.tuple #[.agg #[.slice p n c],.int .i64 0]/\Ag w' p n c (AA)/\AA<An (33):=(hdp 14 (mq (by kernel_rfl))).2
   (with_reducible refine Aw hx fun p hx1=>Aw hx1 fun n hx2=>Aw hx2 fun c hx3=>?_)
   have h1:=hx3.1
   (with_reducible refine Ai (w1:=w') (v:=.agg #[.slice p n c]) ?_ ?_ ?_)
   .simp[Region.wanted,yielded,Act.put,go_sem]
   .simp[execOp,Act.eval,Act.put,go_sem,h1]
   .exact⟨KN.same _ _,⟨p,n,c,rfl,hx3.2⟩,hg.1,by simpa [upd]using hg.2⟩
  case refine_17=>
   have hx:∃p n c,sp 14=.tuple #[.agg #[.slice p n c],.int .i64 0]/\Ag w' p n c (AA)/\AA<An (33):=(hdp 14 (mq (by kernel_rfl))).2
   (with_reducible refine Aw hx fun p hx1=>Aw hx1 fun n hx2=>Aw hx2 fun c hx3=>?_)
   have h1:=hx3.1
   with_reducible refine Ad ?_ ?_
   all_goals simp[Region.wanted,yielded,execOp,Act.eval,Act.put,go_sem,h1]
  case refine_18=>
   have h9:D 18=false:=hW 18 (mq (by kernel_rfl));rw[hD,h9]at hg
   (with_reducible refine Ai (w1:=w'.alloc (.cells #[.slice none 0 0] 37)) (v:=.pointer (some ⟨w'.heap.size,0,none⟩)) ?_ ?_ ?_)
   .simp[Region.wanted,yielded,Act.put,go_sem]
   .simp[execOp,go_sem]
   .have hb:Below w'.heap.size w' (w'.alloc (.cells #[.slice none 0 0] 37)):=Bq;refine⟨KN.of hb hg.1.base,trivial,hg.1.later hb,?_⟩;have h8:=hg.2.made;simpa [upd,h9]using h8
  case refine_19=>
   have hx:∃p n c,sp 15=.agg #[.slice p n c]/\Ag w' p n c (AA)/\AA<An (33):=(hdp 15 (mq (by kernel_rfl))).2
   (with_reducible refine Aw hx fun p hx1=>Aw hx1 fun n hx2=>Aw hx2 fun c hx3=>?_)
   have h1:=hx3.1;have h9:D 17=true:=(hdp 17 (mq (by kernel_rfl))).1;rw[h9]at hg
   have hp:=hg.2.put (hx3.2.1)
   (with_reducible refine Aw hp fun b hy0=>Aw hy0 fun q hy1=>Aw hy1 fun m hy2=>Aw hy2 fun k hy3=>?_)
   have h3:=hy3.1;have h6:=hy3.2.2.1.cell;have h7:=hy3.2.2.1.free
   (with_reducible refine Ap (w1:=w'.setCell ⟨b,0,none⟩ (.slice p n c)) ?_ ?_ ?_)
   .simp[Region.wanted,yielded,Act.put,go_sem]
   .simp[execOp,Act.eval,Act.put,go_sem,h1,h3,h6,h7]
   .refine⟨KN.store hy3.2.2.1 (Ee (Av _) hy3.2.1) _,trivial,hg.1.store_over hy3.2.2.1 (Av _) hy3.2.1 (fun x hx=>by cases hx) _,?_⟩;have h8:=hy3.2.2.2;simpa [upd,h9]using h8
  all_goals ((with_reducible refine Ad ?_ ?_);all_goals first|(simp only[Region.wanted];done)|simp[Region.wanted,yielded,execOp,Act.eval,Act.put,go_sem])
 .intro sp w4 hsp hg;obtain⟨hg1,_,hmk⟩:=hg;obtain⟨b11,e11,hb11,pz,nz,cz,hxz,hnz⟩:=hmk rfl;replace hnz:=hnz rfl;have hbel:=hg1.keep.bel;have hz:=HZ0.out.below hbel HZ0.out.lt;have kx:=hxz.cell;have fz:=hz.free;have k8:=hz.cell;have kz:=(hz.set (.slice pz nz cz)).cell;have HN:=Ab (Fit.of (hnz.store hz (.slice pz nz cz)) HAAb.out);have HBf:Aa (Below w.heap.size w (w4.setCell ⟨w.heap.size+1+1,0,none⟩ (.slice pz nz cz))):=⟨(Ae HB3.out hbel).setCell (show w.heap.size<=w.heap.size+1+1 by omega) _⟩
  clear hsp hg1 hmk hxz hnz hb11 hbel hz;simp only[Al,Nat.reduceAdd];rw[e11];clear e11;generalize sp 2=y2,sp 4=y4,sp 5=y5,sp 8=y8,sp 11=y11,sp 12=y12,sp 13=y13,sp 14=y14,sp 15=y15,sp 18=y18 at *
  go_simp
  go_wp2;exact bodyPost_ret (v:=.agg #[.slice pz nz cz]) (by simp[results,Tryz.results162,go_sem,kz]) rfl ⟨_,rfl,HN.out,HBf.out⟩
theorem Uo {w:World}{e n c:Nat}{p:Option Addr}{As:List Nat}(h:Aq w e p n c As)(i:Nat)(hn:n<=1000000) :
  Calls Tryz.prog 163 #[.slice p n c,.int .i64 i] w fun en w'=>∃x,en=.returned x/\Fit e (As.getD i 0) x w'/\Below w.heap.size w w':=by
 have hbx:=Af.made w (.slice none 0 0);have hbw:Below w.heap.size w (w.alloc (.cells #[.slice none 0 0] 37)):=Bq;obtain⟨wa,hwa⟩:∃x,w.alloc (.cells #[.slice none 0 0] 37)=x:=⟨_,rfl⟩
 rw[hwa]at hbx hbw
 have k1:=hbx.cell;have f1:=hbx.free;have hlen:=h.len;obtain⟨X0,hX0⟩:∃X,As.getD i 0=X:=⟨_,rfl⟩
 rw[hX0]
 by_cases hi:i<n
 .obtain⟨A,hA⟩:∃X,As[i]? = some X:=⟨As[i]'(by omega),List.getElem?_eq_getElem _⟩
  obtain⟨b,off,rfl,hb,hc⟩:=h.at_ (by omega)
  obtain⟨q,m,d,h1,h2,h3⟩:=hc i A hA;have hcell:wa.cell? ⟨b,off+i,none⟩=some (.slice q m d):=(hbw.cell (p:=⟨b,off+i,none⟩) hb).trans h1;have hg:As.getD i 0=A:=by rw[Dy,hA];rfl
  have HF:Aa (Fit e X0 (.agg #[.slice q m d]) (wa.setCell ⟨w.heap.size,0,none⟩ (.slice q m d))):=⟨by rw[<-hX0,hg];exact Fit.of ((h2.below hbw).store hbx _) h3⟩
  have HB:Aa (Below w.heap.size w (wa.setCell ⟨w.heap.size,0,none⟩ (.slice q m d))):=⟨hbw.setCell (Av _) _⟩
  have kz:(wa.setCell ⟨w.heap.size,0,none⟩ (.slice q m d)).cell? ⟨w.heap.size,0,none⟩=some (.slice q m d):=(hbx.set _).cell;have hi':(i:Int)<n:=by omega
  have hni:¬n<=i:=by omega
  clear h hc h1 h2 hb hA hg hbx hbw hX0;go_enter Tryz.func163,Tryz.ntmps163;go_wp2;exact bodyPost_ret (v:=.agg #[.slice q m d]) (by simp[results,Tryz.results163,go_sem,k1]) rfl ⟨_,rfl,HF.out,HB.out⟩
 .have hg:As.getD i 0=0:=by rw[Dy,List.getElem?_eq_none (by omega)];rfl
  have HF:Aa (Fit e X0 (.agg #[.slice none 0 0]) (wa.setCell ⟨w.heap.size,0,none⟩ (.slice none 0 0))):=⟨by rw[<-hX0,hg];exact Fit.of (Ag.nil _) (Fh e)⟩
  have HB:Aa (Below w.heap.size w (wa.setCell ⟨w.heap.size,0,none⟩ (.slice none 0 0))):=⟨hbw.setCell (Av _) _⟩
  have hi':¬(i:Int)<n:=by omega
  clear h hg hbx hbw hX0;go_enter Tryz.func163,Tryz.ntmps163;go_wp2;exact bodyPost_ret (v:=.agg #[.slice none 0 0]) (by simp[results,Tryz.results163,go_sem,k1]) rfl ⟨_,rfl,HF.out,HB.out⟩
theorem jT {w:World}{b P Q GG HH e1 e2 n c m d:Nat}{p p2:Option Addr}{As Bs:List Nat}(hG:Au w b P Q GG HH)(hA:Aq w e1 p n c As)(hB:Aq w e2 p2 m d Bs)(h1:e1<=200)(h2:e2<=200)(hn:n<=1000)(hm:m<=1000) :
  Calls Tryz.prog 103 #[.pointer (some ⟨b,0,none⟩),.slice p n c,.slice p2 m d] w fun en w'=>en=.returned (.slice (some ⟨w.heap.size,0,none⟩) (max n m) (max n m))/\Aq w' 33 (some ⟨w.heap.size,0,none⟩) (max n m) (max n m) (Cw P Q GG HH As Bs)/\Below w.heap.size w w':=by
 have HLA:=Ab hA.len;have HLB:=Ab hB.len;have HA:=Ab hA;have HB:=Ab hB;have HG:=Ab hG;obtain⟨L,hL⟩:∃L,max n m=L:=⟨_,rfl⟩
 have HLL:Aa ((Cw P Q GG HH As Bs).length=L):=⟨by rw[Wi,<-HLA.out,<-HLB.out,hL]⟩
 have hL1:L<=1000:=by omega
 rw[hL];have hmk:=fun w=>Nf L (by omega) w
 obtain⟨w0,hw0⟩:∃w0,w.alloc (.cells (madeCells #[.slice none 0 0] L) 37)=w0:=⟨_,rfl⟩
 have hb0:Below w.heap.size w w0:=by rw[<-hw0];exact(Ba _ _).alloc (Av _) _
 have HS0:Aa (Dh w0 w.heap.size (List.replicate L (none,0,0))):=⟨by rw[<-hw0];exact Dh.made w L⟩
 have HB0:=Ab hb0;clear hG hA hB hb0;have main:max (n:Int) (m:Int)=(L:Int):=by omega
 have hcase:((m:Int)=L/\(n:Int)<L/\(n:Int)<=L/\¬(L:Int)<n/\¬(L:Int)<=n/\max (n:Int) (L:Int)=L) ∨ ((n:Int)=L/\(m:Int)<=L/\¬(L:Int)<m/\max (L:Int) (m:Int)=L/\((L:Int)<=m ↔ m=L)/\((m:Int)<L ↔ m<L)):=by omega
 rcases hcase with ⟨hx1,hx2,hx3,hx4,hx5,hx6⟩|⟨hx1,hx2,hx3,hx4,hx5,hx6⟩
 all_goals
  go_enter Tryz.func103,Tryz.ntmps103;go_wp2;clear hx1 hx2 hx3 hx4 hx5 hx6
  go_loopw [8,19] (fun _ iv wr=>∃(k:Nat) (us:List (Option Addr×Nat×Nat)),k<=L/\iv=.int .i64 k/\us.length=L/\Aa (Dh wr w.heap.size us)/\Aa (Qq wr 33 us (Cw P Q GG HH As Bs) k)/\Aa (Below w.heap.size w wr)) (fun _ iv _=>L-(intOf iv).toNat)
  case atStart=>exact⟨0,List.replicate L (none,0,0),by omega,rfl,by simp,HS0,⟨fun j N hj=>by omega⟩,HB0⟩
  case round=>
   obtain⟨k,us,hk,rfl,hus,HSr,HVr,HBr⟩:=hrel
   by_cases hkn:k<L
   .have HUK:Aa (us[k]? = some (us[k]'(by omega))):=⟨List.getElem?_eq_getElem _⟩
    have HNk:Aa ((Cw P Q GG HH As Bs)[k]? = some (Fz P Q GG HH (As.getD k 0) (Bs.getD k 0))):=⟨fL P Q GG HH As Bs k (by rw[<-HLA.out,<-HLB.out,hL];exact hkn)⟩
    have hkn':(k:Int)<L:=by omega
    have hnk:¬L<=k:=by omega
    clear hmk
    go_wp2_with fail
    refine(Uo (HA.out.below HBr.out) k (by omega)).mono ?_;rintro en w1 ⟨x1,rfl,f1,b1⟩;have F1:=Ab f1;have B1:=Ab (Ae HBr.out b1);have S1:=Ab (HSr.out.below b1 HSr.out.lt);have V1:=Ab (HVr.out.keep (B:=w.heap.size) (Am.of b1 HBr.out.size));clear f1 b1
    go_wp2_with fail
    refine(Uo (HB.out.below B1.out) k (by omega)).mono ?_;rintro en w2 ⟨x2,rfl,f2,b2⟩;have F2:=Ab f2;have F1':=Ab (F1.out.below b2);have B2:=Ab (Ae B1.out b2);have S2:=Ab (S1.out.below b2 S1.out.lt);have V2:=Ab (V1.out.keep (B:=w.heap.size) (Am.of b2 B1.out.size));clear f2 b2
    go_wp2_with fail
    refine(Yw (HG.out.below B2.out) F1'.out F2.out (by omega) (by omega)).mono ?_;rintro en w3 ⟨_,rfl,⟨pz,nz,cz,rfl,z1,z2⟩,b3⟩;have hs1:=S2.out.below b3 S2.out.lt;have c1:=hs1.cell HUK.out;have f1:=hs1.free k;have HS8:=Ab (hs1.set k pz nz cz);have HV8:=Ab (((V2.out.keep (Am.of (B:=w.heap.size) b3 B2.out.size)).keep (Am.store_row hs1 (Av _) k (.slice pz nz cz))).step (by omega) HNk.out (hs1.nat z1 k _) z2);have HB8:Aa (Below w.heap.size w (w3.setCell ⟨w.heap.size,k,none⟩ (.slice pz nz cz))):=⟨(Ae B2.out b3).setCell (Av _) _⟩
    have HLEN:Aa ((us.set k (pz,nz,cz)).length=L):=⟨by rw[List.length_set];exact hus⟩
    clear z1 b3 hs1;go_wp2;go_roundw
    case rel=>exact⟨k+1,us.set k (pz,nz,cz),by omega,by go_num,HLEN.out,HS8,HV8,HB8⟩
    case measure=>simp[intOf];omega
   .obtain rfl:k=L:=by omega
    have hkn':¬(k:Int)<k:=by omega
    have HPL:=Ab (HVr.out.plist HSr.out HLL.out (by omega));clear hmk;go_wp2;go_ret;exact⟨rfl,HPL.out,HBr.out⟩
theorem mB {w:World}{b P Q GG HH e1 e2 n c m d:Nat}{p p2:Option Addr}{As Bs:List Nat}(hG:Au w b P Q GG HH)(hA:Aq w e1 p n c As)(hB:Aq w e2 p2 m d Bs)(h1:e1<=200)(h2:e2<=200)(hn:n<=1000)(hm:m<=1000) :
  Calls Tryz.prog 103 #[.pointer (some ⟨b,0,none⟩),.slice p n c,.slice p2 m d] w fun en w'=>∃u,en=.returned u/\pR (max n m) (Cw P Q GG HH As Bs) u w'/\Below w.heap.size w w':=by
 refine(jT hG hA hB h1 h2 hn hm).mono ?_;rintro en w9 ⟨rfl,h,hb⟩;exact⟨_,rfl,⟨_,rfl,h⟩,hb⟩
end Go.Proofs.YtokhckjemidbpaaGreatDoor
