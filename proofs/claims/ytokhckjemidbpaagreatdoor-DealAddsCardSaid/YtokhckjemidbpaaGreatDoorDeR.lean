/- Rows of pieces: a peer, and two numbers, in a row of the call's own; what they are. -/
import Derived.Test.YtokhckjemidbpaaGreatDoorCuN
set_option maxRecDepth 1000000
set_option maxHeartbeats 16000000
set_option linter.all false
namespace Go.Proofs.YtokhckjemidbpaaGreatDoor
theorem Zy (q x:Nat):∀l,Tt x l%q=Be q x l%q
 | []=>rfl
 | c::l=>by
  show (c+x*Tt x l)%q=(c+Be q x l*x%q)%q%q;rw[Nat.mod_mod,Nat.add_mod_mod,Nat.mul_comm x,<-Nat.add_mod_mod,Nat.mul_mod,Zy q x l,<-Nat.mul_mod,Nat.add_mod_mod]
theorem oC {P x:Nat}(hP:2<=P):∀l,Md P x l<P
 | []=>by show 1<P;omega
 | c::l=>Nat.mod_lt _ (by omega)
theorem Jl {q X:Nat}(hq:2<=q)(p r:List Nat):Be q X (Dc q p r)=(Be q X p+Be q X r)%q:=by
 have h1:=Hp (x:=X) hq (Dc q p r);have h2:=(Hp (x:=X) hq p).add (Hp (x:=X) hq r);exact h1.uniq h2 (oO (by omega) X p r)
open Go Go.RowKit Go.Proofs.YtokhckjemidbpaaGreatDoor.Flow
theorem iA {w:World}{b P Q G H e ex n c X N:Nat}{p:Option Addr}{As:List Nat}{v:Value}(hG:Au w b P Q G H)(hA:Aq w e p n c As)(hX:Fit ex X v w)(he:e<=200)(hex:ex<=200)(hn:n<=1000000)(hN:Md P (X%Q) As=N) :
  Calls Tryz.prog 233 #[.pointer (some ⟨b,0,none⟩),.slice p n c,v] w fun en w'=>∃x,en=.returned x/\Fit 33 N x w'/\Below w.heap.size w w':=by
 subst hN;exact aJ hG hA hX he hex hn
theorem Vl {w:World}{r q e ex n c X N:Nat}{p:Option Addr}{As:List Nat}{v:Value}(hR:Ring w r q 33)(hA:Aq w e p n c As)(hX:Fit ex X v w)(he:e<=200)(hex:ex<=200)(hn:n<=1000000)(hN:Be q X As=N) :
  Calls Tryz.prog 102 #[.pointer (some ⟨r,0,none⟩),.slice p n c,v] w fun en w'=>∃x,en=.returned x/\Fit 33 N x w'/\Below w.heap.size w w':=by
 subst hN;exact lF hR hA hX he hex hn
def Du (P Q G H s r:Nat):Nat:=G^(s%Q)%P*(H^(r%Q)%P)%P
theorem cM (P Q G H s r:Nat):Kl P 1 ([G,H].zip [s%Q,r%Q])=Du P Q G H s r:=by
 show 1*(G^(s%Q)%P)%P*(H^(r%Q)%P)%P=G^(s%Q)%P*(H^(r%Q)%P)%P;rw[Nat.one_mul,Nat.mod_mod]
theorem Wr {P Q G H s r:Nat}(hP:0<P):Du P Q G H s r<P:=Nat.mod_lt _ hP
theorem Zd {P Q G H:Nat}(hG:G^Q%P=1%P)(hH:H^Q%P=1%P)(s r:Nat):Du P Q G H s r=G^s%P*(H^r%P)%P:=by
 unfold Du;rw[<-Lp hG,<-Lp hH]
theorem Il {P Q G H:Nat}(hG:G^Q%P=1%P)(hH:H^Q%P=1%P)(s r:Nat):Du P Q G H s r=G^s*H^r%P:=by rw[Zd hG hH,<-Nat.mul_mod]
theorem Sc {P Q G H s r s' r':Nat}(hs:s%Q=s'%Q)(hr:r%Q=r'%Q):Du P Q G H s r=Du P Q G H s' r':=by
 unfold Du;rw[hs,hr]
theorem fR {P Q G H:Nat}(s:Nat):Du P Q G H s 0=G^(s%Q)%P:=by
 unfold Du;rw[Nat.zero_mod,Nat.pow_zero,<-Nat.mul_mod,Nat.mul_one]
theorem fS {P Q G H:Nat}(hP:2<=P):Du P Q G H 0 0=1:=by
 rw[fR,Nat.zero_mod,Nat.pow_zero,Nat.mod_eq_of_lt (by omega)]
theorem jX {P Q G H:Nat}(hG:G^Q%P=1%P)(hH:H^Q%P=1%P)(a b c d:Nat):Du P Q G H a b*Du P Q G H c d%P=Du P Q G H ((a+c)%Q) ((b+d)%Q):=by
 rw[Sc (s:=(a+c)%Q) (s':=a+c) (r:=(b+d)%Q) (r':=b+d) (Nat.mod_mod _ _) (Nat.mod_mod _ _),Il hG hH,Il hG hH,Il hG hH,<-Nat.mul_mod,Nat.pow_add,Nat.pow_add]
 congr 1
 generalize G^a=A;generalize H^b=B;generalize G^c=C;generalize H^d=D
 ac_rfl
def Qv (n:Nat)(l:List Nat):List Nat:=l++List.replicate (n-l.length) 0
theorem Ho {n:Nat}{l:List Nat}(h:l.length<=n):(Qv n l).length=n:=by simp[Qv];omega
theorem Zg {n i:Nat}{l:List Nat}(h:i<n):(Qv n l)[i]? = some (l.getD i 0):=by
 unfold Qv
 by_cases hi:i<l.length
 .rw[List.getElem?_append_left hi,Dn,List.getElem?_eq_getElem hi];rfl
 .rw[List.getElem?_append_right (by omega),List.getElem?_replicate,if_pos (by omega),Dn,List.getElem?_eq_none (by omega)];rfl
def Bj (P Q G H:Nat)(xs bs:List Nat):List Nat:=((Qv (max xs.length bs.length) xs).zip (Qv (max xs.length bs.length) bs)).map fun p=>Du P Q G H p.1 p.2
theorem Ek (P Q G H:Nat)(xs bs:List Nat):(Bj P Q G H xs bs).length=max xs.length bs.length:=by
 unfold Bj;rw[List.length_map,List.length_zip,Ho (by omega),Ho (by omega),Nat.min_self]
theorem Lq (P Q G H:Nat)(xs bs:List Nat)(i:Nat)(h:i<max xs.length bs.length):(Bj P Q G H xs bs)[i]? = some (Du P Q G H (xs.getD i 0) (bs.getD i 0)):=by
 unfold Bj;rw[List.getElem?_map,List.getElem?_zip_eq_some.2 (show _=some ((xs.getD i 0,bs.getD i 0):Nat×Nat).1/\_=some ((xs.getD i 0,bs.getD i 0):Nat×Nat).2 from ⟨Zg h,Zg h⟩)];rfl
theorem jW {P Q G H x:Nat}(hG:G^Q%P=1%P)(hH:H^Q%P=1%P):∀l:List (Nat×Nat),
  Md P x (l.map fun p=>Du P Q G H p.1 p.2)%P=G^Tt x (l.map (·.1))%P*(H^Tt x (l.map (·.2))%P)%P
 | []=>by
  show 1%P=1%P*(1%P)%P;rw[<-Nat.mul_mod]
 | (a,b)::l=>by
  have ih:=jW hG hH (x:=x) l;obtain⟨E,hE⟩:∃E,Md P x (l.map fun p=>Du P Q G H p.1 p.2)=E:=⟨_,rfl⟩
  obtain⟨h1,e1⟩:∃E,Tt x (l.map (·.1))=E:=⟨_,rfl⟩
  obtain⟨h2,e2⟩:∃E,Tt x (l.map (·.2))=E:=⟨_,rfl⟩
  rw[hE,e1,e2]at ih
  show Md P x (l.map fun p=>Du P Q G H p.1 p.2)^x%P*Du P Q G H a b%P%P=G^(a+x*Tt x (l.map (·.1)))%P*(H^(b+x*Tt x (l.map (·.2)))%P)%P;rw[hE,e1,e2];have e:E^x%P=(G^h1*H^h2)^x%P:=by rw[Nat.pow_mod,ih,<-Nat.mul_mod,<-Nat.pow_mod]
  rw[Nat.mod_mod,e,Il hG hH,<-Nat.mul_mod,<-Nat.mul_mod,Nat.mul_pow,<-Nat.pow_mul,<-Nat.pow_mul,Nat.pow_add,Nat.pow_add,Nat.mul_comm h1 x,Nat.mul_comm h2 x]
  congr 1
  generalize G^a=A;generalize H^b=B;generalize G^(x*h1)=C;generalize H^(x*h2)=D
  ac_rfl
theorem zip_fst {xs bs:List Nat}(h:xs.length=bs.length):(xs.zip bs).map (·.1)=xs:=List.map_fst_zip (by omega)
theorem nA {xs bs:List Nat}(h:xs.length=bs.length):(xs.zip bs).map (·.2)=bs:=List.map_snd_zip (by omega)
theorem Uw {P Q G H X:Nat}(hP:2<=P)(hQ:2<=Q)(hG:G^Q%P=1%P)(hH:H^Q%P=1%P)(xs bs:List Nat) :
  Md P (X%Q) (Bj P Q G H xs bs)=Du P Q G H (Be Q X xs) (Be Q X bs):=by
 have h1:=jW hG hH (x:=X%Q) ((Qv (max xs.length bs.length) xs).zip (Qv (max xs.length bs.length) bs));have hl:(Qv (max xs.length bs.length) xs).length=(Qv (max xs.length bs.length) bs).length:=by rw[Ho (by omega),Ho (by omega)]
 rw[zip_fst hl,nA hl,Nat.mod_eq_of_lt (oC hP _)]at h1
 unfold Bj;rw[h1,Zd hG hH];have hx:∀l n,Tt (X%Q) (Qv n l)%Q=Be Q X l%Q:=fun l n=>by
  rw[Zy,Sk];unfold Qv;rw[Xf hQ]
 rw[Uv hG (hx xs _),Uv hH (hx bs _)]
def Bd (P:Nat):List Nat->List Nat->List Nat
 | acc,[]=>acc
 | [],a::row=>1*a%P::Bd P [] row
 | c::acc,a::row=>c*a%P::Bd P acc row
theorem Jj (P:Nat)(acc:List Nat):Bd P acc []=acc:=by cases acc<;>rfl
theorem De (P:Nat):∀row acc,(Bd P acc row).length=max acc.length row.length
 | [],acc=>by rw[Jj];simp
 | a::row,[]=>by simp[Bd,De P row]
 | a::row,c::acc=>by simp only[Bd,List.length_cons,De P row];omega
theorem Lv (P:Nat):∀(row acc:List Nat) (i:Nat),i<row.length->(Bd P acc row)[i]? = some (acc.getD i 1*row.getD i 0%P)
 | [],_,_,h=>by simp at h
 | a::row,[],0,_=>by simp[Bd]
 | a::row,[],i+1,h=>by
  have:=Lv P row [] i (by simpa using h);simpa [Bd]using this
 | a::row,c::acc,0,_=>by simp[Bd]
 | a::row,c::acc,i+1,h=>by
  have:=Lv P row acc i (by simpa using h);simpa [Bd]using this
theorem Gg (P:Nat):∀(row acc:List Nat) (i:Nat),row.length<=i->(Bd P acc row)[i]? = acc[i]?
 | [],acc,i,_=>by rw[Jj]
 | a::row,[],i+1,h=>by
  have:=Gg P row [] i (by simpa using h);simpa [Bd]using this
 | a::row,c::acc,i+1,h=>by
  have:=Gg P row acc i (by simpa using h);simpa [Bd]using this
theorem Mr (P:Nat):∀(row acc:List Nat) (i a:Nat),acc.length<=i->row[i]? = some a->Bd P acc (row.take (i+1))=Bd P acc (row.take i)++[1*a%P]
 | [],_,_,_,_,h=>by simp at h
 | b::row,[],0,a,_,h=>by
  simp at h;subst h;simp[Bd]
 | b::row,[],i+1,a,_,h=>by
  have:=Mr P row [] i a (by simp) (by simpa using h);simpa [Bd]using this
 | b::row,c::acc,0,a,hl,h=>by simp at hl
 | b::row,c::acc,i+1,a,hl,h=>by
  have:=Mr P row acc i a (by simpa using hl) (by simpa using h);simpa [Bd]using this
theorem Sh (P:Nat):∀(row acc:List Nat) (i a c:Nat),acc[i]? = some c->row[i]? = some a->Bd P acc (row.take (i+1))=(Bd P acc (row.take i)).set i (c*a%P)
 | [],_,_,_,_,_,h=>by simp at h
 | b::row,[],i,a,c,hl,h=>by simp at hl
 | b::row,d::acc,0,a,c,hl,h=>by
  simp at h hl;subst h hl;simp[Bd,Jj]
 | b::row,d::acc,i+1,a,c,hl,h=>by
  have:=Sh P row acc i a c (by simpa using hl) (by simpa using h);simpa [Bd]using this
def El (P:Nat):List (List Nat)->List Nat->List Nat
 | [],acc=>acc
 | row::l,acc=>El P l (Bd P acc row)
theorem Nq (P:Nat):∀(l:List (List Nat)) (acc row:List Nat),El P (l++[row]) acc=Bd P (El P l acc) row
 | [],_,_=>rfl
 | _::l,_,_=>Nq P l _ _
theorem cN {P Q G H:Nat}(hP:2<=P)(hG:G^Q%P=1%P)(hH:H^Q%P=1%P)(xs bs cs ds:List Nat) :
  El P [Bj P Q G H xs bs,Bj P Q G H cs ds] []=Bj P Q G H (Dc Q xs cs) (Dc Q bs ds):=by
 show Bd P (Bd P [] (Bj P Q G H xs bs)) (Bj P Q G H cs ds)=_;have hl1:=Ek P Q G H xs bs;have hl2:=Ek P Q G H cs ds;have hl3:=Ek P Q G H (Dc Q xs cs) (Dc Q bs ds);rw[Do,Do]at hl3
 have hA:∀i,((Bd P [] (Bj P Q G H xs bs)).getD i 1)=Du P Q G H (xs.getD i 0) (bs.getD i 0):=fun i=>by
  by_cases hi:i<max xs.length bs.length
  .rw[Dn,Lv P _ [] i (by rw[hl1];exact hi),Dn (l:=Bj P Q G H xs bs),Lq P Q G H xs bs i hi];show 1*Du P Q G H (xs.getD i 0) (bs.getD i 0)%P=_;rw[Nat.one_mul,Nat.mod_eq_of_lt (Wr (by omega))]
  .rw[Dn,Gg P _ [] i (by rw[hl1];omega),Dn (l:=xs),List.getElem?_eq_none (show xs.length<=i by omega),Dn (l:=bs),List.getElem?_eq_none (show bs.length<=i by omega)];show 1=Du P Q G H 0 0;rw[fS hP]
 have hadd:∀(p r:List Nat) (i:Nat),(Dc Q p r).getD i 0=(p.getD i 0+r.getD i 0)%Q:=fun p r i=>by
  by_cases hi:i<max p.length r.length
  .rw[Dn,mH Q p r i hi];rfl
  .rw[Dn,List.getElem?_eq_none (by rw[Do];omega),Dn (l:=p),List.getElem?_eq_none (show p.length<=i by omega),Dn (l:=r),List.getElem?_eq_none (show r.length<=i by omega)];exact(Nat.zero_mod _).symm
 refine List.ext_getElem? fun i=>?_
 by_cases hi:i<max (max xs.length cs.length) (max bs.length ds.length)
 .rw[Lq P Q G H _ _ i (by rw[Do,Do];exact hi),hadd,hadd]
  by_cases h2:i<max cs.length ds.length
  .rw[Lv P _ _ i (by rw[hl2];exact h2),hA,Dn (l:=Bj P Q G H cs ds),Lq P Q G H cs ds i h2];show some (Du P Q G H (xs.getD i 0) (bs.getD i 0)*Du P Q G H (cs.getD i 0) (ds.getD i 0)%P)=_;rw[jX hG hH]
  .have k:=hA i;rw[Gg P _ _ i (by rw[hl2];omega)];have hlt:i<(Bd P [] (Bj P Q G H xs bs)).length:=by rw[De,hl1];simp;omega
   rw[Dn,List.getElem?_eq_getElem hlt]at k
   rw[List.getElem?_eq_getElem hlt];rw[show (Bd P [] (Bj P Q G H xs bs))[i]=Du P Q G H (xs.getD i 0) (bs.getD i 0) from k,Dn (l:=cs),List.getElem?_eq_none (show cs.length<=i by omega),Dn (l:=ds),List.getElem?_eq_none (show ds.length<=i by omega)];refine congrArg some (Sc ?_ ?_)
   .show _=(xs.getD i 0+0)%Q%Q;rw[Nat.mod_mod,Nat.add_zero]
   .show _=(bs.getD i 0+0)%Q%Q;rw[Nat.mod_mod,Nat.add_zero]
 .rw[List.getElem?_eq_none (by rw[De,De,hl1,hl2];simp;omega),List.getElem?_eq_none (by rw[hl3];omega)]
def Fv (Q a:Nat)(ds:List Nat):List Nat:=(a::ds).map fun c=>c%Q
theorem Fd (Q a:Nat)(ds:List Nat):(Fv Q a ds).length=ds.length+1:=by simp[Fv]
theorem Eu {Q x:Nat}(hQ:2<=Q)(l:List Nat):Be Q x l<Q:=(Hp (x:=x) hQ l).lt
theorem Pc {Q:Nat}(hQ:2<=Q)(a:Nat)(ds:List Nat):Be Q 0 (Fv Q a ds)=a%Q:=by
 refine(Hp (x:=0) hQ _).uniq (Is.of (by omega) a) ?_;have h:=dO (q:=Q) (by omega) 0 (a::ds);have e:ev (ints (a::ds)) 0=(a:Int):=by
  show (a:Int)+0*ev (ints ds) 0=a;omega
 rw[e]at h
 exact h
variable {α:Type}
def Hl (f:Nat->Option α)(t k:Nat):List α:=((List.range k).filterMap fun i=>f (i+1)).take t
theorem iE (f:Nat->Option α)(t:Nat):Hl f t 0=[]:=by simp[Hl]
theorem iF {f:Nat->Option α}{t k:Nat}{x:α}(h:(Hl f t k).length<t)(hx:f (k+1)=some x):Hl f t (k+1)=Hl f t k++[x]:=by
 unfold Hl at *;rw[List.length_take]at h
 have hl:((List.range k).filterMap fun i=>f (i+1)).length<t:=by omega
 rw[List.range_succ,List.filterMap_append,List.take_append,List.take_of_length_le (Nat.le_of_lt hl)];have e:[k].filterMap (fun i=>f (i+1))=[x]:=by simp[hx]
 rw[e,List.take_of_length_le (by simp;omega)]
theorem iG {f:Nat->Option α}{t k:Nat}(hx:f (k+1)=none):Hl f t (k+1)=Hl f t k:=by
 unfold Hl;rw[List.range_succ,List.filterMap_append];simp[hx]
theorem iH {f:Nat->Option α}{t k:Nat}(h:¬(Hl f t k).length<t):Hl f t (k+1)=Hl f t k:=by
 unfold Hl at *;rw[List.length_take]at h
 rw[List.range_succ,List.filterMap_append,List.take_append,show t-((List.range k).filterMap fun i=>f (i+1)).length=0 by omega,List.take_zero,List.append_nil]
theorem Vr {f:Nat->Option α}{t k:Nat}(h:¬(Hl f t k).length<t):∀m,k<=m->Hl f t m=Hl f t k
 | 0,hm=>by rw[show k=0 by omega]
 | m+1,hm=>by
  by_cases e:k=m+1
  .rw[e]
  .have ih:=Vr h m (by omega);rw[iH (by rw[ih];exact h),ih]
theorem Sx {f:Nat->Option α}{t k:Nat}{x:α}(h:x∈Hl f t k):∃i,i<k/\f (i+1)=some x:=by
 have h1:=List.mem_of_mem_take h;obtain⟨i,hi,he⟩:=List.mem_filterMap.1 h1;exact⟨i,List.mem_range.1 hi,he⟩
theorem Vs {f:Nat->Option α}{g:α->Nat}(hg:∀j x,f j=some x->g x=j)(t:Nat):∀k,(((List.range k).filterMap fun i=>f (i+1)).map g).Pairwise (· < ·)
 | 0=>List.Pairwise.nil
 | k+1=>by
  rw[List.range_succ,List.filterMap_append,List.map_append,List.pairwise_append];refine⟨Vs hg t k,?_,?_⟩
  .cases hx:f (k+1) with
   | none=>simp[hx]
   | some x=>simp[hx]
  .intro a ha b hb;obtain⟨x,hx,rfl⟩:=List.mem_map.1 ha;obtain⟨i,hi,he⟩:=List.mem_filterMap.1 hx;obtain⟨y,hy,rfl⟩:=List.mem_map.1 hb;obtain⟨j,hj,hf⟩:=List.mem_filterMap.1 hy;rw[List.mem_singleton.1 hj]at hf
   rw[hg _ _ he,hg _ _ hf];have:=List.mem_range.1 hi;omega
theorem dV {f:Nat->Option α}{g:α->Nat}(hg:∀j x,f j=some x->g x=j)(t k:Nat):((Hl f t k).map g).Nodup:=by
 unfold Hl;rw[List.map_take];exact List.Pairwise.imp (fun h=>Nat.ne_of_lt h) ((Vs hg t k).sublist (List.take_sublist _ _))
theorem Vt {f:Nat->Option α}{a b:Nat}(hb:0<b):∀(n k:Nat),(∀i,i<n->∃x,f (a+1+i*b)=some x)->(∀i,i<n->a+1+i*b<=k)->n<=((List.range k).filterMap fun i=>f (i+1)).length
 | 0,_,_,_=>Nat.zero_le _
 | n+1,k,hf,hk=>by
  have hk1:=hk n (by omega);have ih:=Vt hb n (a+n*b) (fun i hi=>hf i (by omega)) (fun i hi=>by
   have:(i+1)*b<=n*b:=Nat.mul_le_mul_right b (by omega);rw[Nat.succ_mul]at this
   omega)
  obtain⟨x,hx⟩:=hf n (by omega);obtain⟨d,rfl⟩:∃d,k=a+n*b+1+d:=⟨k-(a+n*b+1),by omega⟩
  rw[List.range_add,List.filterMap_append,List.length_append,List.range_succ,List.filterMap_append,List.length_append];have e:a+1+n*b=a+n*b+1:=by omega
  rw[e]at hx
  have:([a+n*b].filterMap fun i=>f (i+1)).length=1:=by simp[hx]
  omega
theorem aX {f:Nat->Option α}{a b t k:Nat}(hb:0<b)(hf:∀i,i<t->∃x,f (a+1+i*b)=some x)(hk:∀i,i<t->a+1+i*b<=k):(Hl f t k).length=t:=by
 have:=Vt hb t k hf hk;unfold Hl;rw[List.length_take];omega
abbrev Fi:=Int×Nat×Nat
def Pb (P Q G H:Nat)(cs:List Nat)(j:Nat)(p:Fi):Bool:=decide (p.1=(j:Int))&&(decide (p.2.1<Q)&&(decide (p.2.2<Q)&&decide (Du P Q G H p.2.1 p.2.2=Md P (j%Q) cs)))
def Pj (P Q G H:Nat)(cs:List Nat)(l:List Fi)(j:Nat):Option Fi:=l.find? (Pb P Q G H cs j)
theorem Kw {P Q G H:Nat}{cs:List Nat}{l:List Fi}{j:Nat}{p:Fi}(h:Pj P Q G H cs l j=some p):p∈l/\p.1=(j:Int)/\p.2.1<Q/\p.2.2<Q/\Du P Q G H p.2.1 p.2.2=Md P (j%Q) cs:=by
 have h1:=List.find?_some h;unfold Pb at h1;simp only[Bool.and_eq_true,decide_eq_true_eq]at h1;exact⟨List.mem_of_find?_eq_some h,h1⟩
theorem Nz {P Q G H:Nat}{cs:List Nat}{l:List Fi}(j:Nat)(p:Fi)(h:Pj P Q G H cs l j=some p):p.1.toNat=j:=by rw[(Kw h).2.1];rfl
def Cg (P Q G H t:Nat)(cs:List Nat)(l:List Fi)(k:Nat):List Fi:=Hl (Pj P Q G H cs l) t k
theorem Ml {P Q G H t k:Nat}{cs:List Nat}{l:List Fi}(hk:k<Q):Fc Q (ints ((Cg P Q G H t cs l k).map fun p=>p.1.toNat)):=by
 rw[Ha];have h:=dV (f:=Pj P Q G H cs l) (g:=fun p=>p.1.toNat) Nz t k;have e:((Cg P Q G H t cs l k).map fun p=>p.1.toNat).map (fun x=>x%Q)=(Cg P Q G H t cs l k).map fun p=>p.1.toNat:=by
  rw[List.map_map];refine List.map_congr_left fun p hp=>?_
  obtain⟨i,hi,he⟩:=Sx hp;have:=Nz _ _ he;show p.1.toNat%Q=p.1.toNat;rw[Nat.mod_eq_of_lt (by omega)]
 rw[e];exact h
noncomputable def Px (Q X:Nat) (f:Fi->Nat) (l:List Fi):Nat:=Kb Q X [] (l.map fun p=>p.1.toNat) (l.map f) 0
theorem fE {P Q G H t k:Nat}{cs:List Nat}{l:List Fi}{f:Fi->Nat}{ps:List Nat}(hQ:Bl Q)(hk:k<Q)(hf:∀p∈Cg P Q G H t cs l k,f p=Be Q p.1.toNat ps)(hl:ps.length<=(Cg P Q G H t cs l k).length)(X:Nat) :
  Px Q X f (Cg P Q G H t cs l k)=Be Q X ps:=by
 unfold Px;have e:(Cg P Q G H t cs l k).map f=((Cg P Q G H t cs l k).map fun p=>p.1.toNat).map fun a=>Be Q a ps:=by
  rw[List.map_map];exact List.map_congr_left fun p hp=>hf p hp
 rw[e];exact Zt hQ (Ml hk) (by rw[List.length_map];exact hl) X
structure Fz (F:Fi->Option Addr×Nat×Nat->Option Addr×Nat×Nat->World->Prop) (e:TypeId) (B:Nat) (bad:Nat->Prop) (w:World) (v:Value) (l:List Fi):Prop where
 ex:∃vs:List Value,w.ownsRow B e 3 v l.length vs/\vs.length=l.length*3/\∀(i:Nat) (s:Fi),l[i]? = some s->∃x y:Option Addr×Nat×Nat,
  vs[i*3]? = some (.int .i64 s.1)/\vs[i*3+1]? = some (.slice x.1 x.2.1 x.2.2)/\vs[i*3+2]? = some (.slice y.1 y.2.1 y.2.2)/\Gk (F s x y) bad w
section
variable {F:Fi->Option Addr×Nat×Nat->Option Addr×Nat×Nat->World->Prop} {e:TypeId} {B:Nat} {bad:Nat->Prop} {w:World} {v:Value} {l:List Fi}
theorem Fz.nil:Fz F e B bad w (.slice none 0 0) []:=⟨[],World.ownsRow_nil w B e 3,rfl,fun i s h=>by simp at h⟩
theorem Fz.block (h:Fz F e B bad w v l):∀g,v.ownBlock=some g->B<=g/\g<w.heap.size:=by obtain⟨_,h1,_⟩:=h.ex;exact Hx h1
theorem Fz.ty (h:Fz F e B bad w v l):∀g,v.ownBlock=some g->∃cur,w.heap[g]? = some (.cells cur e (0,0)):=by
 obtain⟨_,h1,_⟩:=h.ex;intro g hg;rcases h1.2 with ⟨rfl,_⟩|⟨g',cap,cur,rfl,_,hg',_⟩
 .cases hg
 .obtain rfl:g'=g:=by simpa [Value.ownBlock]using hg
  exact⟨cur,hg'⟩
theorem Fz.step {w':World}(h:Fz F e B bad w v l)(a:Agree bad w w')(hk:∀g,v.ownBlock=some g->w'.heap[g]? = w.heap[g]?):Fz F e B bad w' v l:=by
 obtain⟨vs,h1,h2,h3⟩:=h.ex;refine⟨vs,Jh h1 hk,h2,fun i N hN=>?_⟩;obtain⟨x,y,k1,k2,k3,k4⟩:=h3 i N hN;exact⟨x,y,k1,k2,k3,k4.step a⟩
theorem Fz.below {w':World}(h:Fz F e B bad w v l)(hb:Below w.heap.size w w'):Fz F e B bad w' v l:=h.step (.of hb) fun g hg=>hb.block g (h.block g hg).2
theorem Fz.more {bad':Nat->Prop}(h:Fz F e B bad w v l)(hb:∀b,b<w.heap.size->bad' b->bad b):Fz F e B bad' w v l:=by
 obtain⟨vs,h1,h2,h3⟩:=h.ex;refine⟨vs,h1,h2,fun i N hN=>?_⟩;obtain⟨x,y,k1,k2,k3,k4⟩:=h3 i N hN;exact⟨x,y,k1,k2,k3,k4.more hb⟩
theorem Fz.app {st:TypeId}{bytes:Nat}{i:TypeInfo}(hu:Tryz.prog.underlying st=some (.slice e))(hi:Tryz.prog.info? e=some i){z0:Value}(hz:i.zero=some z0)(hs:i.size=3)(hb:i.bytes=bytes)(hzs:z0.cells.size=3)(hby:bytes<=1000)(h:Fz F e B bad w v l)(hB:B<=w.heap.size){g c:Nat}{s:Fi}{x y:Option Addr×Nat×Nat}(hc0:w.cell? ⟨g,0,none⟩=some (.int .i64 s.1))(hc1:w.cell? ⟨g,1,none⟩=some (.slice x.1 x.2.1 x.2.2))(hc2:w.cell? ⟨g,2,none⟩=some (.slice y.1 y.2.1 y.2.2))(hN:Gk (F s x y) bad w)(hv:∀g,v.ownBlock=some g->bad g)(hl:l.length<=1000000)(ty:TypeId) :
  ∃v' w',(Builtin.append_ #[st,st] ty #[v,.slice (some ⟨g,0,none⟩) 1 c]).run Tryz.prog w=.ok v' w'/\Fz F e B bad w' v' (l++[s])/\w.grownBy w' v.ownBlock/\Po w v v':=by
 obtain⟨vs,h1,h2,h3⟩:=h.ex;obtain⟨v',w',k1,k2,k3,k4⟩:=Ry hu hi hz hs hb hzs (by decide) h1 (a:=⟨g,0,none⟩) (m:=1) (c:=c) (news:=[.int .i64 s.1,.slice x.1 x.2.1 x.2.2,.slice y.1 y.2.1 y.2.2]) rfl
  (fun j u hj=>by
   match j,hj with
   | 0,hj=>simp at hj;subst hj;exact hc0
   | 1,hj=>simp at hj;subst hj;exact hc1
   | 2,hj=>simp at hj;subst hj;exact hc2
   | j+3,hj=>simp at hj)
  (fun u hj=>by simp at hj;rcases hj with rfl|rfl|rfl<;>rfl) (by simp only[maxLen];omega) (Er (Nat.mul_le_mul (Nat.add_le_add_right hl 1) hby) (by decide)) hB ty
 have ag:Agree bad w w':=.grown k3 hv;refine⟨v',w',k1,⟨vs++[.int .i64 s.1,.slice x.1 x.2.1 x.2.2,.slice y.1 y.2.1 y.2.2],by rw[List.length_append];exact k2,by simp[h2];omega,fun j M hM=>?_⟩,k3,k4⟩;rcases Nat.lt_or_ge j l.length with hj|hj
 .rw[List.getElem?_append_left hj]at hM
  obtain⟨x',y',g0,g1,g2,g3⟩:=h3 j M hM;exact⟨x',y',by rw[List.getElem?_append_left (by omega)];exact g0,by rw[List.getElem?_append_left (by omega)];exact g1,by rw[List.getElem?_append_left (by omega)];exact g2,g3.step ag⟩
 .rw[List.getElem?_append_right hj]at hM
  obtain⟨t,ht⟩:∃t,j-l.length=t:=⟨_,rfl⟩
  rw[ht]at hM
  cases t with
  | zero=>
   simp at hM;subst hM;have e0:j*3-vs.length=0:=by omega
   have e1:j*3+1-vs.length=1:=by omega
   have e2:j*3+2-vs.length=2:=by omega
   exact⟨x,y,by rw[List.getElem?_append_right (by omega),e0];rfl,by rw[List.getElem?_append_right (by omega),e1];rfl,by rw[List.getElem?_append_right (by omega),e2];rfl,hN.step ag⟩
  | succ t=>simp at hM
theorem Fz.app2 {st:TypeId}{bytes:Nat}{i:TypeInfo}(hu:Tryz.prog.underlying st=some (.slice e))(hi:Tryz.prog.info? e=some i){z0:Value}(hz:i.zero=some z0)(hs:i.size=3)(hb:i.bytes=bytes)(hzs:z0.cells.size=3)(hby:bytes<=1000)(h:Fz F e B bad w v l)(hB:B<=w.heap.size){g c:Nat}{s:Fi}{x y:Option Addr×Nat×Nat}(hc0:w.cell? ⟨g,0,none⟩=some (.int .i64 s.1))(hc1:w.cell? ⟨g,1,none⟩=some (.slice x.1 x.2.1 x.2.2))(hc2:w.cell? ⟨g,2,none⟩=some (.slice y.1 y.2.1 y.2.2))(hN:Gk (F s x y) bad w)(hv:∀g,v.ownBlock=some g->bad g)(hlt:∀g,bad g->g<w.heap.size)(hl:l.length<=1000000)(ty:TypeId) :
  ∃v' w' bad',(Builtin.append_ #[st,st] ty #[v,.slice (some ⟨g,0,none⟩) 1 c]).run Tryz.prog w=.ok v' w'/\Fz F e B bad' w' v' (l++[s])/\w.grownBy w' v.ownBlock /\
   (∀g,bad g->bad' g)/\(∀g,g<w.heap.size->bad' g->bad g)/\(∀g,v'.ownBlock=some g->bad' g)/\(∀g,bad' g->g<w'.heap.size):=by
 obtain⟨v',w',k1,_,k3,k4⟩:=h.app hu hi hz hs hb hzs hby hB (c:=c) hc0 hc1 hc2 hN hv hl ty;have hsub:∀g,g<w.heap.size->(bad g ∨ v'.ownBlock=some g)->bad g:=by
  intro g hg hx;rcases hx with hx|hx
  .exact hx
  .rcases k4 with k4|k4
   .exact hv g (by rw[<-k4];exact hx)
   .have:=k4 g hx;omega
 obtain⟨v2,w2,g1,g2,_,_⟩:=(h.more (bad':=fun g=>bad g ∨ v'.ownBlock=some g) hsub).app hu hi hz hs hb hzs hby hB (c:=c) hc0 hc1 hc2 (hN.more hsub) (fun g hg=>.inl (hv g hg)) hl ty;rw[k1]at g1
 injection g1 with e1 e2
 subst e1 e2;exact⟨v',w',_,k1,g2,k3,fun g hg=>.inl hg,hsub,fun g hg=>.inr hg,fun g hg=>by
  rcases hg with hg|hg
  .exact Da (hlt g hg) k3.size
  .exact(g2.block g hg).2⟩
theorem Fz.elim (h:Fz F e B bad w v l):∃p c,v=.slice p l.length c/\l.length<=c/\c<=9223372036854775807/\(p=none->c=0) /\
  (0<l.length->∃b off,p=some ⟨b,off,none⟩/\b<w.heap.size/\∀(i:Nat) (s:Fi),l[i]? = some s->∃x y:Option Addr×Nat×Nat,
   w.cell? ⟨b,off+i*3,none⟩=some (.int .i64 s.1)/\w.cell? ⟨b,off+i*3+1,none⟩=some (.slice x.1 x.2.1 x.2.2)/\w.cell? ⟨b,off+i*3+2,none⟩=some (.slice y.1 y.2.1 y.2.2)/\F s x y w):=by
 obtain⟨vs,h1,h2,h3⟩:=h.ex;rcases h1.2 with ⟨rfl,h0⟩|⟨g,cap,cur,rfl,hb,hg,hnc,hcm,hcs,ht⟩
 .exact⟨none,0,by rw[h0],by omega,by omega,fun _=>rfl,fun h=>by omega⟩
 .have hlt:g<w.heap.size:=(Gs hg).1;have hcell:∀(o:Nat) (u:Value),vs[o]? = some u->w.cell? ⟨g,0+o,none⟩=some u:=by
   intro o u hu;have h6:(cur.toList.take (l.length*3))[o]? = some u:=by rw[ht];exact hu
   have ho:o<l.length*3:=by rw[<-h2];exact(List.getElem?_eq_some_iff.1 hu).1
   rw[List.getElem?_take,if_pos ho]at h6
   unfold World.cell?
   dsimp only
   rw[hg];simp only[Nat.zero_add];rw[Array.getElem?_toList]at h6
   exact h6
  refine⟨some ⟨g,0,none⟩,cap,rfl,hnc,by simpa [maxLen]using hcm,(fun h=>by cases h),fun _=>⟨g,0,rfl,hlt,fun i s hs=>?_⟩⟩;obtain⟨x,y,k0,k1,k2,k3⟩:=h3 i s hs;exact⟨x,y,hcell _ _ k0,hcell _ _ k1,hcell _ _ k2,k3.out⟩
end
structure Pn (e:Nat) (s:Fi) (x y:Option Addr×Nat×Nat) (w:World):Prop where
 n:Cw w x s.2.1
 r:Cw w y s.2.2
 ln:s.2.1<An e
 lr:s.2.2<An e
theorem Pn.below {e:Nat}{s:Fi}{x y:Option Addr×Nat×Nat}{w w':World}(h:Pn e s x y w)(hb:Below w.heap.size w w'):Pn e s x y w':=⟨h.n.below hb,h.r.below hb,h.ln,h.lr⟩
theorem Pn.firm {e:Nat}{s:Fi}{x y:Option Addr×Nat×Nat}{w:World}{bad:Nat->Prop}(hx:Gk (fun w=>Cw w x s.2.1) bad w)(hy:Gk (fun w=>Cw w y s.2.2) bad w)(l1:s.2.1<An e)(l2:s.2.2<An e):Gk (Pn e s x y) bad w :=
 fun w2 k=>⟨hx w2 k,hy w2 k,l1,l2⟩
structure Ua (w:World) (e:Nat) (p:Option Addr) (n c:Nat) (l:List Fi):Prop where
 len:n=l.length
 cap:n<=c
 max:c<=9223372036854775807
 nil:p=none->c=0
 at_:0<n->∃b off,p=some ⟨b,off,none⟩/\b<w.heap.size/\∀(i:Nat) (s:Fi),l[i]? = some s->∃x y:Option Addr×Nat×Nat,
  w.cell? ⟨b,off+i*3,none⟩=some (.int .i64 s.1)/\w.cell? ⟨b,off+i*3+1,none⟩=some (.slice x.1 x.2.1 x.2.2)/\w.cell? ⟨b,off+i*3+2,none⟩=some (.slice y.1 y.2.1 y.2.2)/\Pn e s x y w
theorem Ua.below {w w':World}{e:Nat}{p:Option Addr}{n c:Nat}{l:List Fi}(h:Ua w e p n c l)(hb:Below w.heap.size w w'):Ua w' e p n c l:=by
 refine⟨h.len,h.cap,h.max,h.nil,fun h0=>?_⟩;obtain⟨b,off,h1,h2,h3⟩:=h.at_ h0
 refine⟨b,off,h1,Da h2 hb.size,fun i s hs=>?_⟩;obtain⟨x,y,k0,k1,k2,k3⟩:=h3 i s hs;have hc:∀o,w'.cell? ⟨b,o,none⟩=w.cell? ⟨b,o,none⟩:=fun o=>hb.cell (p:=⟨b,o,none⟩) h2
 exact⟨x,y,by rw[hc];exact k0,by rw[hc];exact k1,by rw[hc];exact k2,k3.below hb⟩
theorem Fz.ppcs {t:TypeId}{B e:Nat}{bad:Nat->Prop}{w:World}{v:Value}{l:List Fi}(h:Fz (Pn e) t B bad w v l):∃p c,v=.slice p l.length c/\Ua w e p l.length c l:=by
 obtain⟨p,c,h1,h2,h3,h4,h5⟩:=h.elim;exact⟨p,c,h1,rfl,h2,h3,h4,h5⟩
end Go.Proofs.YtokhckjemidbpaaGreatDoor
