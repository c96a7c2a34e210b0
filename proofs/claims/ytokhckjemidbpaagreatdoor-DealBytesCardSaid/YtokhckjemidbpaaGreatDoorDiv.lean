/- Long division. -/
import Derived.Test.YtokhckjemidbpaaGreatDoorNatG
import Derived.Test.YtokhckjemidbpaaGreatDoorNatU
set_option maxRecDepth 1000000
set_option maxHeartbeats 16000000
set_option linter.all false
namespace Go.Proofs.YtokhckjemidbpaaGreatDoor
open Go Go.RowKit Go.Proofs.YtokhckjemidbpaaGreatDoor.Flow
structure De (f s r2 r1 r0 P D R:Nat):Prop where
 f1:2147483648<=f
 f2:f<4294967296
 s1:s<4294967296
 r21:r2<4294967296
 r11:r1<4294967296
 r01:r0<4294967296
 D1:(f*4294967296+s)*P<=D
 D2:D<(f*4294967296+s+1)*P
 R1:((r2*4294967296+r1)*4294967296+r0)*P<=R
 R2:R<((r2*4294967296+r1)*4294967296+r0+1)*P
 RD:R<D*4294967296
theorem De.P0 {f s r2 r1 r0 P D R:Nat}(h:De f s r2 r1 r0 P D R):0<P:=by
 rcases Nat.eq_zero_or_pos P with h0|h0
 .have:=h.D2;rw[h0,Nat.mul_zero]at this;omega
 .exact h0
theorem De.D0 {f s r2 r1 r0 P D R:Nat}(h:De f s r2 r1 r0 P D R):0<D:=by
 have:=h.RD;rcases Nat.eq_zero_or_pos D with h0|h0
 .rw[h0,Nat.zero_mul]at this;omega
 .exact h0
theorem De.high {f s r2 r1 r0 P D R:Nat}(h:De f s r2 r1 r0 P D R):r2<=f:=by
 rcases Nat.lt_or_ge f r2 with h1|h1
 .exfalso;obtain⟨B,hB⟩:∃B,4294967296=B:=⟨_,rfl⟩
  have a1:=h.R1;have a2:=h.D2;have a3:=h.RD;have a4:=h.s1;rw[hB]at a1 a2 a3 a4
  have c1:(f+1)*B*B<=(r2*B+r1)*B+r0:=by
   have:=Nat.mul_le_mul_right B (Nat.mul_le_mul_right B (Nat.succ_le_of_lt h1));simp only[Nat.succ_eq_add_one]at this;refine Eo this ?_;rw[Nat.add_mul (r2*B) r1 B];omega
  have c2:(f*B+s+1)*B<=(f+1)*B*B:=by
   refine Nat.mul_le_mul_right B ?_;rw[Nat.add_mul,Nat.one_mul];omega
  have e1:=Eo (Nat.mul_le_mul_right P c1) a1;have e2:=Nat.mul_le_mul_right P c2;have e3:=Nat.mul_le_mul_right B (Nat.le_of_lt a2);rw[Nat.mul_right_comm]at e3
  omega
 .exact h1
theorem De.q_lt {f s r2 r1 r0 P D R:Nat}(h:De f s r2 r1 r0 P D R):R/D<4294967296:=by
 rw[Nat.div_lt_iff_lt_mul h.D0,Nat.mul_comm];exact h.RD
theorem De.first {f s r2 r1 r0 P D R:Nat}(h:De f s r2 r1 r0 P D R):R/D<=(r2*4294967296+r1)/f:=by
 have hf:0<f:=by have:=h.f1;omega
 rw[Nat.le_div_iff_mul_le hf];have hq:=Nat.div_mul_le_self R D;have hP:=h.P0;have h1:R/D*f*4294967296*P<=R/D*D:=by
  rw[Nat.mul_assoc,Nat.mul_assoc];refine Nat.mul_le_mul_left _ ?_;refine Eo ?_ h.D1;rw[<-Nat.mul_assoc];exact Nat.mul_le_mul_right P (by omega)
 have h2:R/D*f*4294967296*P<((r2*4294967296+r1)*4294967296+r0+1)*P:=Nat.lt_of_le_of_lt (Eo h1 hq) h.R2;have h3:=Nat.lt_of_mul_lt_mul_right h2;have:=h.r01;omega
structure Cz (f s r2 r1 r0 P D R a l:Nat):Prop where
 eq:a*f+l=r2*4294967296+r1
 le:R/D<=a
 left:l<4294967296
theorem Cz.start {f s r2 r1 r0 P D R:Nat}(h:De f s r2 r1 r0 P D R):Cz f s r2 r1 r0 P D R ((r2*4294967296+r1)/f) ((r2*4294967296+r1)%f):=by
 have hf:0<f:=by have:=h.f1;omega
 refine⟨?_,h.first,?_⟩
 .rw[Nat.mul_comm];exact Nat.div_add_mod _ _
 .have:=Nat.mod_lt (r2*4294967296+r1) hf;have:=h.f2;omega
theorem Cz.bound {f s r2 r1 r0 P D R a l:Nat}(h:De f s r2 r1 r0 P D R)(k:Cz f s r2 r1 r0 P D R a l):a<=4294967297:=by
 rcases Nat.lt_or_ge 4294967297 a with h1|h1
 .exfalso;have h2:4294967298*f<=a*f:=Nat.mul_le_mul_right f h1;have:=k.eq;have:=h.high;have:=h.f1;have:=h.r11;omega
 .exact h1
theorem De.upper {f s r2 r1 r0 P D R a l:Nat}(h:De f s r2 r1 r0 P D R)(ha:a<4294967296)(he:a*f+l=r2*4294967296+r1)(ht:a*s<=l*4294967296+r0):a<=R/D+1:=by
 have hP:=h.P0;have hD:=h.D0;have h1:a*(f*4294967296+s)<=(r2*4294967296+r1)*4294967296+r0:=by
  rw[Nat.mul_add,<-Nat.mul_assoc];omega
 have h2:a*(f*4294967296+s)*P<=R:=Eo (Nat.mul_le_mul_right P h1) h.R1;have h3:a*D<=a*(f*4294967296+s)*P+a*P:=by
  have e:=Nat.mul_le_mul_left a (Nat.le_of_lt h.D2);rw[Nat.add_mul (f*4294967296+s) 1 P,Nat.one_mul,Nat.mul_add,<-Nat.mul_assoc]at e
  exact e
 have h4:a*P<D:=by
  refine Dk ?_ h.D1;exact Nat.mul_lt_mul_of_pos_right (by have:=h.f1;omega) hP
 have h5:R<(R/D+1)*D:=by
  have:=Nat.div_add_mod R D;have:=Nat.mod_lt R hD;rw[Nat.add_mul,Nat.one_mul,Nat.mul_comm];omega
 rcases Nat.lt_or_ge (R/D+1) a with h6|h6
 .exfalso;have h7:=Nat.mul_le_mul_right D (Nat.succ_le_of_lt h6);rw[Nat.succ_eq_add_one,Nat.add_mul (R/D+1) 1 D,Nat.one_mul]at h7
  omega
 .exact h6
theorem De.lower {f s r2 r1 r0 P D R a l:Nat}(h:De f s r2 r1 r0 P D R)(he:a*f+l=r2*4294967296+r1)(ht:l*4294967296+r0<a*s):R/D<a:=by
 have hD:=h.D0;have h1:(r2*4294967296+r1)*4294967296+r0+1<=a*(f*4294967296+s):=by
  rw[Nat.mul_add,<-Nat.mul_assoc];omega
 have h2:((r2*4294967296+r1)*4294967296+r0+1)*P<=a*D:=by
  refine Eo (Nat.mul_le_mul_right P h1) ?_;rw[Nat.mul_assoc];exact Nat.mul_le_mul_left a h.D1
 rw[Nat.div_lt_iff_lt_mul hD];exact Dk h.R2 h2
theorem Cz.stop {f s r2 r1 r0 P D R a l:Nat}(h:De f s r2 r1 r0 P D R)(k:Cz f s r2 r1 r0 P D R a l)(ha:a<4294967296)(ht:a*s<=l*4294967296+r0) :
  R/D<=a/\a<=R/D+1:=⟨k.le,h.upper ha k.eq ht⟩
theorem Cz.less {f s r2 r1 r0 P D R a l:Nat}(h:De f s r2 r1 r0 P D R)(k:Cz f s r2 r1 r0 P D R a l)(ht:4294967295<a ∨ l*4294967296+r0<a*s) :
  1<=a/\(a-1)*f+(l+f)=r2*4294967296+r1/\R/D<=a-1:=by
 have h1:R/D<a:=by
  rcases ht with h2|h2
  .have:=h.q_lt;generalize R/D=q at *;omega
  .exact h.lower k.eq h2
 generalize R/D=q at *;refine⟨by omega,?_,by omega⟩;obtain⟨b,rfl⟩:∃b,a=b+1:=⟨a-1,by omega⟩
 have:=k.eq;rw[Nat.add_mul,Nat.one_mul]at this
 rw[Nat.add_sub_cancel];omega
theorem Cz.next {f s r2 r1 r0 P D R a l:Nat}(h:De f s r2 r1 r0 P D R)(k:Cz f s r2 r1 r0 P D R a l)(ht:4294967295<a ∨ l*4294967296+r0<a*s)(hl:l+f<4294967296) :
  Cz f s r2 r1 r0 P D R (a-1) (l+f) :=
 let ⟨_,h2,h3⟩:=k.less h ht
 ⟨h2,h3,hl⟩
theorem Cz.brk {f s r2 r1 r0 P D R a l:Nat}(h:De f s r2 r1 r0 P D R)(k:Cz f s r2 r1 r0 P D R a l)(ht:4294967295<a ∨ l*4294967296+r0<a*s)(hl:4294967296<=l+f) :
  a-1<4294967296/\R/D<=a-1/\a-1<=R/D+1:=by
 obtain⟨h1,h2,h3⟩:=k.less h ht;have h4:a-1<4294967296:=by
  rcases Nat.lt_or_ge (a-1) 4294967296 with h5|h5
  .exact h5
  .exfalso;have h6:=Nat.mul_le_mul_right f h5;have:=h.high;have:=h.r11;omega
 refine⟨h4,h3,h.upper h4 h2 ?_⟩;have h7:(a-1)*s<=4294967296*4294967296:=Nat.mul_le_mul (by omega) (Nat.le_of_lt h.s1);omega
def Em (W X:List Nat)(t:Nat):Nat->List Nat×Nat
 | 0=>([],0)
 | k+1=>((Em W X t k).1++[(X.getD k 0+4294967296-((Em W X t k).2+W.getD k 0*t)%4294967296)%4294967296],
   ((Em W X t k).2+W.getD k 0*t)/4294967296+if X.getD k 0<((Em W X t k).2+W.getD k 0*t)%4294967296 then 1 else 0)
structure iI (W X:List Nat) (t k:Nat) (S:List Nat) (y:Nat):Prop where
 len:S.length=k
 words:Words S
 owed:y<4294967296
 eq:val (X.take k)+Al k*y=val S+t*val (W.take k)
theorem Op {W X:List Nat}{t:Nat}(hW:Words W)(hX:Words X)(ht:t<4294967296):∀k,iI W X t k (Em W X t k).1 (Em W X t k).2
 | 0=>⟨rfl,Words.nil,by simp[Em],by simp[Em,val]⟩
 | k+1=>by
  have h:=Op hW hX ht k;have hz:=hX.get k;have hx:=hW.get k;have h4:=h.eq;simp only[Em];generalize (Em W X t k).1=S at *;generalize (Em W X t k).2=y at *;have e1:=Ar X k;have e2:=Ar W k;have hy:=h.owed;generalize X.getD k 0=z at *;generalize W.getD k 0=x at *;have hp:=Jy hx ht;obtain⟨p,hpp⟩:∃p,y+x*t=p:=⟨_,rfl⟩
  rw[hpp];have hdm:=Nat.div_add_mod p 4294967296;have hm:=Nat.mod_lt p (show 0<4294967296 by omega);have hpl:p<=18446744069414584320:=by omega
  obtain⟨c,hc⟩:∃c,(if z<p%4294967296 then 1 else 0)=c:=⟨_,rfl⟩
  rw[hc];have hs:z+4294967296*(p/4294967296+c)=(z+4294967296-p%4294967296)%4294967296+p:=by
   by_cases hlt:z<p%4294967296
   .rw[if_pos hlt]at hc;omega
   .rw[if_neg hlt]at hc;omega
  have hc1:p/4294967296+c<4294967296:=by
   by_cases hlt:z<p%4294967296
   .rw[if_pos hlt]at hc;omega
   .rw[if_neg hlt]at hc;omega
  obtain⟨r,hr⟩:∃r,(z+4294967296-p%4294967296)%4294967296=r:=⟨_,rfl⟩
  rw[hr]at hs ⊢
  have hr4:r<4294967296:=by omega
  refine⟨by simp[h.len],h.words.snoc hr4,hc1,?_⟩;rw[e1,e2,Da,h.len,Bk];have e3:4294967296*Al k*(p/4294967296+c)=Al k*(4294967296*(p/4294967296+c)):=by rw[Nat.mul_comm 4294967296 (Al k),Nat.mul_assoc]
  have e4:Al k*z+Al k*(4294967296*(p/4294967296+c))=Al k*r+Al k*p:=by rw[<-Nat.mul_add,hs,Nat.mul_add]
  have e5:Al k*p=Al k*y+t*(Al k*x):=by rw[<-hpp,Nat.mul_add];congr 1;ac_rfl
  rw[Nat.mul_add t,e3];omega
theorem Gc {L:List Nat}{V n:Nat}(hl:L.length=n)(hw:Words L)(hv:val L=V):L=wordsOf V n:=by
 apply List.ext_getElem?;intro i;rcases Nat.lt_or_ge i n with h|h
 .rw[Cx h,<-hv,digit L hw i,Dv,List.getElem?_eq_getElem (by omega)];rfl
 .rw[List.getElem?_eq_none (by omega),List.getElem?_eq_none (by rw[An];exact h)]
theorem Vc {R D top y Xd S d q:Nat}(hR:R=Xd+Al d*top)(hq:q=R/D)(hS:Xd+Al d*y=S+q*D)(hSl:S<Al d)(hD:0<D)(hDd:D<=Al d):y=top/\S=R%D:=by
 have h1:=Nat.div_add_mod R D;have h2:=Nat.mod_lt R hD;rw[<-hq,Nat.mul_comm D q]at h1
 have h3:S+Al d*top=R%D+Al d*y:=by omega
 have h4:y=top:=by
  rcases Nat.lt_trichotomy y top with h|h|h
  .have:=Nat.mul_le_mul_left (Al d) (Nat.succ_le_of_lt h);rw[Nat.succ_eq_add_one,Nat.mul_add,Nat.mul_one]at this
   omega
  .exact h
  .have:=Nat.mul_le_mul_left (Al d) (Nat.succ_le_of_lt h);rw[Nat.succ_eq_add_one,Nat.mul_add,Nat.mul_one]at this
   omega
 subst h4;exact⟨rfl,by omega⟩
theorem Xm {R D top y Xd S d q:Nat}(hR:R=Xd+Al d*top)(hq:q=R/D+1)(hS:Xd+Al d*y=S+q*D)(hSl:S<Al d)(hD:0<D)(hDd:D<=Al d):y=top+1/\S+D=R%D+Al d:=by
 have h1:=Nat.div_add_mod R D;have h2:=Nat.mod_lt R hD;rw[hq,Nat.add_mul,Nat.one_mul,Nat.mul_comm (R/D) D]at hS
 have h3:S+D+Al d*top=R%D+Al d*y:=by omega
 have h4:y=top+1:=by
  rcases Nat.lt_trichotomy y (top+1) with h|h|h
  .have:=Nat.mul_le_mul_left (Al d) (Nat.le_of_lt_succ h);omega
  .exact h
  .have:=Nat.mul_le_mul_left (Al d) (Nat.succ_le_of_lt h);rw[Nat.succ_eq_add_one,Nat.mul_add,Nat.mul_one,Nat.mul_add,Nat.mul_one]at this
   omega
 subst h4;rw[Nat.mul_add,Nat.mul_one]at h3
 exact⟨rfl,by omega⟩
def Xx (R D:Nat)(w:World)(e:Ending)(w':World):Prop:=∃a n:Nat,e=.returned (.int .u32 a)/\R/D<=a/\a<=R/D+1/\a<4294967296/\w'=w.drewN n
theorem Mr (w:World)(a b:Nat):(w.drewN a).drewN b=w.drewN (a+b):=by
 unfold World.drewN;simp[Nat.add_assoc]
theorem Row.getAt {w:World}{k:IntKind}{b off:Nat}{xs:List Nat}(hc:∀(i x:Nat),xs[i]? = some x->w.cell? ⟨b,off+i,none⟩=some (.int k (x:Int))){i x:Nat}(hi:i<xs.length)(hx:xs.getD i 0=x):w.cell? ⟨b,off+i,none⟩=some (.int k (x:Int)) :=
 hc i x (by rw[<-hx,Dv];simp[hi])
theorem Us (w:World)(p:Option Addr)(n c:Nat)(X:List Nat)(q:Option Addr)(d e:Nat)(W:List Nat)(f s r2 r1 r0 P D R:Nat)(hX:Row w .u32 p n c X)(hW:Row w .u32 q d e W)(hd:2<=d)(hn:n=d+1)(hlim:d<1000000)(hf:W.getD (d-1) 0=f)(hs:W.getD (d-2) 0=s)(h2:X.getD d 0=r2)(h1:X.getD (d-1) 0=r1)(h0:X.getD (d-2) 0=r0)(hg:De f s r2 r1 r0 P D R) :
  Calls Tryz.prog 227 #[.slice p n c,.slice q d e] w (Xx R D w):=by
 subst hn;obtain⟨b,off,rfl,hb,hc⟩:=hX.pos (by omega);obtain⟨b2,off2,rfl,hb2,hc2⟩:=hW.pos (by omega);have lX:=hX.len;have lW:=hW.len;obtain⟨j,rfl⟩:∃j,d=j+2:=⟨d-2,by omega⟩
 have g2:=Row.getAt hc (i:=j+2) (by omega) h2;have g1:=Row.getAt hc (i:=j+1) (by omega) h1;have g0:=Row.getAt hc (i:=j) (by omega) h0;have gf:=Row.getAt hc2 (i:=j+1) (by omega) hf;have gs:=Row.getAt hc2 (i:=j) (by omega) hs;have b2':=hg.r21;have b1':=hg.r11;have b0':=hg.r01;have bf':=hg.f2;have bf1:=hg.f1;have bs':=hg.s1;obtain⟨H,hH⟩:∃H,r2*4294967296+r1=H:=⟨_,rfl⟩
 have t2:bits BinOp.or IntKind.u64 ((r2:Int)*4294967296) (r1:Int)=(H:Int):=by rw[Lh r2 r1 b2' b1',hH]
 have hHl:H<18446744073709551616:=by omega
 have hst:=Cz.start hg;rw[hH]at hst
 have HG:=Af hg;have HH:=Af hH;have HST:=Af hst;have t3:IntKind.u64.wrap ((r2:Int)*4294967296)=(r2:Int)*4294967296:=IntWalk.u64_in _ (by omega);have u2:IntKind.u64.wrap (r2:Int)=r2:=IntWalk.u64_in _ (by omega);have u1:IntKind.u64.wrap (r1:Int)=r1:=IntWalk.u64_in _ (by omega);have uf:IntKind.u64.wrap (f:Int)=f:=IntWalk.u64_in _ (by omega);have us:IntKind.u64.wrap (s:Int)=s:=IntWalk.u64_in _ (by omega);have i1:IntKind.i64.wrap (((j+2:Nat):Int)-1)=(j+1:Nat):=by rw[IntWalk.i64_in _ (by omega)];omega
 have i2:IntKind.i64.wrap (((j+2:Nat):Int)-2)=(j:Nat):=by rw[IntWalk.i64_in _ (by omega)];omega
 clear hX hW hc hc2 lX lW hf hs h2 h1 h0 hg hH hst;go_enter Tryz.func227,Tryz.ntmps227;go_wp2
 go_quiet (fail)
 go_wp2
 go_quiet (fail)
 go_wp2
 go_quiet (fail)
 go_wp2;have hq4:IntKind.u64.wrap ((H:Int)/f)=((H/f:Nat):Int):=by
  have h9:H/f<=H:=Nat.div_le_self _ _;rw[<-Int.natCast_ediv];generalize H/f=z at *;exact IntWalk.u64_in _ (by omega)
 have hr4:(H:Int)%f=((H%f:Nat):Int):=(Int.natCast_emod _ _).symm
 go_loop [9,10] (fun o l=>∃a m:Nat,o=.int .u64 a/\l=.int .u64 m/\Hid (Cz f s r2 r1 r0 P D R a m)) (fun o _=>(intOf o).toNat)
 case atStart=>exact⟨H/f,H%f,by rw[hq4],by rw[hr4],HST⟩
 case round=>
  obtain⟨a,m,rfl,rfl,hk⟩:=hrel;have hab:=hk.out.bound HG.out;have hml:=hk.out.left;clear hq4 hr4 HST
  by_cases ha:4294967295<a
  .have hL:=hk.out.less HG.out (.inl ha);have ha1:=hL.1;have HL:=Af hL;clear hL
   by_cases hl:4294967296<=m+f
   .have hB:=hk.out.brk HG.out (.inl ha) hl;have hB1:=hB.1;have HB:=Af hB;clear hB;go_wp2;go_ret;refine⟨a-1,_,?_,HB.out.2.1,HB.out.2.2,hB1,by first|rfl|rw[Mr]⟩;exact congrArg (fun z=>Ending.returned (.int .u32 z)) (by omega)
   .have HN:=Af (hk.out.next HG.out (.inl ha) (by omega));go_wp2;refine⟨⟨a-1,by omega,m+f,by omega,HN⟩,by simp[intOf];omega⟩
  .obtain⟨y,hy⟩:∃y,a*s=y:=⟨_,rfl⟩
   have hy9:y<18446744073709551616:=by
    have h9:a*s<=4294967295*4294967295:=Nat.mul_le_mul (by omega) (by omega);omega
   have hyi:(a:Int)*s=y:=by rw[<-hy];exact(Int.natCast_mul _ _).symm
   have ty:IntKind.u64.wrap ((a:Int)*s)=y:=by rw[hyi];exact IntWalk.u64_in _ (by omega)
   obtain⟨z,hz⟩:∃z,m*4294967296+r0=z:=⟨_,rfl⟩
   have tz:bits BinOp.or IntKind.u64 ((m:Int)*4294967296) (r0:Int)=(z:Int):=by rw[Lh m r0 hml b0',hz]
   have tm:IntKind.u64.wrap ((m:Int)*4294967296)=(m:Int)*4294967296:=IntWalk.u64_in _ (by omega);have HY:=Af hy;have HZ:=Af hz;clear hy hz
   by_cases hlt:z<y
   .have hT:4294967295<a ∨ m*4294967296+r0<a*s:=.inr (by rw[HY.out,HZ.out];exact hlt);have hL:=hk.out.less HG.out hT;have ha1:=hL.1;have HL:=Af hL;have HT:=Af hT;clear hL hT
    by_cases hl:4294967296<=m+f
    .have hB:=hk.out.brk HG.out HT.out hl;have hB1:=hB.1;have HB:=Af hB;clear hB;go_wp2;go_ret;refine⟨a-1,_,?_,HB.out.2.1,HB.out.2.2,hB1,by first|rfl|rw[Mr]⟩;exact congrArg (fun z=>Ending.returned (.int .u32 z)) (by omega)
    .have HN:=Af (hk.out.next HG.out HT.out (by omega));go_wp2;refine⟨⟨a-1,by omega,m+f,by omega,HN⟩,by simp[intOf];omega⟩
   .have HS:=Af (hk.out.stop HG.out (by omega) (by rw[HY.out,HZ.out];omega));go_wp2;go_ret;refine⟨a,_,?_,HS.out.1,HS.out.2,by omega,by first|rfl|rw[Mr]⟩;exact congrArg (fun z=>Ending.returned (.int .u32 z)) (by omega)
def Mw (S:List Nat)(y:Nat)(xs:List Nat)(o g:Nat)(e:TypeId)(w:World)(en:Ending)(w':World):Prop :=
 en=.returned (.int .u32 (y:Nat))/\Bi w' g e .u32 (xs.take o++S++xs.drop (o+S.length))/\w.grownBy w' (some g)/\w'.heap.size=w.heap.size
theorem Mh (w:World)(g o n c:Nat)(xs:List Nat)(q:Option Addr)(m d:Nat)(W:List Nat)(t:Nat)(hg:Bi w g 129 .u32 xs)(hx:Words xs)(hW:Row w .u32 q m d W)(wW:Words W)(ht:t<4294967296)(hq:∀a,q=some a->a.block≠g)(hm:m<1000000)(ho:o+m<=xs.length)(hn:m<=n)(hc:n<=c)(hc2:c<9223372036854) :
  Calls Tryz.prog 228 #[.slice (some ⟨g,o,none⟩) n c,.slice q m d,.int .u32 t] w (Mw (Em W (xs.drop o) t W.length).1 (Em W (xs.drop o) t W.length).2 xs o g 129 w):=by
 have HW:=Af hW.len;go_enter Tryz.func228,Tryz.ntmps228;go_wp2
 go_loopw [7,13] (fun cy i wr=>∃k y:Nat,∃S,k<=m/\i=.int .i64 k/\cy=.int .u64 y/\Em W (xs.drop o) t k=(S,y)/\Bi wr g 129 .u32 (xs.take o++S++xs.drop (o+k))/\w.grownBy wr (some g)/\wr.heap.size<=w.heap.size) (fun _ i _=>m-(intOf i).toNat)
 case atStart=>exact⟨0,0,[],by omega,rfl,rfl,rfl,by rw[List.append_nil,Nat.add_zero,List.take_append_drop];exact hg,grownBy_refl _ _,Av _⟩
 case round=>
  obtain⟨k,y,S,hk,rfl,rfl,hS,hblk,hgr,hsz⟩:=hrel;have hst:=Op wW (hx.drop o) ht k;rw[hS]at hst
  have hy:=hst.owed;have hsl:=hst.len;simp only at hy hsl;have HS:=Af hS;have HSL:=Af hsl;clear hS hst hsl
  by_cases hkm:k<m
  .obtain⟨b,off,rfl,hb,hcell⟩:=(hW.grown hgr hq).pos (by omega);obtain⟨x,hxk⟩:∃x,W.getD k 0=x:=⟨_,rfl⟩
   obtain⟨z,hz⟩:∃z,xs.getD (o+k) 0=z:=⟨_,rfl⟩
   have hci:wr.cell? ⟨b,off+k,none⟩=some (.int .u32 (x:Nat)):=hcell k x (by rw[<-hxk,Dv];simp[show k<W.length by have:=HW.out;omega]);have hmid:=fun u=>Bi.mid hblk HSL.out (by omega) u
   have hcz:=(hmid 0).1;rw[hz]at hcz
   have hfz:=hblk.free (o+k);have hx1:x<4294967296:=by rw[<-hxk];exact wW.get k
   have hz1:z<4294967296:=by rw[<-hz];exact hx.get _
   have hp:=Jy hx1 ht;obtain⟨v,hv⟩:∃v,x*t=v:=⟨_,rfl⟩
   have hvi:(x:Int)*t=v:=by rw[<-hv];exact(Int.natCast_mul _ _).symm
   have hv9:v<=18446744065119617025:=by rw[<-hv];exact hp
   have tv:IntKind.u64.wrap ((x:Int)*t)=v:=by rw[hvi];exact IntWalk.u64_in _ (by omega)
   have HV:=Af hv;have HX:=Af hxk;have HZ:=Af hz;have HM:=Af (fun u=>(hmid u).2);have hzd:Hid ((xs.drop o).getD k 0=z):=Af (by rw[Dv,List.getElem?_drop,<-Dv];exact HZ.out);clear hcell hxk hz hmid hp hv
   by_cases hlt:z<(y+v)%4294967296
   .go_wp2;go_roundw
    case rel=>
     have e:(((z+4294967296-(y+v)%4294967296)%4294967296:Nat):Int)=((z:Int)-(y+v))%4294967296:=by omega
     have h7:=HM.out ((z+4294967296-(y+v)%4294967296)%4294967296);rw[e]at h7
     refine⟨k+1,(y+v)/4294967296+1,S++[(z+4294967296-(y+v)%4294967296)%4294967296],by omega,by go_num,by go_num,?_,h7,grownBy_trans hgr (grownBy_setCell _ _ _ _),by simpa using hsz⟩;rw[Em,HS.out,HX.out,hzd.out];simp only[HV.out];rw[if_pos hlt]
    case measure=>simp[intOf];omega
   .go_wp2;go_roundw
    case rel=>
     have e:(((z+4294967296-(y+v)%4294967296)%4294967296:Nat):Int)=(z:Int)-((y:Int)+v)%4294967296:=by omega
     have h7:=HM.out ((z+4294967296-(y+v)%4294967296)%4294967296);rw[e]at h7
     refine⟨k+1,(y+v)/4294967296,S++[(z+4294967296-(y+v)%4294967296)%4294967296],by omega,by go_num,by go_num,?_,h7,grownBy_trans hgr (grownBy_setCell _ _ _ _),by simpa using hsz⟩;rw[Em,HS.out,HX.out,hzd.out];simp only[HV.out];rw[if_neg hlt];simp only[Nat.add_zero]
    case measure=>simp[intOf];omega
  .have hkm':m<=k:=by omega
   have hkl:k=W.length:=by have:=HW.out;omega
   have HK:=Af hkl;clear hkl;go_wp2;go_ret;refine⟨?_,by rw[<-HK.out,HS.out];simp only[HSL.out];exact hblk,hgr,Nat.le_antisymm hsz hgr.size⟩;rw[<-HK.out,HS.out];exact congrArg (fun z=>Ending.returned (.int .u32 z)) (by omega)
theorem Qo (w:World)(g o n c:Nat)(xs:List Nat)(q:Option Addr)(m d:Nat)(W:List Nat)(hg:Bi w g 129 .u32 xs)(hx:Words xs)(hW:Row w .u32 q m d W)(wW:Words W)(hq:∀a,q=some a->a.block≠g)(hm:m<1000000)(ho:o+m<=xs.length)(hn:m<=n) :
  Calls Tryz.prog 229 #[.slice (some ⟨g,o,none⟩) n c,.slice q m d] w fun e w'=>∃S y,Mw S y xs o g 129 w e w'/\Gr (xs.drop o) W W.length S y:=by
 have HW:=Af hW.len;go_enter Tryz.func229,Tryz.ntmps229;go_wp2
 go_loopw [5,10] (fun cy i wr=>∃k y:Nat,∃S,k<=m/\i=.int .i64 k/\cy=.int .u32 y/\Gr (xs.drop o) W k S y/\Bi wr g 129 .u32 (xs.take o++S++xs.drop (o+k))/\w.grownBy wr (some g)/\wr.heap.size<=w.heap.size) (fun _ i _=>m-(intOf i).toNat)
 case atStart=>exact⟨0,0,[],by omega,rfl,rfl,Gr.start _ _,by rw[List.append_nil,Nat.add_zero,List.take_append_drop];exact hg,grownBy_refl _ _,Av _⟩
 case round=>
  obtain⟨k,y,S,hk,rfl,rfl,hst,hblk,hgr,hsz⟩:=hrel;have hy:=hst.carry;have HSL:=Af hst.len
  by_cases hkm:k<m
  .obtain⟨b,off,rfl,hb,hcell⟩:=(hW.grown hgr hq).pos (by omega);obtain⟨x,hxk⟩:∃x,W.getD k 0=x:=⟨_,rfl⟩
   obtain⟨z,hz⟩:∃z,xs.getD (o+k) 0=z:=⟨_,rfl⟩
   have hci:wr.cell? ⟨b,off+k,none⟩=some (.int .u32 (x:Nat)):=hcell k x (by rw[<-hxk,Dv];simp[show k<W.length by have:=HW.out;omega]);have hmid:=fun u=>Bi.mid hblk HSL.out (by omega) u
   have hcz:=(hmid 0).1;rw[hz]at hcz
   have hfz:=hblk.free (o+k);have hx1:x<4294967296:=by rw[<-hxk];exact wW.get k
   have hz1:z<4294967296:=by rw[<-hz];exact hx.get _
   have hnext:=hst.step (hx.drop o) wW;have hzd:Hid ((xs.drop o).getD k 0=z):=Af (by rw[Dv,List.getElem?_drop,<-Dv];exact hz);rw[hxk,hzd.out]at hnext
   have HM:=Af (fun u=>(hmid u).2);have HN:=Af hnext;clear hcell hxk hz hmid hnext hst
   go_wp2_with fail
   refine(Jo z x y _ hz1 hx1 hy).mono ?_;rintro e w1 ⟨rfl,rfl⟩;go_wp2;go_roundw
   case rel=>exact⟨k+1,_,_,by omega,by go_num,rfl,HN.out,HM.out _,grownBy_trans hgr (grownBy_setCell _ _ _ _),by simpa using hsz⟩
   case measure=>simp[intOf];omega
  .have hkl:k=W.length:=by have:=HW.out;omega
   have HK:=Af hkl;clear hkl;have HST:=Af hst;clear hst;go_wp2;go_ret;refine⟨S,y,⟨rfl,by simp only[HSL.out];exact hblk,hgr,Nat.le_antisymm hsz hgr.size⟩,?_⟩;rw[<-HK.out];exact HST.out
theorem Bi.rowAt {w:World}{g:Nat}{e:TypeId}{k:IntKind}{xs:List Nat}(h:Bi w g e k xs){o n c:Nat}(hn:o+n<=xs.length)(hc:n<=c)(hm:c<=9223372036854775807):Row w k (some ⟨g,o,none⟩) n c ((xs.drop o).take n) :=
 ⟨by simp;omega,hc,hm,.inr ⟨g,o,rfl,h.lt,fun i x hx=>by
  rw[List.getElem?_take]at hx
  split at hx
  .rw[List.getElem?_drop]at hx
   exact h.cell hx
  .cases hx⟩⟩
theorem Bi.drewN {w:World}{g:Nat}{e:TypeId}{k:IntKind}{xs:List Nat}(h:Bi w g e k xs)(n:Nat):Bi (w.drewN n) g e k xs:=h
theorem Gw (w:World)(n:Nat)(r:Option Nat):w.grownBy (w.drewN n) r:=⟨rfl,rfl,rfl,Av _,fun _ _ _=>rfl⟩
theorem Ys (X:List Nat)(j:Nat):val (X.take (j+3))=val (X.take j)+Al j*(X.getD j 0+4294967296*X.getD (j+1) 0+4294967296*(4294967296*X.getD (j+2) 0)):=by
 rw[Ar,Ar,Ar,Bk (j+1),Bk j,Nat.mul_add,Nat.mul_add];have e1:4294967296*Al j*X.getD (j+1) 0=Al j*(4294967296*X.getD (j+1) 0):=by ac_rfl
 have e2:4294967296*(4294967296*Al j)*X.getD (j+2) 0=Al j*(4294967296*(4294967296*X.getD (j+2) 0)):=by ac_rfl
 rw[e1,e2];omega
theorem bH (X:List Nat)(j:Nat):val (X.take (j+2))=val (X.take j)+Al j*(X.getD j 0+4294967296*X.getD (j+1) 0):=by
 rw[Ar,Ar,Bk,Nat.mul_add];have e1:4294967296*Al j*X.getD (j+1) 0=Al j*(4294967296*X.getD (j+1) 0):=by ac_rfl
 rw[e1];omega
theorem De.mk' {X W:List Nat}{j:Nat}(hX:Words X)(hW:Words W)(lX:X.length=j+3)(lW:W.length=j+2)(htop:2147483648<=W.getD (j+1) 0)(hR:val X<val W*4294967296) :
  De (W.getD (j+1) 0) (W.getD j 0) (X.getD (j+2) 0) (X.getD (j+1) 0) (X.getD j 0) (Al j) (val W) (val X):=by
 have eX:=Ys X j;rw[List.take_of_length_le (by omega)]at eX
 have eW:=bH W j;rw[List.take_of_length_le (by omega)]at eW
 have bX:val (X.take j)<Al j:=by
  have:=(hX.take j).lt
  rwa [List.length_take,Nat.min_eq_left (by omega)]at this
 have bW:val (W.take j)<Al j:=by
  have:=(hW.take j).lt
  rwa [List.length_take,Nat.min_eq_left (by omega)]at this
 refine⟨htop,hW.get _,hW.get _,hX.get _,hX.get _,hX.get _,?_,?_,?_,?_,hR⟩
 .rw[eW,Nat.mul_comm (Al j)];refine Eo (Nat.mul_le_mul_right (Al j) ?_) (Nat.le_add_left _ _);omega
 .rw[eW,Nat.add_mul (W.getD (j+1) 0*4294967296+W.getD j 0) 1,Nat.one_mul];rw[show W.getD j 0+4294967296*W.getD (j+1) 0=W.getD (j+1) 0*4294967296+W.getD j 0 by omega,Nat.mul_comm (Al j)];omega
 .rw[eX,Nat.mul_comm (Al j)];refine Eo (Nat.mul_le_mul_right (Al j) ?_) (Nat.le_add_left _ _);omega
 .rw[eX,Nat.add_mul ((X.getD (j+2) 0*4294967296+X.getD (j+1) 0)*4294967296+X.getD j 0) 1,Nat.one_mul];rw[show X.getD j 0+4294967296*X.getD (j+1) 0+4294967296*(4294967296*X.getD (j+2) 0)=(X.getD (j+2) 0*4294967296+X.getD (j+1) 0)*4294967296+X.getD j 0 by omega,Nat.mul_comm (Al j)];omega
theorem Tr {xs Y Z:List Nat}{o:Nat}(ho:o<=xs.length):(xs.take o++Y++Z).take o=xs.take o:=by
 rw[List.append_assoc,List.take_append_of_le_length (by simp;omega),List.take_take,Nat.min_self]
theorem Uz {xs Y Z:List Nat}{o:Nat}(ho:o<=xs.length):(xs.take o++Y++Z).drop o=Y++Z:=by
 rw[List.append_assoc,List.drop_append,List.drop_of_length_le (by simp;omega),List.nil_append];rw[show o-(xs.take o).length=0 by simp;omega,List.drop_zero]
def Hm (xs:List Nat)(o:Nat)(S:List Nat):List Nat:=xs.take o++S++xs.drop (o+S.length)
theorem Hm.length {xs S:List Nat}{o:Nat}(h:o+S.length<=xs.length):(Hm xs o S).length=xs.length:=by simp[Hm];omega
theorem Hm.words {xs S:List Nat}{o:Nat}(h:Words xs)(k:Words S):Words (Hm xs o S):=((h.take _).append k).append (h.drop _)
theorem Hm.put {xs S T:List Nat}{o:Nat}(ho:o+S.length<=xs.length)(hl:S.length=T.length):Hm (Hm xs o S) o T=Hm xs o T:=by
 unfold Hm;rw[Tr (by omega)]
 congr 1
 rw[<-List.drop_drop,Uz (by omega),<-hl,List.drop_left]
theorem Hm.drop {xs S:List Nat}{o:Nat}(ho:o+S.length<=xs.length):(Hm xs o S).drop o=S++xs.drop (o+S.length):=Uz (by omega)
def dY (R D d:Nat)(xs:List Nat)(o g:Nat)(e:TypeId)(w:World)(en:Ending)(w':World):Prop :=
 en=.returned (.int .u32 (R/D:Nat))/\Bi w' g e .u32 (Hm xs o (wordsOf (R%D) (d+1)))/\w.grownBy w' (some g)/\w'.heap.size=w.heap.size
theorem Qb (w:World)(g o n c:Nat)(xs:List Nat)(q:Option Addr)(d e:Nat)(W:List Nat)(R:Nat)(hg:Bi w g 129 .u32 xs)(hx:Words xs)(hW:Row w .u32 q d e W)(wW:Words W)(hq:∀a,q=some a->a.block≠g)(hd:2<=d)(hlim:d<1000000)(hn:n=d+1)(ho:o+n<=xs.length)(hc:n<=c)(hc2:c<9223372036854)(htop:2147483648<=W.getD (d-1) 0)(hR:val ((xs.drop o).take (d+1))=R)(hlt:R<val W*4294967296) :
  Calls Tryz.prog 203 #[.slice (some ⟨g,o,none⟩) n c,.slice q d e] w (dY R (val W) d xs o g 129 w):=by
 subst hn;have lW:=hW.len;obtain⟨j,rfl⟩:∃j,d=j+2:=⟨d-2,by omega⟩
 have hrow:=hg.rowAt ho hc (by omega);obtain⟨X,hX⟩:∃X,(xs.drop o).take (j+2+1)=X:=⟨_,rfl⟩
 rw[hX]at hrow hR
 have wX:Words X:=by rw[<-hX];exact(hx.drop o).take _
 have lX:X.length=j+3:=by rw[<-hX];simp;omega
 have hgs:=De.mk' (j:=j) wX wW lX lW.symm htop (by rw[hR];exact hlt);rw[hR]at hgs
 have hD0:=hgs.D0;have hDd:val W<=Al (j+2):=Nat.le_of_lt (by have:=wW.lt;rwa [<-lW]at this);have hq32:=hgs.q_lt
 -- the rest: its low words, and the highest
 obtain⟨top,htp⟩:∃top,xs.getD (o+(j+2)) 0=top:=⟨_,rfl⟩
 have htop32:top<4294967296:=by rw[<-htp];exact hx.get _
 have hXg:∀i,i<j+3->X.getD i 0=xs.getD (o+i) 0:=fun i hi=>by
  rw[<-hX,Dv,List.getElem?_take,if_pos (by omega),List.getElem?_drop,<-Dv]
 have hRl:R=val ((xs.drop o).take (j+2))+Al (j+2)*top:=by
  rw[<-hR,<-hX,Ar,<-htp]
  congr 2
  rw[Dv,List.getElem?_drop,<-Dv]
 have HGS:=Af hgs;have HLW:=Af lW;have HRL:=Af hRl;have HTP:=Af htp;have HLX:=Af lX;have HD0:=Af hD0;have HDd:=Af hDd;have htop':=Af htop;clear hX hgs lW lX hRl hXg htp hD0 hDd htop hR hlt;obtain⟨D,hD⟩:∃D,val W=D:=⟨_,rfl⟩
 have HVD:=Af hD;clear hD;go_enter Tryz.func203,Tryz.ntmps203
 go_wp2_with fail
 refine(Us w _ _ c X q (j+2) e W _ _ _ _ _ _ _ _ hrow hW (by omega) (by omega) (by omega) rfl rfl rfl rfl rfl HGS.out).mono ?_;rintro en w1 ⟨a,nd,rfl,ha1,ha2,ha3,rfl⟩;have hgd:=hg.drewN nd;have hWd:Row (w.drewN nd) .u32 q (j+2) e W:=hW.below (below_drewN (Bd _ _) nd)
 go_wp2_with fail
 refine(Mh (w.drewN nd) g o _ c xs q (j+2) e W a hgd hx hWd wW ha3 hq (by omega) (by omega) (by omega) hc hc2).mono ?_;rintro en w2 ⟨rfl,hb2,hgr2,hsz2⟩;have hst:=Op wW (hx.drop o) ha3 W.length;rw[<-HLW.out]at hst hb2 ⊢
 obtain⟨S,hS⟩:∃S,(Em W (xs.drop o) a (j+2)).1=S:=⟨_,rfl⟩
 obtain⟨y,hy⟩:∃y,(Em W (xs.drop o) a (j+2)).2=y:=⟨_,rfl⟩
 rw[hS]at hst hb2
 rw[hy]at hst ⊢
 have hSl:=hst.len;rw[hSl]at hb2
 have hSb:=hst.words.lt;rw[hSl]at hSb
 have heq:=hst.eq;rw[List.take_of_length_le (Nat.le_of_eq HLW.out.symm)]at heq
 have hmid:=fun u=>Bi.mid hb2 hSl (by omega) u
 have hct:=(hmid 0).1;rw[HTP.out]at hct
 have hft:=hb2.free (o+(j+2));have HM:=Af (fun u=>(hmid u).2);have HSL:=Af hSl;have HSB:=Af hSb;have HEQ:=Af heq;have HSW:=Af hst.words;have hy32:=hst.owed;clear hmid hst hS hy heq hSl hSb
 by_cases hov:a=R/val W
 .obtain⟨hyt,hSv⟩:=Vc HRL.out hov (by rw[HEQ.out]) HSB.out HD0.out HDd.out;subst hyt;have hov2:=Af hov;have hSv2:=Af hSv;clear hov hSv;go_wp2;go_ret;refine⟨congrArg (fun z:Nat=>Ending.returned (.int .u32 z)) hov2.out,?_,grownBy_trans (grownBy_trans (Gw w nd _) hgr2) (grownBy_setCell _ _ _ _),by simpa using hsz2⟩;have h7:=HM.out 0;have e7:S++[0]=wordsOf (R%val W) (j+2+1):=by
   refine Gc (by simp[HSL.out]) (HSW.out.snoc (by omega)) ?_;rw[Da,Nat.mul_zero,Nat.add_zero,hSv2.out]
  rw[e7]at h7
  unfold Hm;rw[An];exact h7
 .have hov':a=R/val W+1:=by generalize R/val W=z at *;omega
  obtain⟨hyt,hSv⟩:=Xm HRL.out hov' (by rw[HEQ.out]) HSB.out HD0.out HDd.out;have hov2:=Af hov';have hSv2:=Af hSv;have ha0:1<=a:=by rw[hov'];exact Nat.le_add_left 1 _
  have hyt2:top<y:=by omega
  have HYT:=Af hyt;have hb3:Bi (w2.setCell ⟨g,o+(j+2),none⟩ (.int .u32 4294967295)) g 129 .u32 (xs.take o++(S++[4294967295])++xs.drop (o+(j+2+1))):=HM.out 4294967295;have ey:((top:Int)-y)%4294967296=4294967295:=by omega
  obtain⟨xs2,hxs2⟩:∃xs2,xs.take o++(S++[4294967295])++xs.drop (o+(j+2+1))=xs2:=⟨_,rfl⟩
  have hp2:xs2=Hm xs o (S++[4294967295]):=by
   rw[<-hxs2];unfold Hm;simp[HSL.out]
  rw[hxs2]at hb3
  have wx2:Words xs2:=by rw[hp2];exact Hm.words hx (HSW.out.snoc (by omega))
  have lx2:xs2.length=xs.length:=by rw[hp2];exact Hm.length (by simp[HSL.out];omega)
  have dx2:xs2.drop o=S++4294967295::xs.drop (o+(j+2+1)):=by
   rw[hp2,Hm.drop (by simp[HSL.out];omega)];simp[HSL.out]
  have HDX:=Af dx2;have HP2:=Af hp2;have HLX2:=Af lx2;have HY2:=Af ey;clear hov hov' hSv hyt hxs2 hp2 dx2 lx2 ey;go_wp2;rw[HY2.out];obtain⟨w3,hw3⟩:∃w3,w2.setCell ⟨g,o+(j+2),none⟩ (.int .u32 4294967295)=w3:=⟨_,rfl⟩
  have hg3:w.grownBy w3 (some g):=by rw[<-hw3];exact grownBy_trans (grownBy_trans (Gw w nd _) hgr2) (grownBy_setCell _ _ _ _)
  have hs3:w3.heap.size=w.heap.size:=by rw[<-hw3];simpa using hsz2
  rw[hw3]at hb3 ⊢
  have HS3:=Af hs3;clear hw3 hs3;have hr7:Hid (wordsOf (R%val W) (j+2)++[0]=wordsOf (R%val W) (j+2+1)):=Af (by
   have hlt9:R%val W<Al (j+2):=Dk (Nat.mod_lt _ HD0.out) HDd.out;refine Gc (by simp[An]) ((Ck _ _).snoc (by omega)) ?_;rw[Da,Nat.mul_zero,Nat.add_zero,Cb hlt9])
  have hl2:o+(j+2)<xs2.length:=by rw[HLX2.out];omega
  have i2:0<=(j:Int)+2:=by omega
  have i3:(j:Int)+2<(j:Int)+2+1:=by omega
  have i4:((j:Int)+2).toNat=j+2:=by omega
  have HC:Hid (∀(b:Bool) (w':World),Bi w' g 129 .u32 (if b then Hm xs2 o (wordsOf (R%val W) (j+2)) else xs2)->w'.cell? ⟨g,o+(j+2),none⟩=some (.int .u32 4294967295)):=Af (by
   intro b w' hblk;have e1:(Hm xs2 o (wordsOf (R%val W) (j+2)))[o+(j+2)]? = some 4294967295:=by
    rw[<-List.getElem?_drop,Hm.drop (by rw[An];omega),List.getElem?_append_right (by rw[An];omega),An,Nat.sub_self,<-List.drop_drop,HDX.out,List.drop_append,];rw[List.drop_of_length_le (by rw[HSL.out];omega),HSL.out,Nat.sub_self];rfl
   have e2:xs2[o+(j+2)]? = some 4294967295:=by
    rw[<-List.getElem?_drop,HDX.out,List.getElem?_append_right (by rw[HSL.out];omega),HSL.out,Nat.sub_self];rfl
   cases b with
   | true=>simp only[if_true]at hblk;exact hblk.cell e1
   | false=>simp only[Bool.false_eq_true,if_false]at hblk;exact hblk.cell e2)
  have HF:Hid (∀w':World,Bi w' g 129 .u32 (Hm xs2 o (wordsOf (R%val W) (j+2)))->w'.cell? ⟨g,o+(j+2),none⟩=some (.int .u32 (xs2.getD (o+(j+2)) 0:Nat))/\Bi (w'.setCell ⟨g,o+(j+2),none⟩ (.int .u32 0)) g 129 .u32 (Hm xs o (wordsOf (R%val W) (j+2+1)))):=Af (by
   intro w' hblk;have hb5:Bi w' g 129 .u32 (xs2.take o++wordsOf (R%val W) (j+2)++xs2.drop (o+(j+2))):=by
    unfold Hm at hblk;rw[An]at hblk;exact hblk
   have hm:=Bi.mid hb5 (An _ _) hl2 0;refine⟨hm.1,?_⟩;have e9:xs2.take o++(wordsOf (R%val W) (j+2)++[0])++xs2.drop (o+(j+2+1))=Hm xs o (wordsOf (R%val W) (j+2+1)):=by
    rw[hr7.out,<-Hm.put (S:=S++[4294967295]) (by simp[HSL.out];omega) (by simp[HSL.out,An]),<-HP2.out];unfold Hm;rw[An]
   rw[<-e9];exact hm.2)
  have HT:Hid (∀(w' w4:World) (en:Ending) (T:List Nat) (cy:Nat),Mw T cy xs2 o g 129 w' en w4->Gr (xs2.drop o) W W.length T cy->en=.returned (.int .u32 1)/\Bi w4 g 129 .u32 (Hm xs2 o (wordsOf (R%val W) (j+2)))/\w'.grownBy w4 (some g)/\w4.heap.size=w'.heap.size):=Af (by
   rintro w' w4 en T cy ⟨he,hb4,hg4,hs4⟩ hst;have lT:T.length=j+2:=by rw[hst.len];exact HLW.out.symm
   have hsum:=hst.eq;rw[<-HLW.out,HDX.out,List.take_append_of_le_length (by rw[HSL.out];omega),List.take_of_length_le (by rw[HSL.out];omega),List.take_of_length_le (by rw[<-HLW.out];omega),hSv2.out]at hsum
   have hTb:=hst.words.lt;rw[lT]at hTb
   have hlt9:R%val W<Al (j+2):=Dk (Nat.mod_lt _ HD0.out) HDd.out;have hcy:=hst.carry;have hcy1:cy=1:=by
    rcases Nat.eq_zero_or_pos cy with h0|h0
    .rw[h0]at hsum;omega
    .omega
   subst hcy1;have hT:T=wordsOf (R%val W) (j+2):=Gc lT hst.words (by omega);refine⟨he,?_,hg4,hs4⟩;unfold Hm;rw[<-hT];exact hb4)
  have k0:IntKind.u32.wrap 4294967296=0:=by decide
  refine Aj (by kernel_rfl) (by kernel_rfl)
   [some (.slice (some ⟨g,o,none⟩) (j+2+1) c),some (.int .i64 ((j:Int)+2)),some (.pointer (some ⟨g,o+(j+2),none⟩)),some (.int .u32 4294967295),some (.slice (some ⟨g,o,none⟩) (j+2+1) c),some (.slice q (j+2) e),none,some (.int .u32 0),some (.pointer (some ⟨g,o+(j+2),none⟩)),none]
   [false,false,false,false,false,false,true,false,false,true] rfl
   (fun _ _=>True)
   (fun D w'=>w.grownBy w' (some g)/\w'.heap.size<=w.heap.size/\Bi w' g 129 .u32 (if D 9 then Hm xs o (wordsOf (R%val W) (j+2+1)) else if D 6 then Hm xs2 o (wordsOf (R%val W) (j+2)) else xs2))
   (fun i v _=>i=6->v=.int .u32 1)
   (fun _ _ _ _ h _=>h) ⟨grownBy_trans hg3 (Gw _ 1 _),Nat.le_of_eq HS3.out,hb3⟩ ?_ ?_
  .simp only[Bh,Nat.reduceAdd];refine⟨?_,?_,?_,?_,?_,?_,?_,?_,?_,?_,trivial⟩
   case refine_4=>
    intro D sp w' hD hW1 hdp ⟨hgr,hsz,hblk⟩;have h9:D 9=false:=hW1 9 (mq (by kernel_rfl));rw[h9]at hblk
    simp only[Bool.false_eq_true,if_false]at hblk;have hcl:=HC.out _ w' hblk;simp[asked,Region.wanted,Oper.gives,execOp,Act.eval,Act.put,go_sem,hcl]
   case refine_7=>
    intro D sp w' hD hW1 hdp ⟨hgr,hsz,hblk⟩;have h9:D 9=false:=hW1 9 (mq (by kernel_rfl));rw[h9,hD]at hblk
    simp only[Bool.false_eq_true,if_false]at hblk
    (with_reducible refine Ad (w1:=w') (f := 229) (args:=#[.slice (some ⟨g,o,none⟩) (j+2+1) c,.slice q (j+2) e]) ?_ ?_ ?_)
    .simp only[Region.wanted]
    .simp[Act.eval,Act.put,go_sem]
    .refine(Qo w' g o _ c xs2 q (j+2) e W hblk wx2 (hW.grown hgr hq) wW hq (by omega) (by omega) (by omega)).mono ?_;rintro en w4 ⟨T,cy,hgt,hst⟩;have h8:=HT.out _ _ _ _ _ hgt hst;refine⟨_,h8.1,trivial,fun _=>rfl,grownBy_trans hgr h8.2.2.1,(by rw[h8.2.2.2];exact hsz),?_⟩;simp only[h9,Bool.false_or,decide_true,Bool.or_true,if_true];exact h8.2.1
   case refine_8=>
    intro D sp w' hD hW1 hdp ⟨hgr,hsz,hblk⟩;have k6:sp 6=.int .u32 1:=(hdp 6 (mq (by kernel_rfl))).2 rfl;simp[asked,Region.wanted,Oper.gives,execOp,Act.eval,Act.put,go_sem,k6,k0]
   case refine_10=>
    intro D sp w' hD hW1 hdp ⟨hgr,hsz,hblk⟩;have h6:=(hdp 6 (mq (by kernel_rfl))).1;rw[h6,hD]at hblk
    simp only[Bool.false_eq_true,if_false,if_true]at hblk;have h8:=HF.out w' hblk;have hcl:=h8.1;have hfr:=hblk.free (o+(j+2))
    (with_reducible refine Aq (w1:=w'.setCell ⟨g,o+(j+2),none⟩ (.int .u32 0)) ?_ ?_ ?_)
    .simp only[Region.wanted]
    .simp[execOp,Act.eval,Act.put,go_sem,hcl,hfr]
    .refine⟨trivial,(fun h=>by simp at h),grownBy_trans hgr (grownBy_setCell _ _ _ _),by simpa using hsz,?_⟩;simp only[decide_true,Bool.or_true,if_true];exact h8.2
   all_goals
    intro D sp w' hD hW1 hdp ⟨hgr,hsz,hblk⟩;simp[asked,Region.wanted,Oper.gives,execOp,Act.eval,Act.put,go_sem,i2,i3,i4]
  .intro sp w' hsp ⟨hgr,hsz,hblk⟩;have hblk2:Bi w' g 129 .u32 (Hm xs o (wordsOf (R%val W) (j+2+1))):=hblk;clear hblk hsp;simp only[Ak,Nat.reduceAdd];generalize sp 6=u6,sp 9=u9 at *
   go_simp
   go_wp2;go_ret;refine⟨congrArg (fun z:Int=>Ending.returned (.int .u32 z)) (by have:=hov2.out;generalize R/val W=z at *;omega),hblk2,hgr,Nat.le_antisymm hsz hgr.size⟩
theorem Ny:∀(xs:List Nat) (i y:Nat),i<xs.length->val (xs.set i y)+Al i*xs.getD i 0=val xs+Al i*y
 | x::xs,0,y,_=>by simp[val,Fh];omega
 | x::xs,i+1,y,h=>by
  have e:=Ny xs i y (by simpa using h);simp only[List.set_cons_succ,val,List.getD_cons_succ,Bk];have e1:4294967296*Al i*xs.getD i 0=4294967296*(Al i*xs.getD i 0):=Nat.mul_assoc _ _ _;have e2:4294967296*Al i*y=4294967296*(Al i*y):=Nat.mul_assoc _ _ _;rw[e1,e2];omega
theorem Words.set {xs:List Nat}(h:Words xs)(i:Nat){y:Nat}(hy:y<4294967296):Words (xs.set i y):=by
 intro z hz;rcases List.mem_or_eq_of_mem_set hz with h1|rfl
 .exact h z h1
 .exact hy
theorem Hd {s c:Nat}(h:s+c=32):2^s*2^c=4294967296:=by rw[<-Nat.pow_add,h]
theorem Ot {d x s c:Nat}(h:s+c=32)(hd:d<2^s)(hx:x<4294967296) :
  d ||| (x*2^s%4294967296)=(d+x*2^s)%4294967296/\(d+x*2^s)/4294967296=x/2^c/\x/2^c<4294967296:=by
 have hp:=Hd h;have hs:0<2^s:=Nat.pow_pos (by omega);have hc:0<2^c:=Nat.pow_pos (by omega);have e1:x*2^s%4294967296=x%2^c*2^s:=by
  rw[<-hp,Nat.mul_comm (2^s) (2^c),Nat.mul_mod_mul_right]
 have e2:x*2^s/4294967296=x/2^c:=by
  rw[<-hp,Nat.mul_comm (2^s) (2^c),Nat.mul_div_mul_right _ _ hs]
 have hm:x%2^c<2^c:=Nat.mod_lt _ hc;have h1:x%2^c*2^s+2^s<=4294967296:=by
  have:=Nat.mul_le_mul_right (2^s) (Nat.succ_le_of_lt hm);rw[Nat.succ_eq_add_one,Nat.add_mul,Nat.one_mul,Nat.mul_comm (2^c),hp]at this
  exact this
 have hdm:=Nat.div_add_mod (x*2^s) 4294967296;rw[e1,e2]at hdm
 refine⟨?_,?_,?_⟩
 .rw[e1,Nat.or_comm,nat_join s (x%2^c*2^s) d (Nat.mul_mod_left _ _) hd];omega
 .omega
 .exact Nat.lt_of_le_of_lt (Nat.div_le_self _ _) hx
theorem Yc {V k x n s c:Nat}(h:s+c=32)(hV:V<Al k*2^s)(hx:x<4294967296)(hk:k+1<n) :
  V/Al k%4294967296<2^s/\((wordsOf V n).set k ((V/Al k%4294967296+x*2^s)%4294967296)).set (k+1) (x/2^c)=wordsOf (V+Al k*(x*2^s)) n:=by
 have hB:=Fs k;have hp:=Hd h;have hs32:2^s<=4294967296:=by rw[<-hp];exact Nat.le_mul_of_pos_right _ (Nat.pow_pos (by omega))
 have hd:V/Al k<2^s:=by rw[Nat.div_lt_iff_lt_mul hB,Nat.mul_comm];exact hV
 have hd':V/Al k%4294967296<2^s:=Nat.lt_of_le_of_lt (Nat.mod_le _ _) hd;refine⟨hd',?_⟩;have hVk:V<Al (k+1):=by
  rw[Bk,Nat.mul_comm];exact Dk hV (Nat.mul_le_mul_left _ hs32)
 have hVn:V<Al n:=Dk hVk (Bz (by omega));obtain⟨h1,h2,h3⟩:=Ot h hd' hx;have e0:(wordsOf V n).getD k 0=V/Al k%4294967296:=by rw[Dv,Cx (by omega)];rfl
 have e1:(wordsOf V n).getD (k+1) 0=0:=by
  rw[Dv,Cx (by omega),Nat.div_eq_of_lt hVk];rfl
 generalize V/Al k%4294967296=d at *;generalize x/2^c=y at *;have hm:(d+x*2^s)%4294967296<4294967296:=Nat.mod_lt _ (by omega);have hdm:=Nat.div_add_mod (d+x*2^s) 4294967296;rw[h2]at hdm
 generalize (d+x*2^s)%4294967296=z at *;refine Gc (by simp[An]) (((Ck _ _).set _ hm).set _ h3) ?_;have v1:=Ny (wordsOf V n) k z (by rw[An];omega);have v2:=Ny ((wordsOf V n).set k z) (k+1) y (by simp[An];omega);have e3:((wordsOf V n).set k z).getD (k+1) 0=0:=by
  rw[Dv,List.getElem?_set_ne (by omega),<-Dv,e1]
 rw[e3,Nat.mul_zero,Nat.add_zero,Bk]at v2
 rw[e0,Cb hVn]at v1
 have e4:4294967296*Al k*y=Al k*(4294967296*y):=by ac_rfl
 have e5:Al k*(4294967296*y)+Al k*z=Al k*d+Al k*(x*2^s):=by rw[<-Nat.mul_add,hdm,Nat.mul_add]
 omega
theorem cK (x:Nat)(w:World)(hx:x<4294967296) :
  Calls Tryz.prog 201 #[.int .u32 x] w fun e w'=>e=.returned (.int .i64 ((32-Ay x:Nat):Int))/\w=w':=by
 have hb:Ay x<=32:=(Cj x 32).2 hx;go_enter Tryz.func201,Tryz.ntmps201
 go_wp2_with fail
 refine(Ni x w hx).mono ?_;rintro e w' ⟨rfl,rfl⟩;go_wp2;go_ret;exact⟨congrArg (fun z:Int=>Ending.returned (.int .i64 z)) (by omega),rfl⟩
theorem Ii (w:World)(p:Option Addr)(n c:Nat)(ws:List Nat)(s:Nat)(h:Row w .u32 p n c ws)(hw:Words ws)(hn:n<1000000)(hs:s<32) :
  Calls Tryz.prog 202 #[.slice p n c,.int .i64 s] w fun e w'=>e=.returned (.slice (some ⟨w.heap.size,0,none⟩) (n+1) (n+1))/\Bi w' w.heap.size 129 .u32 (wordsOf (val ws*2^s) (n+1))/\Below w.heap.size w w':=by
 have HL:=Af h.len;have hmk:=Ml (i:=(n:Int)+1) (n+1) (by omega) (by omega);obtain⟨cs,hcs⟩:∃cs,s+cs=32:=⟨32-s,by omega⟩
 have hc1:(32:Int)-s=(cs:Nat):=by omega
 go_enter Tryz.func202,Tryz.ntmps202;go_wp2
 go_loopw [14] (fun i wr=>∃k:Nat,k<=n/\i=.int .i64 k/\Below w.heap.size w wr/\w.heap.size<wr.heap.size/\Bi wr w.heap.size 129 .u32 (wordsOf (val (ws.take k)*2^s) (n+1))) (fun i _=>n-(intOf i).toNat)
 case atStart=>
  refine⟨0,by omega,rfl,(Bd _ _).alloc (Av _) _,by simp,?_⟩;rw[List.take_zero,val,Nat.zero_mul,Fn];exact Bi.zeros _ _ _ _
 case round=>
  obtain⟨k,hk,rfl,hbw,hsz,hblk⟩:=hrel
  by_cases hkn:k<n
  .obtain⟨b,off,rfl,hb,hc⟩:=h.pos (by omega);obtain⟨x,hx⟩:∃x,ws.getD k 0=x:=⟨_,rfl⟩
   have hcx:wr.cell? ⟨b,off+k,none⟩=some (.int .u32 (x:Nat)):=by
    rw[(Cd hbw).1 _ _ hb];exact Row.getAt hc (by have:=HL.out;omega) hx
   have hx4:x<4294967296:=by rw[<-hx];exact hw.get _
   obtain⟨V,hV⟩:∃V,val (ws.take k)*2^s=V:=⟨_,rfl⟩
   have hVlt:V<Al k*2^s:=by
    have h9:=(hw.take k).lt;rw[List.length_take,Nat.min_eq_left (by have:=HL.out;omega)]at h9
    rw[<-hV];exact Nat.mul_lt_mul_of_pos_right h9 (Nat.pow_pos (by omega))
   have HVN:Hid (val (ws.take (k+1))*2^s=V+Al k*(x*2^s)):=Af (by
    rw[Ar,hx,Nat.add_mul,hV,Nat.mul_assoc])
   rw[hV]at hblk
   obtain⟨hd,hup⟩:=Yc (n:=n+1) hcs hVlt hx4 (by omega);have hj:=Ot hcs hd hx4;obtain⟨d,hdd⟩:∃d,V/Al k%4294967296=d:=⟨_,rfl⟩
   rw[hdd]at hd hup hj
   have hd4:d<4294967296:=by rw[<-hdd];exact Nat.mod_lt _ (by omega)
   have hget:(wordsOf V (n+1))[k]? = some d:=by rw[Cx (by omega),hdd]
   obtain⟨Z,hZ⟩:∃Z,(d+x*2^s)%4294967296=Z:=⟨_,rfl⟩
   rw[hZ]at hup hj
   have hpi:(x:Int)*2^s=((x*2^s:Nat):Int):=by simp
   have ts:IntKind.u32.wrap ((x:Int)*2^s)=((x*2^s%4294967296:Nat):Int):=by
    rw[hpi,IntKind.wrap_u32'];omega
   obtain⟨y,hy⟩:∃y,x*2^s%4294967296=y:=⟨_,rfl⟩
   have hy4:y<4294967296:=by rw[<-hy];exact Nat.mod_lt _ (by omega)
   rw[hy]at ts hj
   have tor:bits BinOp.or IntKind.u32 (d:Int) (y:Int)=(Z:Int):=by rw[u32_or_nat _ _ hd4 hy4,hj.1]
   have HUP:=Af hup;have HGET:=Af hget;clear hc hx hV hVlt hd hup hj hdd hget hZ hpi hy;have k1:(k:Int)<(n:Int)+1:=by omega
   go_wp2;refine Aj (by kernel_rfl) (by kernel_rfl)
    [some (.slice (some ⟨w.heap.size,0,none⟩) (n+1) (n+1)),some (.int .i64 k),some (.pointer (some ⟨w.heap.size,k,none⟩)),some (.int .u32 d),some (.int .u32 x),some (.int .i64 s),some (.int .u32 y),some (.int .u32 Z),some (.pointer (some ⟨w.heap.size,k,none⟩)),none]
    [false,false,false,false,false,false,false,false,false,true] rfl
    (fun _ _=>True)
    (fun D w'=>Below w.heap.size w w'/\w.heap.size<w'.heap.size/\Bi w' w.heap.size 129 .u32 (if D 9 then (wordsOf V (n+1)).set k Z else wordsOf V (n+1)))
    (fun _ _ _=>True)
    (fun _ _ _ _ h _=>h) ⟨hbw.trans (Bd _ _).drew,hsz,hblk⟩ ?_ ?_
   .simp only[Bh,Nat.reduceAdd];refine⟨?_,?_,?_,?_,?_,?_,?_,?_,?_,?_,trivial⟩
    case refine_4=>
     intro D sp w' hD hW1 hdp ⟨hbw',hsz',hblk'⟩;have h9:D 9=false:=hW1 9 (mq (by kernel_rfl));rw[h9]at hblk'
     simp only[Bool.false_eq_true,if_false]at hblk';have hcl:=hblk'.cell HGET.out;simp[asked,Region.wanted,Oper.gives,execOp,Act.eval,Act.put,go_sem,hcl]
    case refine_10=>
     intro D sp w' hD hW1 hdp ⟨hbw',hsz',hblk'⟩;rw[hD]at hblk'
     simp only[Bool.false_eq_true,if_false]at hblk';have hcl:=hblk'.cell HGET.out;have hfr:=hblk'.free k
     (with_reducible refine Aq (w1:=w'.setCell ⟨w.heap.size,k,none⟩ (.int .u32 Z)) ?_ ?_ ?_)
     .simp only[Region.wanted]
     .simp[execOp,Act.eval,Act.put,go_sem,hcl,hfr]
     .refine⟨trivial,trivial,hbw'.setCell (by simp) _,by simpa using hsz',?_⟩;simp only[decide_true,Bool.or_true,if_true];exact hblk'.set _ _
    all_goals
     intro D sp w' hD hW1 hdp ⟨hbw',hsz',hblk'⟩;simp[asked,Region.wanted,Oper.gives,execOp,Act.eval,Act.put,go_sem,k1,ts,tor]
   .intro sp w' hsp ⟨hbw',hsz',hblk'⟩;have hblk2:Bi w' w.heap.size 129 .u32 ((wordsOf V (n+1)).set k Z):=hblk';clear hblk' hsp ts tor;simp only[Ak,Nat.reduceAdd];generalize sp 9=u9 at *;have hc2:w'.cell? ⟨w.heap.size,k+1,none⟩=some (.int .u32 ((((wordsOf V (n+1)).set k Z).getD (k+1) 0:Nat):Int)) :=
     hblk2.cell (by rw[Dv];simp[An,show k+1<n+1 by omega])
    have hf2:=hblk2.free (k+1);have hb3:=hblk2.set (k+1) (x/2^cs);rw[HUP.out]at hb3
    have HB3:=Af hb3;have HC2:=Af hblk2;clear hb3 hblk2
    go_simp
    go_wp2;go_roundw
    case rel=>
     refine⟨k+1,by omega,by go_num,hbw'.setCell (Av _) _,by simpa using hsz',?_⟩;have e:((x:Int)/2^cs)=((x/2^cs:Nat):Int):=by simp[Int.natCast_ediv]
     rw[HVN.out,e];exact HB3.out
    case measure=>simp[intOf];omega
  .have hkn':n<=k:=by omega
   have e:Hid (val (ws.take k)=val ws):=Af (by rw[List.take_of_length_le (by have:=HL.out;omega)]);go_wp2;go_ret;rw[e.out]at hblk
   exact⟨rfl,hblk,hbw⟩
theorem Xl {x n s:Nat}(hx:x<4294967296)(hn:0<n):(wordsOf 0 n).set 0 (x/2^s)=wordsOf (x/2^s) n:=by
 have h4:x/2^s<4294967296:=Nat.lt_of_le_of_lt (Nat.div_le_self _ _) hx;refine Gc (by simp[An]) ((Ck _ _).set _ h4) ?_;have v:=Ny (wordsOf 0 n) 0 (x/2^s) (by rw[An];exact hn);rw[Fn]at v ⊢
 rw[Hb,Fh]at v
 have e:(List.replicate n 0).getD 0 0=0:=by
  cases n with
  | zero=>rfl
  | succ n=>rfl
 rw[e]at v
 omega
theorem cY {V k x s c:Nat}(h:s+c=32):(V+Al (k+1)*x)/2^s=V/2^s+Al k*(x*2^c):=by
 have hs:0<2^s:=Nat.pow_pos (by omega);have e:Al (k+1)*x=Al k*(x*2^c)*2^s:=by
  rw[Bk,<-Hd h]
  ac_rfl
 rw[e,Nat.add_mul_div_right _ _ hs]
theorem fG {V k s c:Nat}(h:s+c=32)(hV:V<Al (k+1)):V/2^s<Al k*2^c:=by
 have hs:0<2^s:=Nat.pow_pos (by omega);rw[Nat.div_lt_iff_lt_mul hs];rw[Bk,<-Hd h]at hV
 have e:2^s*2^c*Al k=Al k*2^c*2^s:=by ac_rfl
 rwa [e]at hV
theorem Li (w:World)(p:Option Addr)(n c:Nat)(ws:List Nat)(s:Nat)(h:Row w .u32 p n c ws)(hw:Words ws)(hn:n<1000000)(hs:s<32) :
  Calls Tryz.prog 204 #[.slice p n c,.int .i64 s] w fun e w'=>e=.returned (.slice (some ⟨w.heap.size,0,none⟩) n n)/\Bi w' w.heap.size 129 .u32 (wordsOf (val ws/2^s) n)/\Below w.heap.size w w':=by
 have HL:=Af h.len;have hmk:=Fz n (by omega);obtain⟨cs,hcs⟩:∃cs,s+cs=32:=⟨32-s,by omega⟩
 have hcs':cs+s=32:=by omega
 have hc1:(32:Int)-s=(cs:Nat):=by omega
 go_enter Tryz.func204,Tryz.ntmps204;go_wp2
 go_loopw [13] (fun i wr=>∃k:Nat,k<=n/\i=.int .i64 k/\Below w.heap.size w wr/\w.heap.size<wr.heap.size/\Bi wr w.heap.size 129 .u32 (wordsOf (val (ws.take k)/2^s) n)) (fun i _=>n-(intOf i).toNat)
 case atStart=>
  refine⟨0,by omega,rfl,(Bd _ _).alloc (Av _) _,by simp,?_⟩;rw[List.take_zero,val,Nat.zero_div,Fn];exact Bi.zeros _ _ _ _
 case round=>
  obtain⟨k,hk,rfl,hbw,hsz,hblk⟩:=hrel
  by_cases hkn:k<n
  .obtain⟨b,off,rfl,hb,hc⟩:=h.pos (by omega);obtain⟨x,hx⟩:∃x,ws.getD k 0=x:=⟨_,rfl⟩
   have hcx:wr.cell? ⟨b,off+k,none⟩=some (.int .u32 (x:Nat)):=by
    rw[(Cd hbw).1 _ _ hb];exact Row.getAt hc (by have:=HL.out;omega) hx
   have hx4:x<4294967296:=by rw[<-hx];exact hw.get _
   have hxs:((x:Int)/2^s)=((x/2^s:Nat):Int):=by simp[Int.natCast_ediv]
   have HXS:=Af hxs;have HTK:=Af (Ar ws k);rw[hx]at HTK
   obtain⟨V,hV⟩:∃V,val (ws.take k)/2^s=V:=⟨_,rfl⟩
   rw[hV]at hblk
   have hcl0:∃z:Nat,(wordsOf V n)[k]? = some z:=⟨_,Cx hkn⟩
   obtain⟨z0,hz0⟩:=hcl0;have hcl1:wr.cell? ⟨w.heap.size,k,none⟩=some (.int .u32 (z0:Nat)):=hblk.cell hz0;have hfr1:=hblk.free k;have hb1:=hblk.set k (x/2^s);rw[<-hxs]at hb1
   cases k with
   | zero=>
    have hV0:V=0:=by rw[<-hV,List.take_zero,val,Nat.zero_div]
    have HF:Hid ((wordsOf V n).set 0 (x/2^s)=wordsOf (val (ws.take 1)/2^s) n):=Af (by
     have e1:=HTK.out;rw[List.take_zero,val,Fh,Nat.one_mul,Nat.zero_add]at e1
     rw[hV0,Xl hx4 hkn,e1];simp only[Nat.zero_add])
    have HB1:=Af hb1;clear hc hx hV hV0 hz0 hb1 hxs;rw[Nat.add_zero]at hcx
    go_wp2;go_roundw
    case rel=>
     have:=HB1.out;rw[HF.out]at this
     exact⟨1,by omega,by go_num,hbw.setCell (Av _) _,by simpa using hsz,this⟩
    case measure=>simp[intOf];omega
   | succ k=>
    have hVk:val (ws.take (k+1))<Al (k+1):=by
     have h9:=(hw.take (k+1)).lt
     rwa [List.length_take,Nat.min_eq_left (by have:=HL.out;omega)]at h9
    have hVlt:=fG hcs hVk;have hVN:Hid (val (ws.take (k+1+1))/2^s=V+Al k*(x*2^cs)):=Af (by
     rw[HTK.out,cY hcs,hV])
    rw[hV]at hVlt
    obtain⟨hd,hup⟩:=Yc (n:=n) hcs' hVlt hx4 (by omega);have hj:=Ot hcs' hd hx4;obtain⟨d,hdd⟩:∃d,V/Al k%4294967296=d:=⟨_,rfl⟩
    rw[hdd]at hd hup hj
    have hd4:d<4294967296:=by rw[<-hdd];exact Nat.mod_lt _ (by omega)
    have hget:((wordsOf V n).set (k+1) (x/2^s))[k]? = some d:=by
     rw[List.getElem?_set_ne (by omega),Cx (by omega),hdd]
    obtain⟨Z,hZ⟩:∃Z,(d+x*2^cs)%4294967296=Z:=⟨_,rfl⟩
    rw[hZ]at hup hj
    rw[List.set_comm _ _ (by omega)]at hup
    have hpi:(x:Int)*2^cs=((x*2^cs:Nat):Int):=by simp
    have ts:IntKind.u32.wrap ((x:Int)*2^cs)=((x*2^cs%4294967296:Nat):Int):=by
     rw[hpi,IntKind.wrap_u32'];omega
    obtain⟨y,hy⟩:∃y,x*2^cs%4294967296=y:=⟨_,rfl⟩
    have hy4:y<4294967296:=by rw[<-hy];exact Nat.mod_lt _ (by omega)
    rw[hy]at ts hj
    have tor:bits BinOp.or IntKind.u32 (d:Int) (y:Int)=(Z:Int):=by rw[u32_or_nat _ _ hd4 hy4,hj.1]
    have HUP:=Af hup;have HGET:=Af hget;have HB1:=Af hb1;clear hc hx hV hVlt hd hup hj hdd hget hZ hpi hy hVk hb1 hz0 hxs;go_wp2;have i1:IntKind.i64.wrap (k:Int)=(k:Int):=IntWalk.i64_in _ (by omega);have i4:IntKind.i64.wrap (cs:Int)=(cs:Int):=IntWalk.i64_in _ (by omega);have i2:(k:Int)+1-1=k:=by omega
    have i3:(k:Int)<n:=by omega
    refine Aj (by kernel_rfl) (by kernel_rfl)
     [some (.slice (some ⟨w.heap.size,0,none⟩) n n),some (.int .i64 (k+1:Nat)),some (.int .i64 k),some (.pointer (some ⟨w.heap.size,k,none⟩)),some (.int .u32 d),some (.int .u32 x),some (.int .i64 s),some (.int .i64 cs),some (.int .u32 y),some (.int .u32 Z),some (.pointer (some ⟨w.heap.size,k,none⟩)),none]
     [false,false,false,false,false,false,false,false,false,false,false,true] rfl
     (fun _ _=>True)
     (fun D w'=>Below w.heap.size w w'/\w.heap.size<w'.heap.size/\Bi w' w.heap.size 129 .u32 (if D 11 then ((wordsOf V n).set (k+1) (x/2^s)).set k Z else (wordsOf V n).set (k+1) (x/2^s)))
     (fun _ _ _=>True)
     (fun _ _ _ _ h _=>h) ⟨(hbw.setCell (Av _) _).trans (Bd _ _).drew,by simpa using hsz,HB1.out⟩ ?_ ?_
    .simp only[Bh,Nat.reduceAdd];refine⟨?_,?_,?_,?_,?_,?_,?_,?_,?_,?_,?_,?_,trivial⟩
     case refine_5=>
      intro D sp w' hD hW1 hdp ⟨hbw',hsz',hblk'⟩;have h9:D 11=false:=hW1 11 (mq (by kernel_rfl));rw[h9]at hblk'
      simp only[Bool.false_eq_true,if_false]at hblk';have hcl:=hblk'.cell HGET.out;simp[asked,Region.wanted,Oper.gives,execOp,Act.eval,Act.put,go_sem,hcl]
     case refine_12=>
      intro D sp w' hD hW1 hdp ⟨hbw',hsz',hblk'⟩;rw[hD]at hblk'
      simp only[Bool.false_eq_true,if_false]at hblk';have hcl:=hblk'.cell HGET.out;have hfr:=hblk'.free k
      (with_reducible refine Aq (w1:=w'.setCell ⟨w.heap.size,k,none⟩ (.int .u32 Z)) ?_ ?_ ?_)
      .simp only[Region.wanted]
      .simp[execOp,Act.eval,Act.put,go_sem,hcl,hfr]
      .refine⟨trivial,trivial,hbw'.setCell (by simp) _,by simpa using hsz',?_⟩;simp only[decide_true,Bool.or_true,if_true];exact hblk'.set _ _
     all_goals
      intro D sp w' hD hW1 hdp ⟨hbw',hsz',hblk'⟩;simp[asked,Region.wanted,Oper.gives,execOp,Act.eval,Act.put,go_sem,i1,i2,i3,i4,hc1,ts,tor]
    .intro sp w' hsp ⟨hbw',hsz',hblk'⟩;have hblk2:Bi w' w.heap.size 129 .u32 (((wordsOf V n).set (k+1) (x/2^s)).set k Z):=hblk';clear hblk' hsp ts tor;rw[HUP.out]at hblk2
     simp only[Ak,Nat.reduceAdd];generalize sp 11=u11 at *
     go_simp
     go_wp2;go_roundw
     case rel=>exact⟨k+1+1,by omega,by go_num,hbw',hsz',by rw[hVN.out];exact hblk2⟩
     case measure=>simp[intOf];omega
  .have hkn':n<=k:=by omega
   have e:Hid (val (ws.take k)=val ws):=Af (by rw[List.take_of_length_le (by have:=HL.out;omega)]);go_wp2;go_ret;rw[e.out]at hblk
   exact⟨rfl,hblk,hbw⟩
theorem Nz (X:List Nat)(i:Nat)(h:i<=X.length):val X=val (X.take i)+Al i*val (X.drop i):=by
 conv=>lhs;rw[<-List.take_append_drop i X]
 rw[val_append,List.length_take,Nat.min_eq_left h]
structure Ig (N D nb na m:Nat) (X Q:List Nat):Prop where
 lx:X.length=na+1
 wx:Words X
 lq:Q.length+m=na+1-nb
 wq:Words Q
 lt:val (X.drop m)<D
 eq:N=val X+Al m*(val Q*D)
theorem Ig.step {N D nb na i:Nat}{X Q:List Nat}(h:Ig N D nb na (i+1) X Q)(hD:D<=Al nb)(hi:i+1+nb<=na+1) :
  val ((X.drop i).take (nb+1))<D*4294967296/\Ig N D nb na i (Hm X i (wordsOf (val ((X.drop i).take (nb+1))%D) (nb+1))) (val ((X.drop i).take (nb+1))/D::Q):=by
 have lx:=h.lx;have hD0:0<D:=Nat.lt_of_le_of_lt (Nat.zero_le _) h.lt;obtain⟨R,hR⟩:∃R,val ((X.drop i).take (nb+1))=R:=⟨_,rfl⟩
 rw[hR];have hx:=h.wx.get i;have e1:X.drop i=X.getD i 0::X.drop (i+1):=by
  rw[List.drop_eq_getElem_cons (by omega),Dv];simp[show i<X.length by omega]
 have e2:val (X.drop i)=X.getD i 0+4294967296*val (X.drop (i+1)):=by rw[e1];rfl
 have hlt:val (X.drop i)<D*4294967296:=by
  have:=h.lt;rw[e2];omega
 have e3:=Nz (X.drop i) (nb+1) (by rw[List.length_drop];omega);rw[hR]at e3
 have hz:val ((X.drop i).drop (nb+1))=0:=by
  rcases Nat.eq_zero_or_pos (val ((X.drop i).drop (nb+1))) with h0|h0
  .exact h0
  .exfalso;have h1:=Nat.mul_le_mul_left (Al (nb+1)) h0;rw[Nat.succ_eq_add_one,Nat.zero_add,Nat.mul_one,Bk]at h1
   rw[Bk]at e3
   omega
 rw[hz,Nat.mul_zero,Nat.add_zero]at e3
 have hRl:R<D*4294967296:=by rw[<-e3];exact hlt
 have hq:R/D<4294967296:=by rw[Nat.div_lt_iff_lt_mul hD0,Nat.mul_comm];exact hRl
 have hr:R%D<D:=Nat.mod_lt _ hD0;have hrB:R%D<Al (nb+1):=by
  have:Al nb<=Al (nb+1):=Bz (by omega);omega
 refine⟨hRl,?_⟩;have hw:(wordsOf (R%D) (nb+1)).length=nb+1:=An _ _;have hpl:i+(wordsOf (R%D) (nb+1)).length<=X.length:=by rw[hw];omega
 have e4:val ((Hm X i (wordsOf (R%D) (nb+1))).drop i)=R%D:=by
  rw[Hm.drop hpl,val_append,hw,<-List.drop_drop,hz,Nat.mul_zero,Nat.add_zero,Cb hrB]
 have e5:(Hm X i (wordsOf (R%D) (nb+1))).take i=X.take i:=Tr (by omega);refine⟨by rw[Hm.length hpl,lx],Hm.words h.wx (Ck _ _),by have:=h.lq;simp;omega,?_,by rw[e4];exact hr,?_⟩
 .intro z hz;rcases List.mem_cons.1 hz with rfl|hz
  .exact hq
  .exact h.wq z hz
 .have e6:=Nz X i (by omega);have e7:=Nz (Hm X i (wordsOf (R%D) (nb+1))) i (by rw[Hm.length hpl];omega);rw[e5,e4]at e7
  rw[e3]at e6
  have e8:=h.eq;rw[e8,e7,e6,Bk];have hdm:=Nat.div_add_mod R D;simp only[val];have e9:Al i*((R/D+4294967296*val Q)*D)=Al i*(D*(R/D))+4294967296*Al i*(val Q*D):=by
   rw[Nat.add_mul,Nat.mul_add]
   congr 1
   .rw[Nat.mul_comm (R/D) D]
   .ac_rfl
  have e10:Al i*R=Al i*(D*(R/D))+Al i*(R%D):=by rw[<-Nat.mul_add,hdm]
  rw[e9,e10];omega
theorem Ig.last {N D nb na:Nat}{X Q:List Nat}(h:Ig N D nb na 0 X Q):val Q=N/D/\val X=N%D:=by
 have h1:=h.lt;rw[List.drop_zero]at h1
 have h2:=h.eq;rw[Fh,Nat.one_mul]at h2
 have hD0:0<D:=Nat.lt_of_le_of_lt (Nat.zero_le _) h1;constructor
 .rw[h2,Nat.add_mul_div_right _ _ hD0,Nat.div_eq_of_lt h1,Nat.zero_add]
 .rw[h2,Nat.add_mul_mod_self_right,Nat.mod_eq_of_lt h1]
theorem Ug {W:List Nat}{d s t:Nat}(hW:Words W)(hl:W.length=d+1)(ht:W.getD d 0=t)(h0:0<t)(hs:s+Ay t=32) :
  val W*2^s<Al (d+1)/\Al d*2147483648<=val W*2^s:=by
 have h4:t<4294967296:=by rw[<-ht];exact hW.get d
 have e:=Ar W d;rw[List.take_of_length_le (by omega),ht]at e
 have hlo:val (W.take d)<Al d:=by
  have:=(hW.take d).lt
  rwa [List.length_take,Nat.min_eq_left (by omega)]at this
 have hb1:t<2^Ay t:=Og t;have hb2:2^(Ay t-1)<=t:=by
  rcases Nat.lt_or_ge t (2^(Ay t-1)) with h1|h1
  .have:=(Cj t (Ay t-1)).2 h1;have:=Ly h0;omega
  .exact h1
 have hp:2^Ay t*2^s=4294967296:=Hd (by omega);constructor
 .have h5:val W<Al d*2^Ay t:=by
   rw[e];have:=Nat.mul_le_mul_left (Al d) (Nat.succ_le_of_lt hb1);rw[Nat.succ_eq_add_one,Nat.mul_add,Nat.mul_one]at this
   omega
  have h6:=Nat.mul_lt_mul_of_pos_right h5 (Nat.pow_pos (n:=s) (show 0<2 by omega));rw[Nat.mul_assoc,hp]at h6
  rw[Bk,Nat.mul_comm];rw[Nat.mul_comm (val W)]at h6;rw[Nat.mul_comm 4294967296];exact h6
 .have h5:Al d*2^(Ay t-1)<=val W:=by
   rw[e];exact Eo (Nat.mul_le_mul_left (Al d) hb2) (Nat.le_add_left _ _)
  have h6:=Nat.mul_le_mul_right (2^s) h5;have hp2:2^(Ay t-1)*2^s=2147483648:=by
   have hb:=Ly h0;rw[<-Nat.pow_add,show Ay t-1+s=31 by omega]
  rw[Nat.mul_assoc,hp2]at h6
  exact h6
theorem Ig.start {A W:List Nat}{d na s t:Nat}(hA:Words A)(hAl:A.length=na)(hW:Words W)(hl:W.length=d+1)(ht:W.getD d 0=t)(h0:0<t)(hs:s+Ay t=32)(hle:d+1<=na) :
  Ig (val A*2^s) (val W*2^s) (d+1) na (na+1-(d+1)) (wordsOf (val A*2^s) (na+1)) []:=by
 have hN:val A*2^s<Al na*2^s:=by
  have:=hA.lt;rw[hAl]at this
  exact Nat.mul_lt_mul_of_pos_right this (Nat.pow_pos (by omega))
 have hs31:s<=31:=by have:=Ly h0;omega
 have hp31:2^s<=2147483648:=Nat.pow_le_pow_right (show 0<2 by omega) hs31;have hNB:val A*2^s<Al (na+1):=by
  rw[Bk,Nat.mul_comm 4294967296];exact Dk hN (Nat.mul_le_mul_left _ (by omega))
 obtain⟨_,htop⟩:=Ug hW hl ht h0 hs;refine⟨An _ _,Ck _ _,by simp,Words.nil,?_,?_⟩
 .have e:=Nz (wordsOf (val A*2^s) (na+1)) (na+1-(d+1)) (by rw[An];omega);rw[Cb hNB]at e
  obtain⟨z,hz⟩:∃z,val ((wordsOf (val A*2^s) (na+1)).drop (na+1-(d+1)))=z:=⟨_,rfl⟩
  rw[hz]at e ⊢
  refine Dk ?_ htop;have e2:Al na=Al (na+1-(d+1))*Al d:=by rw[<-Th];congr 1;omega
  have h1:Al (na+1-(d+1))*z<Al (na+1-(d+1))*(Al d*2147483648):=by
   have h3:Al na*2^s<=Al (na+1-(d+1))*(Al d*2147483648):=by
    rw[e2,Nat.mul_assoc];exact Nat.mul_le_mul_left _ (Nat.mul_le_mul_left _ hp31)
   omega
  exact Nat.lt_of_mul_lt_mul_left h1
 .simp[val,Cb hNB]
def aY (N D:Nat)(w:World)(e:Ending)(w':World):Prop:=∃(p:Option Addr) (n:Nat) (Q:List Nat) (q:Option Addr) (m:Nat) (R:List Nat),e=.returned (.tuple #[.slice p n n,.slice q m m]) /\
 Row w' .u32 p n n Q/\Words Q/\val Q=N/D/\Row w' .u32 q m m R/\Words R/\val R=N%D/\Below w.heap.size w w'/\El w.heap.size p/\El w.heap.size q
theorem gR {w w1 w2:World}(h:Below w.heap.size w w1)(k:Below w1.heap.size w1 w2):Below w.heap.size w w2:=h.trans (k.mono h.size)
theorem Zk {N D s:Nat}:(N*2^s)%(D*2^s)/2^s=N%D:=by
 rw[Nat.mul_mod_mul_right,Nat.mul_div_cancel _ (Nat.pow_pos (by omega))]
theorem aE {N D s:Nat}:(N*2^s)/(D*2^s)=N/D:=Nat.mul_div_mul_right _ _ (Nat.pow_pos (by omega))
theorem Pj (w:World)(pa:Option Addr)(na ca:Nat)(A:List Nat)(pb:Option Addr)(d cb:Nat)(W:List Nat)(hA:Row w .u32 pa na ca A)(wA:Words A)(hW:Row w .u32 pb (d+1) cb W)(wW:Words W)(h0:0<W.getD d 0)(hd:1<=d)(hle:d+1<=na)(hs:na<900000) :
  Calls Tryz.prog 155 #[.slice pa na ca,.slice pb (d+1) cb] w (aY (val A) (val W) w):=by
 have HA:=Af hA.len;have HW:=Af hW.len;obtain⟨t,ht⟩:∃t,W.getD d 0=t:=⟨_,rfl⟩
 rw[ht]at h0
 have ht4:t<4294967296:=by rw[<-ht];exact wW.get d
 have hbt:Ay t<=32:=(Cj t 32).2 ht4;have hbt0:=Ly h0;obtain⟨s,hsv⟩:∃s,32-Ay t=s:=⟨_,rfl⟩
 have hs32:s<32:=by omega
 have hst0:=Ig.start wA HA.out.symm wW HW.out.symm ht h0 (by omega) hle (s:=s);obtain⟨hn1,hn2⟩:=Ug wW HW.out.symm ht h0 (show s+Ay t=32 by omega);obtain⟨N',hN'⟩:∃x,val A*2^s=x:=⟨_,rfl⟩
 obtain⟨D',hD'⟩:∃x,val W*2^s=x:=⟨_,rfl⟩
 rw[hN',hD']at hst0
 rw[hD']at hn1 hn2
 obtain⟨b,off,rfl,hb,hc⟩:=hW.pos (by omega);have hct:=Row.getAt hc (by have:=HW.out;omega) ht;have HSV:=Af hsv;have HN':=Af hN';have HD':=Af hD';have HST0:=Af hst0;have HN1:=Af hn1;have HN2:=Af hn2;clear hc ht hsv hN' hD' hst0 hn1 hn2;have hmk:=fun(w:World)=>Ml (i:=(na:Int)+1-((d:Int)+1)) (na+1-(d+1)) (by omega) (by omega) w
 go_enter Tryz.func155,Tryz.ntmps155
 go_wp2_with fail
 refine(cK t w ht4).mono ?_;rintro e w1 ⟨rfl,rfl⟩;rw[HSV.out]
 go_wp2_with fail
 refine(Ii w pa na ca A s hA wA (by omega) hs32).mono ?_;rintro e w1 ⟨rfl,hbA,hb1⟩;rw[HN'.out]at hbA
 go_wp2_with fail
 refine(Ii w1 _ (d+1) cb W s (hW.below hb1) wW (by omega) hs32).mono ?_;rintro e w2 ⟨rfl,hbW,hb2⟩;rw[HD'.out]at hbW
 have hbA2:=hbA.below hb2 hbA.lt;have hbw2:Below w.heap.size w w2:=hb1.trans (hb2.mono hb1.size);have hg1:=hbA.lt;have hg2:=hbW.lt;go_wp2;have hrowW:Row w2 .u32 (some ⟨w1.heap.size,0,none⟩) (d+1) (d+1+1) ((wordsOf D' (d+1+1)).take (d+1)):=(hbW.row (by rw[An]) (Av _) (by omega)).take (d+1) (by omega);obtain⟨Wn,hWn⟩:∃x,(wordsOf D' (d+1+1)).take (d+1)=x:=⟨_,rfl⟩
 have hWl:Wn.length=d+1:=by rw[<-hWn];simp[An]
 have hWw:Words Wn:=by rw[<-hWn];exact(Ck _ _).take _
 have hWv:val Wn=D':=by
  rw[<-hWn];have e1:(wordsOf D' (d+1+1)).take (d+1)=wordsOf D' (d+1):=by
   rw[Lf,List.take_append_of_le_length (by rw[An];omega),List.take_of_length_le (by rw[An];omega)]
  rw[e1,Cb HN1.out]
 have hWt:2147483648<=Wn.getD d 0:=by
  rw[<-digit Wn hWw d,hWv];have h1:2147483648<=D'/Al d:=by rw[Nat.le_div_iff_mul_le (Fs d),Nat.mul_comm];exact HN2.out
  have h2:D'/Al d<4294967296:=by
   rw[Nat.div_lt_iff_lt_mul (Fs d)];have:=HN1.out;rw[Bk]at this;exact this
  rw[Nat.mod_eq_of_lt h2];exact h1
 rw[hWn]at hrowW
 have HWL:=Af hWl;have HWV:=Af hWv;have HWT:=Af hWt;clear hWn hWl hWv hWt
 go_loopw [9] (fun i wr=>∃(m:Nat) (X Q:List Nat),m<=na-d/\i=.int .i64 ((m:Int)-1)/\Ig N' D' (d+1) na m X Q/\Bi wr w.heap.size 129 .u32 X/\Bi wr w2.heap.size 129 .u32 (List.replicate m 0++Q)/\Row wr .u32 (some ⟨w1.heap.size,0,none⟩) (d+1) (d+1+1) Wn/\Below w.heap.size w wr/\w2.heap.size<wr.heap.size) (fun i _=>(intOf i+1).toNat)
 case atStart=>
  refine⟨na-d,_,[],Av _,rfl,by have:=HST0.out;rwa [show na+1-(d+1)=na-d by omega]at this,hbA2.below ((Bd _ _).alloc (Av _) _) (by omega),by rw[List.append_nil];exact Bi.zeros _ _ _ _,hrowW.below ((Bd _ _).alloc (Av _) _),hbw2.alloc hbw2.size _,by simp⟩
 case round=>
  obtain⟨m,X,Q,hm,rfl,hst,hX,hQ,hrW,hbw,hsz⟩:=hrel
  cases m with
  | zero=>
   obtain⟨hq,hr⟩:=hst.last;have HST:=Af hst;have HQV:=Af hq;have HRV:=Af hr;clear hst hq hr;have hlq:Q.length=na-d:=by have:=HST.out.lq;omega
   have HLQ:=Af hlq;clear hlq;rw[List.replicate_zero,List.nil_append]at hQ
   go_wp2_with fail
   refine(Li wr _ (na+1) _ X s (hX.row HST.out.lx.symm (Av _) (by omega)) HST.out.wx (by omega) hs32).mono ?_;rintro en w3 ⟨rfl,hb3,hbl⟩;go_wp2
   go_ret2
   have hrv:val (wordsOf (val X/2^s) (na+1))=val A%val W:=by
    rw[HRV.out,<-HN'.out,<-HD'.out,Zk];refine Cb ?_;have h1:val A%val W<=val A:=Nat.mod_le _ _;have h2:=wA.lt;rw[<-HA.out]at h2
    have h3:Al na<=Al (na+1):=Bz (by omega);omega
   refine⟨some ⟨w2.heap.size,0,none⟩,na-d,Q,some ⟨wr.heap.size,0,none⟩,na+1,_,rfl,?_,HST.out.wq,?_,hb3.row (by rw[An]) (Av _) (by omega),Ck _ _,hrv,gR hbw hbl,?_,?_⟩
   .exact(hQ.row HLQ.out.symm (Av _) (by omega)).below hbl
   .rw[HQV.out,<-HN'.out,<-HD'.out,aE]
   .intro a ha;cases ha;exact hbw2.size
   .intro a ha;cases ha;exact hbw.size
  | succ i=>
   obtain⟨hRl,hst'⟩:=hst.step (Nat.le_of_lt HN1.out) (by omega);have e1:(((i+1:Nat):Int)-1)=(i:Int):=by omega
   simp only[e1];clear e1;have HST:=Af hst;have HST':=Af hst';clear hst hst'
   go_wp2_with fail
   refine(Qb wr w.heap.size i _ _ X (some ⟨w1.heap.size,0,none⟩) (d+1) (d+1+1) Wn _ hX HST.out.wx hrW hWw (fun a ha=>by cases ha;exact Nat.ne_of_gt hg1) (by omega) (by omega) (by omega) (by rw[HST.out.lx];omega) (by omega) (by omega) HWT.out rfl (by rw[HWV.out];exact hRl)).mono ?_;rintro en w3 ⟨rfl,hX',hgr,hsz3⟩;rw[HWV.out]at hX'
   rw[HWV.out];obtain⟨R,hR⟩:∃R,val ((X.drop i).take (d+1+1))=R:=⟨_,rfl⟩
   rw[hR]at hX' ⊢
   have HR:=Af hR;obtain⟨z,hz⟩:∃z,R/D'=z:=⟨_,rfl⟩
   rw[hz];have HZ:=Af hz;clear hR hz hX hRl;have hQ3:Bi w3 w2.heap.size 129 .u32 (List.replicate (i+1) 0++Q):=by
    unfold Bi at hQ ⊢;rw[hgr.block _ hsz (fun e=>by have:=Option.some.inj e;omega)];exact hQ
   have hcq:w3.cell? ⟨w2.heap.size,i,none⟩=some (.int .u32 (0:Nat)):=hQ3.cell (by rw[List.getElem?_append_left (by simp)];simp);have hfq:=hQ3.free i;have hset:=hQ3.set i z;rw[List.set_append_left _ _ (by simp),List.replicate_succ',List.set_append_right _ _ (by simp)]at hset
   have HSET:=Af hset;have hrW3:=hrW.grown hgr (fun a ha=>by cases ha;exact Nat.ne_of_gt hg1);have hbw3:Below w.heap.size w w3:=hbw.grown hgr hbw.size (fun j hj=>by cases hj;exact Av _);clear hset;go_wp2;go_roundw
   case rel=>
    refine⟨i,_,z::Q,by omega,rfl,by have:=HST'.out;rw[HR.out,HZ.out]at this;exact this,?_,?_,hrW3.setCell (fun a ha=>by cases ha;exact Nat.ne_of_lt hg2) _,hbw3.setCell (by have:=hbw2.size;exact this) _,by simp;omega⟩
    .have e:(w3.setCell ⟨w2.heap.size,i,none⟩ (.int .u32 z)).heap[w.heap.size]? = w3.heap[w.heap.size]? := heap_setCell_other w3 ⟨w2.heap.size,i,none⟩ w.heap.size _ (fun e=>by simp only at e;omega);unfold Bi at hX' ⊢;rw[e];exact hX'
    .have:=HSET.out;simpa using this
   case measure=>simp[intOf]
theorem Tp {B:Nat}{p q:Option Addr}(hp:p=none ∨ p=q)(hq:El B q):El B p:=by
 rcases hp with rfl|rfl
 .exact El.none _
 .exact hq
theorem cZ (w:World)(pa:Option Addr)(na ca N:Nat)(pb:Option Addr)(d cb M:Nat)(hA:Ah w pa na ca N)(hB:Ah w pb (d+1) cb M)(hd:1<=d)(hs:na<900000)(hsb:d<900000)(hle:M<=N) :
  Calls Tryz.prog 93 #[.agg #[.slice pa na ca],.agg #[.slice pb (d+1) cb]] w (Px N M w):=by
 have hbx:=Gg.mk4 w (.slice pa na ca) (.slice pb (d+1) cb) (.slice none 0 0) (.slice none 0 0) 37 37 37 37;have hdn:d+1<=na:=by
  rcases Nat.lt_or_ge na (d+1) with h|h
  .have:=hA.len_lt hB h;omega
  .exact h
 have hM:M≠0:=fun h=>by have:=hB.zero.2 h;omega
 have HM:=Af hM;have hdz:decide (d+1=0)=false:=by simp
 have hcm:decide (Bp N M<0)=false:=by
  have:¬Bp N M<0:=by unfold Bp;rw[if_neg (by omega)];split<;>omega
  simpa using this
 have HCM:=Af hcm;obtain⟨A,a1,a2,a3,a4⟩:=hA.ex;obtain⟨W,b1,b2,b3,b4⟩:=hB.ex;have htop:0<W.getD d 0:=by
  have hl:=b1.len;rcases Nat.eq_zero_or_pos (W.getD d 0) with h0|h0
  .exfalso;refine b3 ?_;rw[List.getLast?_eq_getElem?,<-hl,Nat.add_sub_cancel];rw[Dv]at h0
   rw[List.getElem?_eq_getElem (by omega)]at h0 ⊢
   simp only[Option.getD_some]at h0;rw[h0]
  .exact h0
 have HAV:=Af a4;have HBV:=Af b4;clear hM hcm a4 b4 b3;go_enter Tryz.func93,Tryz.ntmps93
 go_wp2_with fail
 refine(Dh _ _ _ _).mono ?_;rintro e w1 ⟨rfl,hb1⟩;have hbx1:=hbx.later hb1;have c0:=hbx1.c0;have c1:=hbx1.c1;rw[hdz]
 go_wp2_with fail
 refine(Ft _ pa _ na ca _ _ cb _ (hA.below hbx1.bel) (hB.below hbx1.bel) (by omega) (by omega)).mono ?_;rintro e w2 ⟨rfl,hb2⟩;have hbx2:=hbx1.later hb2;have hcm:=HCM.out;clear c0 c1;have c0:=hbx2.c0;have c1:=hbx2.c1;have hd1:((d:Int)+1==1)=false:=by rw[beq_eq_false_iff_ne];omega
 go_wp2_with fail
 refine(Pj w2 pa na ca A pb d cb W (a1.below hbx2.bel) a2 (b1.below hbx2.bel) b2 htop hd hdn hs).mono ?_;rintro e w3 ⟨p,n,Q,q,m,R,rfl,hQ,wQ,vQ,hR,wR,vR,hb3,hp,hq⟩;have HVQ:=Af vQ;have HVR:=Af vR;have hbx3:=hbx2.later hb3;clear hcm c0 c1 vQ vR
 go_wp2_with fail
 refine(Ca w3 p n n Q hQ wQ).mono ?_;rintro e w4 ⟨p1,n1,c1,rfl,hn1,hb4,hp1⟩;have hbx4:=hbx3.later hb4
 go_wp2_with fail
 refine(Ca w4 q m m R (hR.below hb4) wR).mono ?_;rintro e w5 ⟨p2,n2,c2',rfl,hn2,hb5,hp2⟩;have hbx5:=hbx4.later hb5;replace hn1:=hn1.below hb5;have c2:=hbx5.c2;have c3:=hbx5.c3;have f2:=hbx5.f2;have f3:=hbx5.f3;have hz5:=hbx5.size;have hz2:=hbx2.size;have hP1:El w2.heap.size p1:=Tp hp1 hp;have hP2:El w2.heap.size p2:=Tp hp2 hq;go_wp2;refine bodyPost_ret (v:=.tuple #[.agg #[.slice p1 n1 c1],.agg #[.slice p2 n2 c2'],.int .i64 0]) (by simp[results,Tryz.results93,go_sem,c2,c3]) rfl ⟨p1,n1,c1,p2,n2,c2',by simp[HM.out],?_,?_,?_,hP1.mono (by omega),hP2.mono (by omega)⟩
 .rw[HVQ.out,HAV.out,HBV.out]at hn1
  exact(hn1.setCell (a:=⟨w.heap.size+1+1,0,none⟩) (hP1.ne (show w.heap.size+1+1<w2.heap.size by omega)) _).setCell (a:=⟨w.heap.size+1+1+1,0,none⟩) (hP1.ne (show w.heap.size+1+1+1<w2.heap.size by omega)) _
 .rw[if_neg HM.out];rw[HVR.out,HAV.out,HBV.out]at hn2
  exact(hn2.setCell (a:=⟨w.heap.size+1+1,0,none⟩) (hP2.ne (show w.heap.size+1+1<w2.heap.size by omega)) _).setCell (a:=⟨w.heap.size+1+1+1,0,none⟩) (hP2.ne (show w.heap.size+1+1+1<w2.heap.size by omega)) _
 .exact(hbx5.bel.setCell (by simp;omega) _).setCell (by simp;omega) _
theorem Rj (w:World)(pa:Option Addr)(na ca N:Nat)(pb:Option Addr)(nb cb M:Nat)(hA:Ah w pa na ca N)(hB:Ah w pb nb cb M)(hs:na<900000)(hsb:nb<900000) :
  Calls Tryz.prog 93 #[.agg #[.slice pa na ca],.agg #[.slice pb nb cb]] w (Px N M w):=by
 rcases Nat.lt_or_ge N M with h|h
 .exact Ri w pa na ca N pb nb cb M hA hB (by omega) (by omega) (.inr h)
 .rcases Nat.lt_or_ge nb 2 with h2|h2
  .exact Ri w pa na ca N pb nb cb M hA hB (by omega) (by omega) (.inl (by omega))
  .obtain⟨d,rfl⟩:∃d,nb=d+1:=⟨nb-1,by omega⟩
   exact cZ w pa na ca N pb d cb M hA hB (by omega) hs (by omega) h
end Go.Proofs.YtokhckjemidbpaaGreatDoor
