/- The document's products and quotients. -/
import Derived.Test.YtnbmfaihlefgfaaGreatDoorNatX
set_option maxRecDepth 1000000
set_option maxHeartbeats 16000000
set_option linter.all false
namespace Go.Proofs.YtnbmfaihlefgfaaGreatDoor
open Go Go.RowKit Go.Proofs.YtnbmfaihlefgfaaGreatDoor.Flow
def Ft (w:World)(g:Nat)(xs:List Bool):Prop:=w.heap[g]? = some (.cells (xs.map Value.bool).toArray 4 (0,0))
theorem Ft.lt {w:World}{g:Nat}{xs:List Bool}(h:Ft w g xs):g<w.heap.size:=(Hy h).1
theorem Ft.cell {w:World}{g:Nat}{xs:List Bool}(h:Ft w g xs){i:Nat}{x:Bool}(hx:xs[i]? = some x):w.cell? ⟨g,i,none⟩=some (.bool x):=by
 unfold Ft at h;simp[World.cell?,h,hx]
theorem Ft.free {w:World}{g:Nat}{xs:List Bool}(h:Ft w g xs)(i:Nat):w.frozen? ⟨g,i,none⟩=false:=by
 unfold Ft at h;simp[World.frozen?,h]
theorem Ft.below {w w':World}{g:Nat}{xs:List Bool}(h:Ft w g xs){B:Nat}(hb:Below B w w')(hg:g<B):Ft w' g xs:=by
 unfold Ft at *;rw[hb.block g hg];exact h
theorem Ft.set {w:World}{g:Nat}{xs:List Bool}(h:Ft w g xs)(i:Nat)(x:Bool):Ft (w.setCell ⟨g,i,none⟩ (.bool x)) g (xs.set i x):=by
 unfold Ft at *;simp only[World.setCell,Array.getElem?_modify,if_true,h,Option.map_some];simp[List.map_set]
theorem Ft.row {w:World}{g:Nat}{xs:List Bool}(h:Ft w g xs){n c:Nat}(hn:n=xs.length)(hc:n<=c)(hm:c<=9223372036854775807):Ff w (some ⟨g,0,none⟩) n c xs :=
 ⟨hn,hc,hm,.inr ⟨g,0,rfl,h.lt,fun i x hx=>by rw[Nat.zero_add];exact h.cell hx⟩⟩
theorem Ft.owns {w:World}{g:Nat}{xs:List Bool}{n B:Nat}(h:Ft w g xs)(hn:xs.length=n)(hB:B<=g)(hm:n<=maxLen):w.ownsRow B 4 1 (.slice (some ⟨g,0,none⟩) n n) n (xs.map Value.bool) :=
 ⟨by simp[hn],.inr ⟨g,n,_,rfl,hB,h,Av _,hm,by simp[hn],by simp only[Nat.mul_one];exact List.take_of_length_le (by simp[hn])⟩⟩
def Xo (n:Nat):Array Value:=((List.replicate n false).map Value.bool).toArray
theorem iF (n:Nat):madeCells #[Value.bool false] n=Xo n:=by
 unfold Xo;rw[List.map_replicate];have h:=toList_madeCells_one (Value.bool false) n;rw[<-Array.toArray_toList (xs:=madeCells #[Value.bool false] n),h]
theorem Ft.zeros (w:World)(n:Nat):Ft (w.alloc (.cells (Xo n) 4)) w.heap.size (List.replicate n false):=heap_alloc_new w _
theorem Vb (n:Nat)(h:n<=4294967296)(w:World):(Instr.makeSlice 28 (.int .i64 n) (.int .i64 n)).run Tryz.prog w =
  .ok (.slice (some ⟨w.heap.size,0,none⟩) n n) (w.alloc (.cells (Xo n) 4)):=by
 obtain⟨i,hi,hz,hs,hb⟩:=info_parts Tryz.info_bool;have:=run_make (P:=Tryz.prog) w 28 4 i (.bool false) Tryz.underlying28 hi hz .i64 .i64 n n (by omega) (Int.le_refl _) (by rw[hb];omega) (by omega);simp only[Int.toNat_natCast,hs,Nat.mul_one]at this;rw[this,<-iF];rfl
theorem Bx {a b:Nat}(h:a<=b):Ak a<=Ak b:=(Bq a _).2 (Nat.lt_of_le_of_lt h (Ec b))
theorem Rb (a b:Nat):Ak (a*b)<=Ak a+Ak b:=by
 refine(Bq _ _).2 ?_;rw[Nat.pow_add];exact Nat.mul_lt_mul'' (Ec a) (Ec b)
theorem Hd {N i:Nat}(h:0<N):Ak (N*2^i)=Ak N+i:=by
 have hp:0<2^i:=Nat.pow_pos (by omega);have e:=Hv (N*2^i) i (by rw[Nat.mul_div_cancel _ hp];exact h);rw[Nat.mul_div_cancel _ hp]at e
 omega
theorem dK {N i:Nat}(h:0<N):List.replicate i false++bitsOf N=bitsOf (N*2^i):=by
 apply List.ext_getElem?;intro j;rcases Nat.lt_or_ge j i with h1|h1
 .rw[List.getElem?_append_left (by simpa using h1),Di (by rw[Hd h];omega)];rw[Er,Nat.testBit_mul_two_pow,List.getElem?_replicate,if_pos h1,decide_eq_false (by omega),Bool.false_and]
 .rw[List.getElem?_append_right (by simpa using h1),List.length_replicate];rcases Nat.lt_or_ge j (Ak N+i) with h2|h2
  .rw[Di (by omega),Di (by rw[Hd h];omega),Er,Er,Nat.testBit_mul_two_pow];simp[h1]
  .rw[List.getElem?_eq_none (by rw[Bo];omega),List.getElem?_eq_none (by rw[Bo,Hd h];omega)]
theorem Pz (w:World)(g:Nat)(hb:g<w.heap.size):Bt w (some ⟨g,0,none⟩) 0 0 0 :=
 ⟨rfl,Av _,by omega,.inr ⟨g,0,rfl,hb,fun i x hx=>by cases hx⟩⟩
theorem Ym (w:World)(p:Option Addr)(n c N i:Nat)(h:Bt w p n c N)(hn:n<=1000000)(hi:i<=1000000) :
  Calls Tryz.prog 201 #[.slice p n c,.int .i64 i] w (Hk (N*2^i) w):=by
 have hl:n=Ak N:=by have:=h.len;rwa [Bo]at this
 have HN:=Ag hl;clear hl
 by_cases h0:n=0
 .subst h0;have hz:N=0:=by
   rcases Nat.eq_zero_or_pos N with h1|h1
   .exact h1
   .have:=Hw h1;have:=HN.out;omega
  have HZ:Hid (N*2^i=0):=Ag (by rw[hz,Nat.zero_mul]);clear hz;go_enter Tryz.func201,Tryz.ntmps201;go_wp2;go_ret;refine⟨some ⟨w.heap.size,0,none⟩,0,0,rfl,?_,(Br _ _).alloc (Av _) _,fun q hq=>by cases hq;exact Av _⟩;rw[HZ.out];exact Pz _ _ (by simp)
 .obtain⟨b,off,rfl,hb,hc⟩:=h.pos (by omega);have hN:0<N:=by
   rcases Nat.eq_zero_or_pos N with h1|h1
   .have:=HN.out;rw[h1,Vo]at this;omega
   .exact h1
  have HS:=Ag (dK (i:=i) hN);have hn0:((n:Int)==0)=false:=by rw[beq_eq_false_iff_ne];omega
  obtain⟨i0,hi',hz0,hz1,hz2⟩:=info_parts Tryz.info_bool;have hmk:=Vb i (by omega);have HC:=Ag hc;have hown:=(Ft.zeros w i).owns (n:=i) (B:=w.heap.size) (by simp) (Av _) (by unfold maxLen;omega);clear hc hN h0;go_enter Tryz.func201,Tryz.ntmps201
  go_wp2_with (at_builtin;refine wpList_append_own _ rfl _ _ 28 rfl w.heap.size 4 i0 (.bool false) 1 1 Tryz.underlying28 hi' hz0 hz1 hz2 rfl (by decide) _ _ _ rfl hown ⟨b,off,none⟩ n c ((bitsOf N).map Value.bool) rfl ?c1 ?c2 ?c3 ?c4 ?c5 ?c6 ?_)
  case c1=>simp[Bo];exact HN.out.symm
  case c2=>
   intro j u hu;rw[List.getElem?_map]at hu
   cases hx:(bitsOf N)[j]? with
   | none=>rw[hx]at hu;cases hu
   | some x=>
    rw[hx]at hu;cases hu
    have e:(⟨b,off,none⟩:Addr).add j=⟨b,off+j,none⟩:=by unfold Addr.add;split<;>simp_all
    rw[e,World.cell?_alloc_past (hn:=hb)];exact HC.out j x hx
  case c3=>intro u hu;simp only[List.mem_map]at hu;obtain⟨x,_,rfl⟩:=hu;rfl
  case c4=>unfold maxLen;omega
  case c5=>omega
  case c6=>simp
  intro v1 w1 ho1 hg1 _;replace ho1:w1.ownsRow w.heap.size 4 1 v1 (i+n) ((bitsOf (N*2^i)).map Value.bool):=by
   rw[<-HS.out,List.map_append];simpa using ho1
  obtain⟨q,d,rfl,hrow,hnew⟩:=Ff.of_owns ho1;have hb1:Below w.heap.size w w1:=((Br _ w).alloc (Av _) _).grown hg1 (by simp) (fun k e=>by simp[Value.ownBlock]at e;omega);go_wp2;go_ret;exact⟨q,_,d,rfl,hrow,hb1,hnew⟩
theorem Wk {N M k:Nat}(h:bit M k=true):N*(M%2^(k+1))=N*(M%2^k)+N*2^k:=by
 rw[Mm,h,if_pos rfl,Nat.mul_add]
theorem Sp {N M k:Nat}(h:bit M k=false):N*(M%2^(k+1))=N*(M%2^k):=by
 rw[Mm,h];simp
theorem cB (w:World)(p:Option Addr)(n c N:Nat)(q:Option Addr)(m d M:Nat)(hA:Bt w p n c N)(hB:Bt w q m d M)(hn:n<=100000)(hm:m<=100000) :
  Calls Tryz.prog 152 #[.slice p n c,.slice q m d] w (Hk (N*M) w):=by
 have hl:n=Ak N:=by have:=hA.len;rwa [Bo]at this
 have hk:m=Ak M:=by have:=hB.len;rwa [Bo]at this
 have HN:=Ag hl;have HM:=Ag hk;clear hl hk;go_enter Tryz.func152,Tryz.ntmps152;go_wp2
 go_loopw [5,11] (fun v i wr=>∃(k:Nat) (r:Option Addr) (l e:Nat),k<=m/\i=.int .i64 k/\v=.slice r l e/\Bt wr r l e (N*(M%2^k))/\Ey w.heap.size r/\Below w.heap.size w wr) (fun _ i _=>m-(intOf i).toNat)
 case atStart=>
  refine⟨0,some ⟨w.heap.size,0,none⟩,0,0,by omega,rfl,rfl,?_,fun q hq=>by cases hq;exact Av _,(Br _ _).alloc (Av _) _⟩;rw[Nat.pow_zero,Nat.mod_one,Nat.mul_zero];exact Pz _ _ (by simp)
 case round=>
  obtain⟨k,r,l,e,hk,rfl,rfl,hv,hnew,hbw⟩:=hrel
  by_cases hkm:k<m
  .obtain⟨b,off,rfl,hb,hc⟩:=hB.pos (by omega);obtain⟨x,hx⟩:∃x,bit M k=x:=⟨_,rfl⟩
   have hcx:wr.cell? ⟨b,off+k,none⟩=some (.bool x):=by
    rw[(Co hbw).1 _ _ hb];exact hc k x (by rw[Di (by rw[<-HM.out];exact hkm),hx])
   have hlim:Ak (N*(M%2^k))<=200000:=by
    have h1:=Rb N (M%2^k);have h2:=Bx (Nat.mod_le M (2^k));rw[<-HN.out]at h1
    rw[<-HM.out]at h2
    omega
   have hll:l<=200000:=by have:=hv.len;rw[Bo]at this;omega
   have HX:=Ag hx;have HV:=Ag hv;clear hc hx hlim hv
   cases x with
   | true=>
    go_wp2_with fail
    refine(Ym wr p n c N k (hA.below hbw) (by omega) (by omega)).mono ?_;rintro en w1 ⟨r1,l1,e1,rfl,hs1,hb1,_⟩;have hl1:l1<=200000:=by
     have:=hs1.len;rw[Bo]at this
     rcases Nat.eq_zero_or_pos N with h0|h0
     .rw[h0,Nat.zero_mul,Vo]at this;omega
     .rw[Hd h0,<-HN.out]at this;omega
    go_wp2_with fail
    refine(Sf w1 r l e _ r1 l1 e1 _ (HV.out.below hb1) hs1 (by omega) (by omega)).mono ?_;rintro en w2 ⟨r2,l2,e2,rfl,hs2,hb2,hn2⟩;rw[<-Wk HX.out]at hs2
    have hbw2:Below w.heap.size w w2:=(hbw.trans (hb1.mono hbw.size)).trans (hb2.mono (Dm hbw.size hb1.size));go_wp2;go_roundw
    case rel=>exact⟨k+1,r2,l2,e2,by omega,by go_num,rfl,hs2,hn2.mono (Dm hbw.size hb1.size),hbw2⟩
    case measure=>simp[intOf];omega
   | false=>
    go_wp2;go_roundw
    case rel=>exact⟨k+1,r,l,e,by omega,by go_num,rfl,by rw[Sp HX.out];exact HV.out,hnew,hbw⟩
    case measure=>simp[intOf];omega
  .have HE:Hid (N*(M%2^k)=N*M):=Ag (by rw[Nat.mod_eq_of_lt ((Bq M k).1 (by rw[<-HM.out];omega))]);have HV:=Ag hv;clear hv;go_wp2;go_ret;exact⟨r,l,e,rfl,by rw[<-HE.out];exact HV.out,hbw,hnew⟩
def Fz (Q L m:Nat):List Bool:=(List.range L).map fun j=>decide (m<=j)&&bit Q j
theorem Fq (Q L m:Nat):(Fz Q L m).length=L:=by simp[Fz]
theorem Mh {Q L m j:Nat}(h:j<L):(Fz Q L m)[j]? = some (decide (m<=j)&&bit Q j):=by simp[Fz,h]
theorem cE (Q L:Nat):Fz Q L 0=Ck Q L:=by
 unfold Fz Ck;apply List.map_congr_left;intro j _;simp
theorem fM (Q L:Nat):Fz Q L L=List.replicate L false:=by
 apply List.ext_getElem (by simp[Fz]);intro j h1 h2;have:j<L:=by simpa [Fz]using h1
 simp[Fz,show ¬L<=j by omega]
theorem Ux {Q L i:Nat}(_h:i<L)(hb:bit Q i=true):(Fz Q L (i+1)).set i true=Fz Q L i:=by
 apply List.ext_getElem?;intro j;rw[List.getElem?_set];rcases Nat.lt_or_ge j L with h1|h1
 .rw[Mh h1,Mh h1,Fq]
  by_cases hij:i=j
  .subst hij;simp[h1,hb]
  .rw[if_neg hij]
   congr 2
   rw[decide_eq_decide];omega
 .rw[List.getElem?_eq_none (l:=Fz Q L (i+1)) (by rw[Fq];exact h1),List.getElem?_eq_none (by rw[Fq];exact h1)];split<;>first|rfl|(split<;>first|rfl|(rw[Fq]at *;omega))
theorem Sg {Q L i:Nat}(hb:bit Q i=false):Fz Q L (i+1)=Fz Q L i:=by
 apply List.map_congr_left;intro j _
 by_cases hij:j=i
 .subst hij;simp[hb]
 .congr 1
  rw[decide_eq_decide];omega
theorem rest_step {N M i:Nat}(hM:0<M):(bit (N/M) i=decide (M<=2*(N/2^(i+1)%M)+(bit N i).toNat)) /\
  N/2^i%M=2*(N/2^(i+1)%M)+(bit N i).toNat-(if M<=2*(N/2^(i+1)%M)+(bit N i).toNat then M else 0)/\2*(N/2^(i+1)%M)+(bit N i).toNat<2*M:=by
 have e:=Gm N i;have hb:(bit N i).toNat<=1:=Bool.toNat_le _;generalize (bit N i).toNat=a at *;generalize hH:N/2^(i+1)=H at *;have hdm:=Nat.div_add_mod H M;have hm:=Nat.mod_lt H hM;have e2:N/M/2^i=N/2^i/M:=by rw[Nat.div_div_eq_div_mul,Nat.div_div_eq_div_mul,Nat.mul_comm]
 generalize H/M=q at *;generalize H%M=r at *;have e3:N/2^i=M*(2*q)+(2*r+a):=by
  rw[e,<-hdm,Nat.mul_add,Nat.mul_left_comm];omega
 have hlt:2*r+a<2*M:=by omega
 refine⟨?_,?_,hlt⟩
 .show decide (N/M/2^i%2=1)=_;rw[e2,e3,Nat.mul_add_div hM,decide_eq_decide]
  by_cases h:M<=2*r+a
  .have:(2*r+a)/M=1:=by
    rw[Nat.div_eq_iff hM];omega
   rw[this];omega
  .rw[Nat.div_eq_of_lt (by omega)];omega
 .rw[e3,Nat.mul_add_mod]
  by_cases h:M<=2*r+a
  .rw[if_pos h,Nat.mod_eq_sub_mod h,Nat.mod_eq_of_lt (by omega)]
  .rw[if_neg h,Nat.mod_eq_of_lt (by omega),Nat.sub_zero]
theorem Vp {R:Nat}{b:Bool}:b::bitsOf R=Ck (2*R+b.toNat) (Ak R+1):=by
 apply List.ext_getElem?;intro j
 cases j with
 | zero=>
  rw[Hx (by omega)];simp only[List.getElem?_cons_zero,Option.some.injEq];unfold bit;rw[Nat.pow_zero,Nat.div_one];cases b<;>simp<;>omega
 | succ j=>
  rw[List.getElem?_cons_succ];rcases Nat.lt_or_ge j (Ak R) with h|h
  .rw[Di h,Hx (by omega)]
   congr 1
   unfold bit;rw[Nat.pow_succ',<-Nat.div_div_eq_div_mul,show (2*R+b.toNat)/2=R by have:b.toNat<=1:=Bool.toNat_le _;omega]
  .rw[List.getElem?_eq_none (by rw[Bo];exact h),List.getElem?_eq_none (by rw[Nh];omega)]
theorem eS {R:Nat}{b:Bool}:2*R+b.toNat<2^(Ak R+1):=by
 have h1:=Ec R;have h2:b.toNat<=1:=Bool.toNat_le _;rw[Nat.pow_succ];omega
theorem Xq {w w1 w2:World}(h:Below w.heap.size w w1)(k:Below w1.heap.size w1 w2):Below w.heap.size w w2:=h.trans (k.mono h.size)
theorem Ff.setCell {w:World}{p:Option Addr}{n c:Nat}{xs:List Bool}(h:Ff w p n c xs){a:Addr}(ha:∀q,p=some q->q.block≠a.block)(u:Value):Ff (w.setCell a u) p n c xs:=by
 refine⟨h.len,h.cap,h.max,?_⟩;rcases h.at_ with h1|⟨b,off,h1,h2,h3⟩
 .exact .inl h1
 .refine .inr ⟨b,off,h1,by simpa using h2,fun i x hx=>?_⟩;have hne:=ha _ h1;rw[World.cell?_setCell_other _ _ _ _ (fun e=>hne (by rw[e]))];exact h3 i x hx
theorem Uf {R:Nat}(h:R=0):bitsOf R=[]:=by rw[h];rfl
def iV (N M:Nat)(w:World)(e:Ending)(w':World):Prop:=∃p n c q m d,e=.returned (.tuple #[.slice p n c,.slice q m d]) /\
 Bt w' p n c (N/M)/\Bt w' q m d (N%M)/\Below w.heap.size w w'/\Ey w.heap.size p/\Ey w.heap.size q
theorem cD (w:World)(pa:Option Addr)(n ca N:Nat)(pb:Option Addr)(nb cb M:Nat)(hA:Bt w pa n ca N)(hB:Bt w pb nb cb M)(hn:n<=1000000)(hnb:nb<=900000)(hM:0<M) :
  Calls Tryz.prog 148 #[.slice pa n ca,.slice pb nb cb] w (iV N M w):=by
 have hl:n=Ak N:=by have:=hA.len;rwa [Bo]at this
 have HN:=Ag hl;clear hl;obtain⟨i0,hi',hz0,hz1,hz2⟩:=info_parts Tryz.info_bool;have hmk:=Vb n (by omega);go_enter Tryz.func148,Tryz.ntmps148;go_wp2
 go_loopw [7,8] (fun rv iv wr=>∃(m:Nat) (rp:Option Addr) (rl rc:Nat),m<=n/\iv=.int .i64 ((m:Int)-1)/\rv=.slice rp rl rc/\Bt wr rp rl rc (N/2^m%M)/\Ft wr w.heap.size (Fz (N/M) n m)/\Ey (w.heap.size+1) rp/\Below w.heap.size w wr/\w.heap.size+1<wr.heap.size) (fun _ iv _=>(intOf iv+1).toNat)
 case atStart=>
  refine⟨n,some ⟨w.heap.size+1,0,none⟩,0,0,Av _,rfl,rfl,?_,?_,fun q hq=>by cases hq;exact Av _,((Br _ _).alloc (Av _) _).alloc (by simp) _,by simp⟩
  .rw[Nat.div_eq_of_lt ((Bq N n).1 (Nat.le_of_eq HN.out.symm)),Nat.zero_mod];exact Pz _ _ (by simp)
  .rw[fM];exact(Ft.zeros w n).below ((Br _ _).alloc (Av _) _) (by simp)
 case round=>
  obtain⟨m,rp,rl,rc,hm,rfl,rfl,hr,hblk,hnew,hbw,hsz⟩:=hrel
  cases m with
  | zero=>
   have e1:N/2^0%M=N%M:=by rw[Nat.pow_zero,Nat.div_one]
   rw[e1]at hr
   have hrowq:=hblk.row (n:=n) (c:=n) (by rw[Fq]) (Av _) (by omega);rw[cE]at hrowq
   have hlt:Hid (N/M<2^n):=Ag (Nat.lt_of_le_of_lt (Nat.div_le_self _ _) ((Bq N n).1 (Nat.le_of_eq HN.out.symm)));clear e1
   go_wp2_with fail
   refine(Fm wr _ n n (N/M) hrowq hlt.out).mono ?_;rintro en w2 ⟨l1,rfl,hQ,rfl⟩;go_wp2
   go_ret2
   exact⟨_,l1,n,rp,rl,rc,rfl,hQ,hr,hbw,fun q hq=>by cases hq;exact Av _,hnew.mono (by omega)⟩
  | succ i=>
   have hst:=rest_step (N:=N) (i:=i) hM;obtain⟨R,hR⟩:∃R,N/2^(i+1)%M=R:=⟨_,rfl⟩
   rw[hR]at hst hr
   have hrl:=De hr;obtain⟨b,off,rfl,hb,hc⟩:=hA.pos (by omega);obtain⟨x,hx⟩:∃x,bit N i=x:=⟨_,rfl⟩
   have hcx:wr.cell? ⟨b,off+i,none⟩=some (.bool x):=by
    rw[(Co hbw).1 _ _ hb];exact hc i x (by rw[Di (by rw[<-HN.out];omega),hx])
   rw[hx]at hst
   have hRM:R<M:=by rw[<-hR];exact Nat.mod_lt _ hM
   have hrl9:rl<=900000:=by
    have h9:=Bx (Nat.le_of_lt hRM);have h8:=De hB;omega
   have HRL:=Ag hrl;have HST:=Ag hst;have hin:i<n:=by omega
   have hi1:(((i+1:Nat):Int)-1)=(i:Int):=by omega
   simp only[hi1];clear hc hx hst hR hrl hi1 hRM;have hown:=Ft.owns (w:=wr.alloc (.cells #[.bool x] 4)) (g:=wr.heap.size) (xs:=[x]) (n:=1) (B:=w.heap.size+1) (heap_alloc_new wr _) rfl (by omega) (by unfold maxLen;omega)
   cases rp with
   | none=>
    have hz:rl=0/\rc=0:=by
     rcases hr.at_ with ⟨_,h1,h2⟩|⟨b',o',h1,_⟩
     .exact⟨h1,h2⟩
     .cases h1
    obtain⟨rfl,rfl⟩:=hz;have hR0:R=0:=by
     rcases Nat.eq_zero_or_pos R with h1|h1
     .exact h1
     .have:=Hw h1;have:=HRL.out;omega
    have HRZ:=Ag hR0;clear hR0 hr
    go_wp2_with (at_builtin;refine wpList_append_own_none rfl _ _ 28 rfl (w.heap.size+1) 4 i0 1 Tryz.underlying28 hi' _ _ _ rfl hown rfl ?_)
    obtain⟨w1,hw1⟩:∃w1,wr.alloc (.cells #[.bool x] 4)=w1:=⟨_,rfl⟩
    obtain⟨v',hv'⟩:∃v':Value,.slice (some ⟨wr.heap.size,0,none⟩) 1 1=v':=⟨_,rfl⟩
    have ho':w1.ownsRow (w.heap.size+1) 4 1 v' 1 [.bool x]:=by rw[<-hw1,<-hv'];exact hown
    have hbw1:Below w.heap.size w w1:=by rw[<-hw1];exact hbw.alloc hbw.size _
    have hblk1:Ft w1 w.heap.size (Fz (N/M) n (i+1)):=by rw[<-hw1];exact hblk.below ((Br _ _).alloc (Av _) _) hblk.lt
    have hsz1:w.heap.size+1<w1.heap.size:=by rw[<-hw1];simp;omega
    rw[hw1,hv'];clear hw1 hv' hown;have hrow1:w1.ownsRow (w.heap.size+1) 4 1 v' (0+1) ((Ck (2*R+x.toNat) (0+1)).map Value.bool):=by
     have e9:=Vp (R:=R) (b:=x);rw[Uf HRZ.out,<-HRL.out]at e9
     rw[<-e9];exact ho'
    obtain⟨q1,e1,rfl,hrow,hnq⟩:=Ff.of_owns hrow1;have hlt:Hid (2*R+x.toNat<2^(0+1)):=Ag (by rw[HRL.out];exact eS);clear ho' hrow1
    go_wp2_with fail
    refine(Fm w1 q1 (0+1) e1 (2*R+x.toNat) hrow hlt.out).mono ?_;rintro en w2 ⟨l1,rfl,hR1,rfl⟩;have hl1:l1<=900001:=by have:=De hR1;have h9:=(Bq _ _).2 hlt.out;omega
    go_wp2_with fail
    refine(Nk w1 q1 l1 e1 (2*R+x.toNat) pb nb cb M hR1 (hB.below hbw1) (by omega) (by omega)).mono ?_;rintro en w2 ⟨rfl,hb2⟩;have hbw2:Below w.heap.size w w2:=Xq hbw1 hb2;have hblk2:=hblk1.below hb2 hblk1.lt;have hR2:=hR1.below hb2;clear hR1 hblk1
    by_cases hle:M<=2*R+x.toNat
    .have hK:decide (0<=By (2*R+x.toNat) M)=true:=by
      rw[decide_eq_true_eq];unfold By;rw[if_neg (by omega)];split<;>omega
     have HLE:=Ag hle;have hbit:bit (N/M) i=true:=by rw[HST.out.1,decide_eq_true hle]
     have hres:N/2^i%M=2*R+x.toNat-M:=by rw[HST.out.2.1,if_pos hle]
     have HBIT:=Ag hbit;have HRES:=Ag hres;clear hbit hres hle
     go_wp2_with fail
     refine(Ni w2 q1 l1 e1 (2*R+x.toNat) pb nb cb M hR2 (hB.below hbw2) (by omega) HLE.out).mono ?_;rintro en w3 ⟨q3,l3,e3,rfl,hR3,hb3,hn3⟩;have hblk3:=hblk2.below hb3 hblk2.lt;have hcq:w3.cell? ⟨w.heap.size,i,none⟩=some (.bool _):=hblk3.cell (Mh hin);have hfq:=hblk3.free i;have hset:=hblk3.set i true;rw[Ux hin HBIT.out]at hset
     have HSET:=Ag hset;have hn3':Ey (w.heap.size+1) q3:=hn3.mono (by have:=hb2.size;omega);clear hset hK;go_wp2;go_roundw
     case rel=>
      refine⟨i,q3,l3,e3,by omega,rfl,rfl,?_,HSET.out,hn3',(Xq hbw2 hb3).setCell (Av _) _,by have:=hb3.size;have:=hb2.size;simp;omega⟩;rw[HRES.out];exact Ff.setCell hR3 (hn3'.ne (by simp)) _
     case measure=>simp[intOf]
    .have hK:decide (0<=By (2*R+x.toNat) M)=false:=by
      rw[decide_eq_false_iff_not,Dn (by omega)];omega
     have hbit:bit (N/M) i=false:=by rw[HST.out.1,decide_eq_false hle]
     have hres:N/2^i%M=2*R+x.toNat:=by rw[HST.out.2.1,if_neg hle,Nat.sub_zero]
     have HBIT:=Ag hbit;have HRES:=Ag hres;clear hbit hres hle;go_wp2;go_roundw
     case rel=>
      refine⟨i,q1,l1,e1,by omega,rfl,rfl,by rw[HRES.out];exact hR2,by rw[<-Sg HBIT.out];exact hblk2,hnq,hbw2,by have:=hb2.size;omega⟩
     case measure=>simp[intOf]
   | some ra=>
    obtain⟨rb,ro,hra,hrb,hrc⟩:∃b off,ra=(⟨b,off,none⟩:Addr)/\b<wr.heap.size/\∀(j:Nat) (y:Bool),(bitsOf R)[j]? = some y->wr.cell? ⟨b,off+j,none⟩=some (.bool y):=by
     rcases hr.at_ with ⟨h1,_⟩|⟨b',o',h1,h2,h3⟩
     .cases h1
     .exact⟨b',o',Option.some.inj h1,h2,h3⟩
    subst hra;have HRC:=Ag hrc;clear hrc hr
    go_wp2_with (at_builtin;refine wpList_append_own _ rfl _ _ 28 rfl (w.heap.size+1) 4 i0 (.bool false) 1 1 Tryz.underlying28 hi' hz0 hz1 hz2 rfl (by decide) _ _ _ rfl hown ⟨rb,ro,none⟩ rl rc ((bitsOf R).map Value.bool) rfl ?c1 ?c2 ?c3 ?c4 ?c5 ?c6 ?_)
    case c1=>simp[Bo];exact HRL.out.symm
    case c2=>
     intro j u hu;rw[List.getElem?_map]at hu
     cases hx:(bitsOf R)[j]? with
     | none=>rw[hx]at hu;cases hu
     | some y=>
      rw[hx]at hu;cases hu
      have e:(⟨rb,ro,none⟩:Addr).add j=⟨rb,ro+j,none⟩:=by unfold Addr.add;split<;>simp_all
      rw[e,World.cell?_alloc_past (hn:=hrb)];exact HRC.out j y hx
    case c3=>intro u hu;simp only[List.mem_map]at hu;obtain⟨y,_,rfl⟩:=hu;rfl
    case c4=>unfold maxLen;omega
    case c5=>omega
    case c6=>simp;omega
    intro v' w1 ho' hg1 _;have hbw1:Below w.heap.size w w1:=(hbw.alloc hbw.size _).grown hg1 (by simp;omega) (fun k e=>by simp[Value.ownBlock]at e;omega);have hblk1:Ft w1 w.heap.size (Fz (N/M) n (i+1)):=by
     have h8:=hblk.below ((Br _ wr).alloc (Av _) (.cells #[.bool x] 4)) hblk.lt;unfold Ft at h8 ⊢;rw[hg1.block _ (by simp;omega) (fun e=>by simp[Value.ownBlock]at e;omega)];exact h8
    have hsz1:w.heap.size+1<w1.heap.size:=by have:=hg1.size;simp at this;omega
    clear hg1 hown;have hrow1:w1.ownsRow (w.heap.size+1) 4 1 v' (rl+1) ((Ck (2*R+x.toNat) (rl+1)).map Value.bool):=by
     rw[HRL.out,<-Vp];simpa [Nat.add_comm,<-HRL.out]using ho'
    obtain⟨q1,e1,rfl,hrow,hnq⟩:=Ff.of_owns hrow1;have hlt:Hid (2*R+x.toNat<2^(rl+1)):=Ag (by rw[HRL.out];exact eS);clear ho' hrow1
    go_wp2_with fail
    refine(Fm w1 q1 (rl+1) e1 (2*R+x.toNat) hrow hlt.out).mono ?_;rintro en w2 ⟨l1,rfl,hR1,rfl⟩;have hl1:l1<=900001:=by have:=De hR1;have h9:=(Bq _ _).2 hlt.out;omega
    go_wp2_with fail
    refine(Nk w1 q1 l1 e1 (2*R+x.toNat) pb nb cb M hR1 (hB.below hbw1) (by omega) (by omega)).mono ?_;rintro en w2 ⟨rfl,hb2⟩;have hbw2:Below w.heap.size w w2:=Xq hbw1 hb2;have hblk2:=hblk1.below hb2 hblk1.lt;have hR2:=hR1.below hb2;clear hR1 hblk1
    by_cases hle:M<=2*R+x.toNat
    .have hK:decide (0<=By (2*R+x.toNat) M)=true:=by
      rw[decide_eq_true_eq];unfold By;rw[if_neg (by omega)];split<;>omega
     have HLE:=Ag hle;have hbit:bit (N/M) i=true:=by rw[HST.out.1,decide_eq_true hle]
     have hres:N/2^i%M=2*R+x.toNat-M:=by rw[HST.out.2.1,if_pos hle]
     have HBIT:=Ag hbit;have HRES:=Ag hres;clear hbit hres hle
     go_wp2_with fail
     refine(Ni w2 q1 l1 e1 (2*R+x.toNat) pb nb cb M hR2 (hB.below hbw2) (by omega) HLE.out).mono ?_;rintro en w3 ⟨q3,l3,e3,rfl,hR3,hb3,hn3⟩;have hblk3:=hblk2.below hb3 hblk2.lt;have hcq:w3.cell? ⟨w.heap.size,i,none⟩=some (.bool _):=hblk3.cell (Mh hin);have hfq:=hblk3.free i;have hset:=hblk3.set i true;rw[Ux hin HBIT.out]at hset
     have HSET:=Ag hset;have hn3':Ey (w.heap.size+1) q3:=hn3.mono (by have:=hb2.size;omega);clear hset hK;go_wp2;go_roundw
     case rel=>
      refine⟨i,q3,l3,e3,by omega,rfl,rfl,?_,HSET.out,hn3',(Xq hbw2 hb3).setCell (Av _) _,by have:=hb3.size;have:=hb2.size;simp;omega⟩;rw[HRES.out];exact Ff.setCell hR3 (hn3'.ne (by simp)) _
     case measure=>simp[intOf]
    .have hK:decide (0<=By (2*R+x.toNat) M)=false:=by
      rw[decide_eq_false_iff_not,Dn (by omega)];omega
     have hbit:bit (N/M) i=false:=by rw[HST.out.1,decide_eq_false hle]
     have hres:N/2^i%M=2*R+x.toNat:=by rw[HST.out.2.1,if_neg hle,Nat.sub_zero]
     have HBIT:=Ag hbit;have HRES:=Ag hres;clear hbit hres hle;go_wp2;go_roundw
     case rel=>
      refine⟨i,q1,l1,e1,by omega,rfl,rfl,by rw[HRES.out];exact hR2,by rw[<-Sg HBIT.out];exact hblk2,hnq,hbw2,by have:=hb2.size;omega⟩
     case measure=>simp[intOf]
end Go.Proofs.YtnbmfaihlefgfaaGreatDoor
