/- A ring: what is left, sums, differences, products; the document's. -/
import Derived.Test.YtnbmfaihlefgfaaGreatDoorFit4
import Derived.Deep.LoopGhost
set_option maxRecDepth 1000000
set_option maxHeartbeats 16000000
set_option linter.all false
namespace Go.Proofs.YtnbmfaihlefgfaaGreatDoor
open Go Go.RowKit Go.Proofs.YtnbmfaihlefgfaaGreatDoor.Flow
def Fy (w:World)(g:Nat)(xs:List Bool):Prop:=w.heap[g]? = some (.cells (xs.map Value.bool).toArray 4 (0,0))
theorem Fy.lt {w:World}{g:Nat}{xs:List Bool}(h:Fy w g xs):g<w.heap.size:=(Gn h).1
theorem Fy.cell {w:World}{g:Nat}{xs:List Bool}(h:Fy w g xs){i:Nat}{x:Bool}(hx:xs[i]? = some x):w.cell? ⟨g,i,none⟩=some (.bool x):=by
 unfold Fy at h;simp[World.cell?,h,hx]
theorem Fy.free {w:World}{g:Nat}{xs:List Bool}(h:Fy w g xs)(i:Nat):w.frozen? ⟨g,i,none⟩=false:=by
 unfold Fy at h;simp[World.frozen?,h]
theorem Fy.below {w w':World}{g:Nat}{xs:List Bool}(h:Fy w g xs){B:Nat}(hb:Below B w w')(hg:g<B):Fy w' g xs:=by
 unfold Fy at *;rw[hb.block g hg];exact h
theorem Fy.set {w:World}{g:Nat}{xs:List Bool}(h:Fy w g xs)(i:Nat)(x:Bool):Fy (w.setCell ⟨g,i,none⟩ (.bool x)) g (xs.set i x):=by
 unfold Fy at *;simp only[World.setCell,Array.getElem?_modify,if_true,h,Option.map_some];simp[List.map_set]
theorem Fy.row {w:World}{g:Nat}{xs:List Bool}(h:Fy w g xs){n c:Nat}(hn:n=xs.length)(hc:n<=c)(hm:c<=9223372036854775807):Ez w (some ⟨g,0,none⟩) n c xs :=
 ⟨hn,hc,hm,.inr ⟨g,0,rfl,h.lt,fun i x hx=>by rw[Nat.zero_add];exact h.cell hx⟩⟩
theorem Fy.owns {w:World}{g:Nat}{xs:List Bool}{n B:Nat}(h:Fy w g xs)(hn:xs.length=n)(hB:B<=g)(hm:n<=maxLen):w.ownsRow B 4 1 (.slice (some ⟨g,0,none⟩) n n) n (xs.map Value.bool) :=
 ⟨by simp[hn],.inr ⟨g,n,_,rfl,hB,h,As _,hm,by simp[hn],by simp only[Nat.mul_one];exact List.take_of_length_le (by simp[hn])⟩⟩
def Xm (n:Nat):Array Value:=((List.replicate n false).map Value.bool).toArray
theorem iA (n:Nat):madeCells #[Value.bool false] n=Xm n:=by
 unfold Xm;rw[List.map_replicate];have h:=toList_madeCells_one (Value.bool false) n;rw[<-Array.toArray_toList (xs:=madeCells #[Value.bool false] n),h]
theorem Fy.zeros (w:World)(n:Nat):Fy (w.alloc (.cells (Xm n) 4)) w.heap.size (List.replicate n false):=heap_alloc_new w _
theorem Uy (n:Nat)(h:n<=4294967296)(w:World):(Instr.makeSlice 28 (.int .i64 n) (.int .i64 n)).run Tryz.prog w =
  .ok (.slice (some ⟨w.heap.size,0,none⟩) n n) (w.alloc (.cells (Xm n) 4)):=by
 obtain⟨i,hi,hz,hs,hb⟩:=info_parts Tryz.info_bool;have:=run_make (P:=Tryz.prog) w 28 4 i (.bool false) Tryz.underlying28 hi hz .i64 .i64 n n (by omega) (Int.le_refl _) (by rw[hb];omega) (by omega);simp only[Int.toNat_natCast,hs,Nat.mul_one]at this;rw[this,<-iA];rfl
theorem iG {a b:Nat}(h:a<=b):Ax a<=Ax b:=(Bo a _).2 (Nat.lt_of_le_of_lt h (Gl b))
theorem Kh {N i:Nat}(h:0<N):Ax (N*2^i)=Ax N+i:=by
 have hp:0<2^i:=Nat.pow_pos (by omega);have e:=Ic (N*2^i) i (by rw[Nat.mul_div_cancel _ hp];exact h);rw[Nat.mul_div_cancel _ hp]at e
 omega
theorem dE {N i:Nat}(h:0<N):List.replicate i false++bitsOf N=bitsOf (N*2^i):=by
 apply List.ext_getElem?;intro j;rcases Nat.lt_or_ge j i with h1|h1
 .rw[List.getElem?_append_left (by simpa using h1),Do (by rw[Kh h];omega)];rw[Eo,Nat.testBit_mul_two_pow,List.getElem?_replicate,if_pos h1,decide_eq_false (by omega),Bool.false_and]
 .rw[List.getElem?_append_right (by simpa using h1),List.length_replicate];rcases Nat.lt_or_ge j (Ax N+i) with h2|h2
  .rw[Do (by omega),Do (by rw[Kh h];omega),Eo,Eo,Nat.testBit_mul_two_pow];simp[h1]
  .rw[List.getElem?_eq_none (by rw[Bf];omega),List.getElem?_eq_none (by rw[Bf,Kh h];omega)]
theorem Vk (w:World)(g:Nat)(hb:g<w.heap.size):Bn w (some ⟨g,0,none⟩) 0 0 0 :=
 ⟨rfl,As _,by omega,.inr ⟨g,0,rfl,hb,fun i x hx=>by cases hx⟩⟩
theorem pF (w:World)(p:Option Addr)(n c N i:Nat)(h:Bn w p n c N)(hn:n<=1000000)(hi:i<=1000000) :
  Calls Tryz.prog 201 #[.slice p n c,.int .i64 i] w (Mp (N*2^i) w):=by
 have hl:n=Ax N:=by have:=h.len;rwa [Bf]at this
 have HN:=Ah hl;clear hl
 by_cases h0:n=0
 .subst h0;have hz:N=0:=by
   rcases Nat.eq_zero_or_pos N with h1|h1
   .exact h1
   .have:=Jl h1;have:=HN.out;omega
  have HZ:Hid (N*2^i=0):=Ah (by rw[hz,Nat.zero_mul]);clear hz;go_enter Tryz.func201,Tryz.ntmps201;go_wp2;go_ret;refine⟨some ⟨w.heap.size,0,none⟩,0,0,rfl,?_,(Bd _ _).alloc (As _) _,fun q hq=>by cases hq;exact As _⟩;rw[HZ.out];exact Vk _ _ (by simp)
 .obtain⟨b,off,rfl,hb,hc⟩:=h.pos (by omega);have hN:0<N:=by
   rcases Nat.eq_zero_or_pos N with h1|h1
   .have:=HN.out;rw[h1,iF]at this;omega
   .exact h1
  have HS:=Ah (dE (i:=i) hN);have hn0:((n:Int)==0)=false:=by rw[beq_eq_false_iff_ne];omega
  obtain⟨i0,hi',hz0,hz1,hz2⟩:=info_parts Tryz.info_bool;have hmk:=Uy i (by omega);have HC:=Ah hc;have hown:=(Fy.zeros w i).owns (n:=i) (B:=w.heap.size) (by simp) (As _) (by unfold maxLen;omega);clear hc hN h0;go_enter Tryz.func201,Tryz.ntmps201
  go_wp2_with (at_builtin;refine wpList_append_own _ rfl _ _ 28 rfl w.heap.size 4 i0 (.bool false) 1 1 Tryz.underlying28 hi' hz0 hz1 hz2 rfl (by decide) _ _ _ rfl hown ⟨b,off,none⟩ n c ((bitsOf N).map Value.bool) rfl ?c1 ?c2 ?c3 ?c4 ?c5 ?c6 ?_)
  case c1=>simp[Bf];exact HN.out.symm
  case c2=>
   intro j u hu;rw[List.getElem?_map]at hu
   cases hx:(bitsOf N)[j]? with
   | none=>rw[hx]at hu;cases hu
   | some x=>
    rw[hx]at hu;cases hu
    have e:(⟨b,off,none⟩:Addr).add j=⟨b,off+j,none⟩:=by unfold Addr.add;split<;>simp_all
    rw[e,World.cell?_alloc_past (hn:=hb)];exact HC.out j x hx
  case c3=>intro u hu;simp only[List.mem_map]at hu;obtain⟨x,_,rfl⟩:=hu;rfl
  case c4=>unfold maxLen;omega
  case c5=>omega
  case c6=>simp
  intro v1 w1 ho1 hg1 _;replace ho1:w1.ownsRow w.heap.size 4 1 v1 (i+n) ((bitsOf (N*2^i)).map Value.bool):=by
   rw[<-HS.out,List.map_append];simpa using ho1
  obtain⟨q,d,rfl,hrow,hnew⟩:=Ez.of_owns ho1;have hb1:Below w.heap.size w w1:=((Bd _ w).alloc (As _) _).grown hg1 (by simp) (fun k e=>by simp[Value.ownBlock]at e;omega);go_wp2;go_ret;exact⟨q,_,d,rfl,hrow,hb1,hnew⟩
def Gb (Q L m:Nat):List Bool:=(List.range L).map fun j=>decide (m<=j)&&bit Q j
theorem Fx (Q L m:Nat):(Gb Q L m).length=L:=by simp[Gb]
theorem Mf {Q L m j:Nat}(h:j<L):(Gb Q L m)[j]? = some (decide (m<=j)&&bit Q j):=by simp[Gb,h]
theorem bL (Q L:Nat):Gb Q L 0=Cf Q L:=by
 unfold Gb Cf;apply List.map_congr_left;intro j _;simp
theorem fE (Q L:Nat):Gb Q L L=List.replicate L false:=by
 apply List.ext_getElem (by simp[Gb]);intro j h1 h2;have:j<L:=by simpa [Gb]using h1
 simp[Gb,show ¬L<=j by omega]
theorem Ur {Q L i:Nat}(_h:i<L)(hb:bit Q i=true):(Gb Q L (i+1)).set i true=Gb Q L i:=by
 apply List.ext_getElem?;intro j;rw[List.getElem?_set];rcases Nat.lt_or_ge j L with h1|h1
 .rw[Mf h1,Mf h1,Fx]
  by_cases hij:i=j
  .subst hij;simp[h1,hb]
  .rw[if_neg hij]
   congr 2
   rw[decide_eq_decide];omega
 .rw[List.getElem?_eq_none (l:=Gb Q L (i+1)) (by rw[Fx];exact h1),List.getElem?_eq_none (by rw[Fx];exact h1)];split<;>first|rfl|(split<;>first|rfl|(rw[Fx]at *;omega))
theorem Sg {Q L i:Nat}(hb:bit Q i=false):Gb Q L (i+1)=Gb Q L i:=by
 apply List.map_congr_left;intro j _
 by_cases hij:j=i
 .subst hij;simp[hb]
 .congr 1
  rw[decide_eq_decide];omega
theorem rest_step {N M i:Nat}(hM:0<M):(bit (N/M) i=decide (M<=2*(N/2^(i+1)%M)+(bit N i).toNat)) /\
  N/2^i%M=2*(N/2^(i+1)%M)+(bit N i).toNat-(if M<=2*(N/2^(i+1)%M)+(bit N i).toNat then M else 0)/\2*(N/2^(i+1)%M)+(bit N i).toNat<2*M:=by
 have e:=Hl N i;have hb:(bit N i).toNat<=1:=Bool.toNat_le _;generalize (bit N i).toNat=a at *;generalize hH:N/2^(i+1)=H at *;have hdm:=Nat.div_add_mod H M;have hm:=Nat.mod_lt H hM;have e2:N/M/2^i=N/2^i/M:=by rw[Nat.div_div_eq_div_mul,Nat.div_div_eq_div_mul,Nat.mul_comm]
 generalize H/M=q at *;generalize H%M=r at *;have e3:N/2^i=M*(2*q)+(2*r+a):=by
  rw[e,<-hdm,Nat.mul_add,Nat.mul_left_comm];omega
 have hlt:2*r+a<2*M:=by omega
 refine⟨?_,?_,hlt⟩
 .show decide (N/M/2^i%2=1)=_;rw[e2,e3,Nat.mul_add_div hM,decide_eq_decide]
  by_cases h:M<=2*r+a
  .have:(2*r+a)/M=1:=by
    rw[Nat.div_eq_iff hM];omega
   rw[this];omega
  .rw[Nat.div_eq_of_lt (by omega)];omega
 .rw[e3,Nat.mul_add_mod]
  by_cases h:M<=2*r+a
  .rw[if_pos h,Nat.mod_eq_sub_mod h,Nat.mod_eq_of_lt (by omega)]
  .rw[if_neg h,Nat.mod_eq_of_lt (by omega),Nat.sub_zero]
theorem Vl {R:Nat}{b:Bool}:b::bitsOf R=Cf (2*R+b.toNat) (Ax R+1):=by
 apply List.ext_getElem?;intro j
 cases j with
 | zero=>
  rw[Ie (by omega)];simp only[List.getElem?_cons_zero,Option.some.injEq];unfold bit;rw[Nat.pow_zero,Nat.div_one];cases b<;>simp<;>omega
 | succ j=>
  rw[List.getElem?_cons_succ];rcases Nat.lt_or_ge j (Ax R) with h|h
  .rw[Do h,Ie (by omega)]
   congr 1
   unfold bit;rw[Nat.pow_succ',<-Nat.div_div_eq_div_mul,show (2*R+b.toNat)/2=R by have:b.toNat<=1:=Bool.toNat_le _;omega]
  .rw[List.getElem?_eq_none (by rw[Bf];exact h),List.getElem?_eq_none (by rw[Mx];omega)]
theorem dY {R:Nat}{b:Bool}:2*R+b.toNat<2^(Ax R+1):=by
 have h1:=Gl R;have h2:b.toNat<=1:=Bool.toNat_le _;rw[Nat.pow_succ];omega
theorem Xo {w w1 w2:World}(h:Below w.heap.size w w1)(k:Below w1.heap.size w1 w2):Below w.heap.size w w2:=h.trans (k.mono h.size)
theorem Ez.setCell {w:World}{p:Option Addr}{n c:Nat}{xs:List Bool}(h:Ez w p n c xs){a:Addr}(ha:∀q,p=some q->q.block≠a.block)(u:Value):Ez (w.setCell a u) p n c xs:=by
 refine⟨h.len,h.cap,h.max,?_⟩;rcases h.at_ with h1|⟨b,off,h1,h2,h3⟩
 .exact .inl h1
 .refine .inr ⟨b,off,h1,by simpa using h2,fun i x hx=>?_⟩;have hne:=ha _ h1;rw[World.cell?_setCell_other _ _ _ _ (fun e=>hne (by rw[e]))];exact h3 i x hx
theorem Uf {R:Nat}(h:R=0):bitsOf R=[]:=by rw[h];rfl
def iS (N M:Nat)(w:World)(e:Ending)(w':World):Prop:=∃p n c q m d,e=.returned (.tuple #[.slice p n c,.slice q m d]) /\
 Bn w' p n c (N/M)/\Bn w' q m d (N%M)/\Below w.heap.size w w'/\Fh w.heap.size p/\Fh w.heap.size q
theorem bJ (w:World)(pa:Option Addr)(n ca N:Nat)(pb:Option Addr)(nb cb M:Nat)(hA:Bn w pa n ca N)(hB:Bn w pb nb cb M)(hn:n<=1000000)(hnb:nb<=900000)(hM:0<M) :
  Calls Tryz.prog 148 #[.slice pa n ca,.slice pb nb cb] w (iS N M w):=by
 have hl:n=Ax N:=by have:=hA.len;rwa [Bf]at this
 have HN:=Ah hl;clear hl;obtain⟨i0,hi',hz0,hz1,hz2⟩:=info_parts Tryz.info_bool;have hmk:=Uy n (by omega);go_enter Tryz.func148,Tryz.ntmps148;go_wp2
 go_loopw [7,8] (fun rv iv wr=>∃(m:Nat) (rp:Option Addr) (rl rc:Nat),m<=n/\iv=.int .i64 ((m:Int)-1)/\rv=.slice rp rl rc/\Bn wr rp rl rc (N/2^m%M)/\Fy wr w.heap.size (Gb (N/M) n m)/\Fh (w.heap.size+1) rp/\Below w.heap.size w wr/\w.heap.size+1<wr.heap.size) (fun _ iv _=>(intOf iv+1).toNat)
 case atStart=>
  refine⟨n,some ⟨w.heap.size+1,0,none⟩,0,0,As _,rfl,rfl,?_,?_,fun q hq=>by cases hq;exact As _,((Bd _ _).alloc (As _) _).alloc (by simp) _,by simp⟩
  .rw[Nat.div_eq_of_lt ((Bo N n).1 (Nat.le_of_eq HN.out.symm)),Nat.zero_mod];exact Vk _ _ (by simp)
  .rw[fE];exact(Fy.zeros w n).below ((Bd _ _).alloc (As _) _) (by simp)
 case round=>
  obtain⟨m,rp,rl,rc,hm,rfl,rfl,hr,hblk,hnew,hbw,hsz⟩:=hrel
  cases m with
  | zero=>
   have e1:N/2^0%M=N%M:=by rw[Nat.pow_zero,Nat.div_one]
   rw[e1]at hr
   have hrowq:=hblk.row (n:=n) (c:=n) (by rw[Fx]) (As _) (by omega);rw[bL]at hrowq
   have hlt:Hid (N/M<2^n):=Ah (Nat.lt_of_le_of_lt (Nat.div_le_self _ _) ((Bo N n).1 (Nat.le_of_eq HN.out.symm)));clear e1
   go_wp2_with fail
   refine(Fp wr _ n n (N/M) hrowq hlt.out).mono ?_;rintro en w2 ⟨l1,rfl,hQ,rfl⟩;go_wp2
   go_ret2
   exact⟨_,l1,n,rp,rl,rc,rfl,hQ,hr,hbw,fun q hq=>by cases hq;exact As _,hnew.mono (by omega)⟩
  | succ i=>
   have hst:=rest_step (N:=N) (i:=i) hM;obtain⟨R,hR⟩:∃R,N/2^(i+1)%M=R:=⟨_,rfl⟩
   rw[hR]at hst hr
   have hrl:=Gv hr;obtain⟨b,off,rfl,hb,hc⟩:=hA.pos (by omega);obtain⟨x,hx⟩:∃x,bit N i=x:=⟨_,rfl⟩
   have hcx:wr.cell? ⟨b,off+i,none⟩=some (.bool x):=by
    rw[(Bz hbw).1 _ _ hb];exact hc i x (by rw[Do (by rw[<-HN.out];omega),hx])
   rw[hx]at hst
   have hRM:R<M:=by rw[<-hR];exact Nat.mod_lt _ hM
   have hrl9:rl<=900000:=by
    have h9:=iG (Nat.le_of_lt hRM);have h8:=Gv hB;omega
   have HRL:=Ah hrl;have HST:=Ah hst;have hin:i<n:=by omega
   have hi1:(((i+1:Nat):Int)-1)=(i:Int):=by omega
   simp only[hi1];clear hc hx hst hR hrl hi1 hRM;have hown:=Fy.owns (w:=wr.alloc (.cells #[.bool x] 4)) (g:=wr.heap.size) (xs:=[x]) (n:=1) (B:=w.heap.size+1) (heap_alloc_new wr _) rfl (by omega) (by unfold maxLen;omega)
   cases rp with
   | none=>
    have hz:rl=0/\rc=0:=by
     rcases hr.at_ with ⟨_,h1,h2⟩|⟨b',o',h1,_⟩
     .exact⟨h1,h2⟩
     .cases h1
    obtain⟨rfl,rfl⟩:=hz;have hR0:R=0:=by
     rcases Nat.eq_zero_or_pos R with h1|h1
     .exact h1
     .have:=Jl h1;have:=HRL.out;omega
    have HRZ:=Ah hR0;clear hR0 hr
    go_wp2_with (at_builtin;refine wpList_append_own_none rfl _ _ 28 rfl (w.heap.size+1) 4 i0 1 Tryz.underlying28 hi' _ _ _ rfl hown rfl ?_)
    obtain⟨w1,hw1⟩:∃w1,wr.alloc (.cells #[.bool x] 4)=w1:=⟨_,rfl⟩
    obtain⟨v',hv'⟩:∃v':Value,.slice (some ⟨wr.heap.size,0,none⟩) 1 1=v':=⟨_,rfl⟩
    have ho':w1.ownsRow (w.heap.size+1) 4 1 v' 1 [.bool x]:=by rw[<-hw1,<-hv'];exact hown
    have hbw1:Below w.heap.size w w1:=by rw[<-hw1];exact hbw.alloc hbw.size _
    have hblk1:Fy w1 w.heap.size (Gb (N/M) n (i+1)):=by rw[<-hw1];exact hblk.below ((Bd _ _).alloc (As _) _) hblk.lt
    have hsz1:w.heap.size+1<w1.heap.size:=by rw[<-hw1];simp;omega
    rw[hw1,hv'];clear hw1 hv' hown;have hrow1:w1.ownsRow (w.heap.size+1) 4 1 v' (0+1) ((Cf (2*R+x.toNat) (0+1)).map Value.bool):=by
     have e9:=Vl (R:=R) (b:=x);rw[Uf HRZ.out,<-HRL.out]at e9
     rw[<-e9];exact ho'
    obtain⟨q1,e1,rfl,hrow,hnq⟩:=Ez.of_owns hrow1;have hlt:Hid (2*R+x.toNat<2^(0+1)):=Ah (by rw[HRL.out];exact dY);clear ho' hrow1
    go_wp2_with fail
    refine(Fp w1 q1 (0+1) e1 (2*R+x.toNat) hrow hlt.out).mono ?_;rintro en w2 ⟨l1,rfl,hR1,rfl⟩;have hl1:l1<=900001:=by have:=Gv hR1;have h9:=(Bo _ _).2 hlt.out;omega
    go_wp2_with fail
    refine(Sd w1 q1 l1 e1 (2*R+x.toNat) pb nb cb M hR1 (hB.below hbw1) (by omega) (by omega)).mono ?_;rintro en w2 ⟨rfl,hb2⟩;have hbw2:Below w.heap.size w w2:=Xo hbw1 hb2;have hblk2:=hblk1.below hb2 hblk1.lt;have hR2:=hR1.below hb2;clear hR1 hblk1
    by_cases hle:M<=2*R+x.toNat
    .have hK:decide (0<=Bm (2*R+x.toNat) M)=true:=by
      rw[decide_eq_true_eq];unfold Bm;rw[if_neg (by omega)];split<;>omega
     have HLE:=Ah hle;have hbit:bit (N/M) i=true:=by rw[HST.out.1,decide_eq_true hle]
     have hres:N/2^i%M=2*R+x.toNat-M:=by rw[HST.out.2.1,if_pos hle]
     have HBIT:=Ah hbit;have HRES:=Ah hres;clear hbit hres hle
     go_wp2_with fail
     refine(Sa w2 q1 l1 e1 (2*R+x.toNat) pb nb cb M hR2 (hB.below hbw2) (by omega) HLE.out).mono ?_;rintro en w3 ⟨q3,l3,e3,rfl,hR3,hb3,hn3⟩;have hblk3:=hblk2.below hb3 hblk2.lt;have hcq:w3.cell? ⟨w.heap.size,i,none⟩=some (.bool _):=hblk3.cell (Mf hin);have hfq:=hblk3.free i;have hset:=hblk3.set i true;rw[Ur hin HBIT.out]at hset
     have HSET:=Ah hset;have hn3':Fh (w.heap.size+1) q3:=hn3.mono (by have:=hb2.size;omega);clear hset hK;go_wp2;go_roundw
     case rel=>
      refine⟨i,q3,l3,e3,by omega,rfl,rfl,?_,HSET.out,hn3',(Xo hbw2 hb3).setCell (As _) _,by have:=hb3.size;have:=hb2.size;simp;omega⟩;rw[HRES.out];exact Ez.setCell hR3 (hn3'.ne (by simp)) _
     case measure=>simp[intOf]
    .have hK:decide (0<=Bm (2*R+x.toNat) M)=false:=by
      rw[decide_eq_false_iff_not,Dd (by omega)];omega
     have hbit:bit (N/M) i=false:=by rw[HST.out.1,decide_eq_false hle]
     have hres:N/2^i%M=2*R+x.toNat:=by rw[HST.out.2.1,if_neg hle,Nat.sub_zero]
     have HBIT:=Ah hbit;have HRES:=Ah hres;clear hbit hres hle;go_wp2;go_roundw
     case rel=>
      refine⟨i,q1,l1,e1,by omega,rfl,rfl,by rw[HRES.out];exact hR2,by rw[<-Sg HBIT.out];exact hblk2,hnq,hbw2,by have:=hb2.size;omega⟩
     case measure=>simp[intOf]
   | some ra=>
    obtain⟨rb,ro,hra,hrb,hrc⟩:∃b off,ra=(⟨b,off,none⟩:Addr)/\b<wr.heap.size/\∀(j:Nat) (y:Bool),(bitsOf R)[j]? = some y->wr.cell? ⟨b,off+j,none⟩=some (.bool y):=by
     rcases hr.at_ with ⟨h1,_⟩|⟨b',o',h1,h2,h3⟩
     .cases h1
     .exact⟨b',o',Option.some.inj h1,h2,h3⟩
    subst hra;have HRC:=Ah hrc;clear hrc hr
    go_wp2_with (at_builtin;refine wpList_append_own _ rfl _ _ 28 rfl (w.heap.size+1) 4 i0 (.bool false) 1 1 Tryz.underlying28 hi' hz0 hz1 hz2 rfl (by decide) _ _ _ rfl hown ⟨rb,ro,none⟩ rl rc ((bitsOf R).map Value.bool) rfl ?c1 ?c2 ?c3 ?c4 ?c5 ?c6 ?_)
    case c1=>simp[Bf];exact HRL.out.symm
    case c2=>
     intro j u hu;rw[List.getElem?_map]at hu
     cases hx:(bitsOf R)[j]? with
     | none=>rw[hx]at hu;cases hu
     | some y=>
      rw[hx]at hu;cases hu
      have e:(⟨rb,ro,none⟩:Addr).add j=⟨rb,ro+j,none⟩:=by unfold Addr.add;split<;>simp_all
      rw[e,World.cell?_alloc_past (hn:=hrb)];exact HRC.out j y hx
    case c3=>intro u hu;simp only[List.mem_map]at hu;obtain⟨y,_,rfl⟩:=hu;rfl
    case c4=>unfold maxLen;omega
    case c5=>omega
    case c6=>simp;omega
    intro v' w1 ho' hg1 _;have hbw1:Below w.heap.size w w1:=(hbw.alloc hbw.size _).grown hg1 (by simp;omega) (fun k e=>by simp[Value.ownBlock]at e;omega);have hblk1:Fy w1 w.heap.size (Gb (N/M) n (i+1)):=by
     have h8:=hblk.below ((Bd _ wr).alloc (As _) (.cells #[.bool x] 4)) hblk.lt;unfold Fy at h8 ⊢;rw[hg1.block _ (by simp;omega) (fun e=>by simp[Value.ownBlock]at e;omega)];exact h8
    have hsz1:w.heap.size+1<w1.heap.size:=by have:=hg1.size;simp at this;omega
    clear hg1 hown;have hrow1:w1.ownsRow (w.heap.size+1) 4 1 v' (rl+1) ((Cf (2*R+x.toNat) (rl+1)).map Value.bool):=by
     rw[HRL.out,<-Vl];simpa [Nat.add_comm,<-HRL.out]using ho'
    obtain⟨q1,e1,rfl,hrow,hnq⟩:=Ez.of_owns hrow1;have hlt:Hid (2*R+x.toNat<2^(rl+1)):=Ah (by rw[HRL.out];exact dY);clear ho' hrow1
    go_wp2_with fail
    refine(Fp w1 q1 (rl+1) e1 (2*R+x.toNat) hrow hlt.out).mono ?_;rintro en w2 ⟨l1,rfl,hR1,rfl⟩;have hl1:l1<=900001:=by have:=Gv hR1;have h9:=(Bo _ _).2 hlt.out;omega
    go_wp2_with fail
    refine(Sd w1 q1 l1 e1 (2*R+x.toNat) pb nb cb M hR1 (hB.below hbw1) (by omega) (by omega)).mono ?_;rintro en w2 ⟨rfl,hb2⟩;have hbw2:Below w.heap.size w w2:=Xo hbw1 hb2;have hblk2:=hblk1.below hb2 hblk1.lt;have hR2:=hR1.below hb2;clear hR1 hblk1
    by_cases hle:M<=2*R+x.toNat
    .have hK:decide (0<=Bm (2*R+x.toNat) M)=true:=by
      rw[decide_eq_true_eq];unfold Bm;rw[if_neg (by omega)];split<;>omega
     have HLE:=Ah hle;have hbit:bit (N/M) i=true:=by rw[HST.out.1,decide_eq_true hle]
     have hres:N/2^i%M=2*R+x.toNat-M:=by rw[HST.out.2.1,if_pos hle]
     have HBIT:=Ah hbit;have HRES:=Ah hres;clear hbit hres hle
     go_wp2_with fail
     refine(Sa w2 q1 l1 e1 (2*R+x.toNat) pb nb cb M hR2 (hB.below hbw2) (by omega) HLE.out).mono ?_;rintro en w3 ⟨q3,l3,e3,rfl,hR3,hb3,hn3⟩;have hblk3:=hblk2.below hb3 hblk2.lt;have hcq:w3.cell? ⟨w.heap.size,i,none⟩=some (.bool _):=hblk3.cell (Mf hin);have hfq:=hblk3.free i;have hset:=hblk3.set i true;rw[Ur hin HBIT.out]at hset
     have HSET:=Ah hset;have hn3':Fh (w.heap.size+1) q3:=hn3.mono (by have:=hb2.size;omega);clear hset hK;go_wp2;go_roundw
     case rel=>
      refine⟨i,q3,l3,e3,by omega,rfl,rfl,?_,HSET.out,hn3',(Xo hbw2 hb3).setCell (As _) _,by have:=hb3.size;have:=hb2.size;simp;omega⟩;rw[HRES.out];exact Ez.setCell hR3 (hn3'.ne (by simp)) _
     case measure=>simp[intOf]
    .have hK:decide (0<=Bm (2*R+x.toNat) M)=false:=by
      rw[decide_eq_false_iff_not,Dd (by omega)];omega
     have hbit:bit (N/M) i=false:=by rw[HST.out.1,decide_eq_false hle]
     have hres:N/2^i%M=2*R+x.toNat:=by rw[HST.out.2.1,if_neg hle,Nat.sub_zero]
     have HBIT:=Ah hbit;have HRES:=Ah hres;clear hbit hres hle;go_wp2;go_roundw
     case rel=>
      refine⟨i,q1,l1,e1,by omega,rfl,rfl,by rw[HRES.out];exact hR2,by rw[<-Sg HBIT.out];exact hblk2,hnq,hbw2,by have:=hb2.size;omega⟩
     case measure=>simp[intOf]
theorem jJ {w:World}{v u:Value}{N M:Nat}(h:Bj N v w)(k:Bj M u w)(hN:Ax N<=900000)(hM:Ax M<=900000)(hM0:0<M) :
  Calls Tryz.prog 148 #[v,u] w fun en w'=>∃p n c q m d,en=.returned (.tuple #[.slice p n c,.slice q m d])/\Bn w' p n c (N/M)/\Bn w' q m d (N%M)/\Below w.heap.size w w':=by
 obtain⟨p,n,c,rfl,h⟩:=h;obtain⟨q,m,d,rfl,k⟩:=k;refine(bJ w p n c N q m d M h k (by rw[Gv h];omega) (by rw[Gv k];omega) hM0).mono ?_;rintro en w' ⟨p,n,c,q,m,d,rfl,h1,h2,hb,_,_⟩;exact⟨p,n,c,q,m,d,rfl,h1,h2,hb⟩
theorem kO (A B:Nat):Nat.gcd B (A%B)=Nat.gcd A B:=by
 rw[Nat.gcd_comm B,<-Nat.gcd_rec,Nat.gcd_comm]
structure pK (w wr:World) (e A k:Nat) (pa:Option Addr) (na ca:Nat) (pb:Option Addr) (nb cb:Nat):Prop where
 box0:Af wr w.heap.size (.slice pa na ca)
 box1:Af wr (w.heap.size+1) (.slice pb nb cb)
 box2:Af wr (w.heap.size+2) (.slice none 0 0)
 one:Aj wr pa na ca A
 two:Aj wr pb nb cb k
 lim1:A<Ap e
 lim2:k<Ap e
 bel:Below w.heap.size w wr
theorem gM (w:World)(pa:Option Addr)(na ca N:Nat)(pb:Option Addr)(nb cb M e:Nat)(hA:Aj w pa na ca N)(hB:Aj w pb nb cb M)(hlA:N<Ap e)(hlB:M<Ap e)(he:e<=800000) :
  Calls Tryz.prog 253 #[.agg #[.slice pa na ca],.agg #[.slice pb nb cb]] w (Gw (Nat.gcd N M) w):=by
 obtain⟨G,hG⟩:∃G,Nat.gcd N M=G:=⟨_,rfl⟩
 rw[hG];have HG:=Ah hG;clear hG;go_enter Tryz.func253,Tryz.ntmps253;go_wp2
 go_loopg [7] M (fun k _ wr=>∃(A:Nat) (pa:Option Addr) (na ca:Nat) (pb:Option Addr) (nb cb:Nat),pK w wr e A k pa na ca pb nb cb/\Hid (Nat.gcd A k=G))
 case atStart=>
  have hbx:=Cv.mk3 w (.slice pa na ca) (.slice pb nb cb) (.slice none 0 0) 36 36 36;refine⟨N,pa,na,ca,pb,nb,cb,⟨?_,?_,?_,hA.below hbx.bel,hB.below hbx.bel,hlA,hlB,hbx.bel⟩,HG⟩
  .exact((Af.made w _).below ((Bd _ _).alloc (As _) _) (by simp)).below ((Bd _ _).alloc (As _) _) (by simp;omega)
  .have:=(Af.made (w.alloc (.cells #[.slice pa na ca] 36)) (.slice pb nb cb)).below ((Bd _ _).alloc (As _) (.cells #[.slice none 0 0] 36)) (by simp);simpa using this
  .have:=Af.made ((w.alloc (.cells #[.slice pa na ca] 36)).alloc (.cells #[.slice pb nb cb] 36)) (.slice none 0 0);simpa using this
 case round=>
  obtain⟨A,pa,na,ca,pb,nb,cb,hst,hgc⟩:=hrel;have HST:=Ah hst;have c1:=hst.box1.cell;have l1:=hst.one.len_le hst.lim1;have l2:=hst.two.len_le hst.lim2;clear hst
  go_wp2_with fail
  refine(Du wr pb nb cb).mono ?_;rintro en w1 ⟨rfl,hb1⟩;have hz:decide (nb=0)=decide (gk=0):=decide_eq_decide.2 HST.out.two.zero;rw[hz];clear hz;rcases Nat.eq_zero_or_pos gk with h0|h0
  .have hd0:decide (gk=0)=true:=decide_eq_true h0;rw[hd0];have HAG:Hid (A=G):=Ah (by have:=hgc.out;rw[h0,Nat.gcd_zero_right]at this;exact this);have HB1:=Ah hb1;have k0:=(HST.out.box0.below hb1 HST.out.box0.lt).cell;clear hd0 h0 c1
   go_wp2_with fail
   refine(Qw w1 pa na ca A (HST.out.one.below HB1.out) (by omega)).mono ?_;rintro en w2 ⟨q,m,d,rfl,hn,hb2,hq⟩;have k2:=((HST.out.box2.below HB1.out HST.out.box2.lt).below hb2 (De HST.out.box2.lt HB1.out.size))
   have k2c:=k2.cell;have k2f:=k2.free;have hqn:w.heap.size+2<w1.heap.size:=De HST.out.box2.lt HB1.out.size;have hbw:=Ae (Ae HST.out.bel HB1.out) hb2;clear k0;go_wp2;refine bodyPost_ret (v:=.agg #[.slice q m d]) (by simp[results,Tryz.results253,go_sem,k2c]) rfl ⟨q,m,d,rfl,?_,hbw.setCell (by simp;omega) _,hq.mono (by omega)⟩;have:=hn.setCell (a:=⟨w.heap.size+2,0,none⟩) (hq.ne (by simpa using hqn)) (.slice q m d);rw[HAG.out]at this
   exact this
  .have hd0:decide (gk=0)=false:=decide_eq_false (by omega);rw[hd0];have H0:=Ah h0;have HB1:=Ah hb1;have k0:=(HST.out.box0.below hb1 HST.out.box0.lt).cell;have k1:=(HST.out.box1.below hb1 HST.out.box1.lt).cell;clear hd0 h0 c1 hb1
   go_wp2_with fail
   refine(Vi w1 pa na ca A pb nb cb gk (HST.out.one.below HB1.out) (HST.out.two.below HB1.out) (by omega) (by omega)).mono ?_;rintro en w2 ⟨q,m,d,r,l,f,rfl,hq,hr,hb2,_,_⟩;rw[if_neg (by have:=H0.out;omega)]at hr
   rw[if_neg (by have:=H0.out;omega)];have hb12:=Ae HB1.out hb2;have g0:=HST.out.box0.below hb12 HST.out.box0.lt;have g1:=HST.out.box1.below hb12 HST.out.box1.lt;have g2:=HST.out.box2.below hb12 HST.out.box2.lt;have n2:=HST.out.two.below hb12;have hbw:=Ae HST.out.bel hb12;have s2:=g2.lt;have HG0:=Ah g0;have HG1:=Ah g1;have HG2:=Ah g2;have HR:=Ah hr;have HN2:=Ah n2;have HBW:=Ah hbw;clear k0 k1 hq g0 g1 g2 hr n2 hbw hb12 hb2;go_wp2;obtain⟨w3,hw3⟩:∃w3,(w2.alloc (.cells #[.slice q m d] 36)).alloc (.cells #[.slice r l f] 36)=w3:=⟨_,rfl⟩
   have hb3:Below w2.heap.size w2 w3:=by rw[<-hw3];exact((Bd _ _).alloc (As _) _).alloc (by simp) _
   have hr3:Af w3 (w2.heap.size+1) (.slice r l f):=by
    rw[<-hw3];have:=Af.made (w2.alloc (.cells #[.slice q m d] 36)) (.slice r l f);simpa using this
   rw[hw3];have hb4:=hb3.trans (Bd w2.heap.size w3).drew;have hs2:w.heap.size+2<w2.heap.size:=s2;refine Ai (by kernel_rfl) (by kernel_rfl)
    [some (.agg #[.slice pb nb cb]),some (.agg #[.slice r l f]),none,none]
    [false,false,true,true] rfl
    (fun _ _=>True)
    (fun D w'=>Af w' w.heap.size (if D 2 then .slice pb nb cb else .slice pa na ca)/\Af w' (w.heap.size+1) (if D 3 then .slice r l f else .slice pb nb cb)/\Af w' (w.heap.size+2) (.slice none 0 0)/\Af w' (w2.heap.size+1) (.slice r l f)/\Aj w' pb nb cb gk/\Aj w' r l f (A%gk)/\Below w.heap.size w w')
    (fun _ _ _=>True)
    (fun _ _ _ _ h _=>h) ⟨HG0.out.below hb4 HG0.out.lt,HG1.out.below hb4 HG1.out.lt,HG2.out.below hb4 HG2.out.lt,hr3,HN2.out.below hb4,HR.out.below hb4,Ae HBW.out hb4⟩ ?_ ?_
   .simp only[Ba,Nat.reduceAdd];refine⟨?_,?_,?_,?_,trivial⟩
    case refine_1=>
     intro D sp w' hD hW hdp ⟨k0,k1,k2,k3,k4,k5,k6⟩;have h3:D 3=false:=hW 3 (mq (by kernel_rfl));rw[h3]at k1
     simp only[Bool.false_eq_true,if_false]at k1;have c1:=k1.cell;simp[asked,Region.wanted,Oper.gives,execOp,Act.eval,go_sem,c1]
    case refine_2=>
     intro D sp w' hD hW hdp ⟨k0,k1,k2,k3,k4,k5,k6⟩;have c3:=k3.cell;simp[asked,Region.wanted,Oper.gives,execOp,Act.eval,Act.put,go_sem,c3]
    case refine_3=>
     intro D sp w' hD hW hdp ⟨k0,k1,k2,k3,k4,k5,k6⟩;rw[hD]at k0
     simp only[Bool.false_eq_true,if_false]at k0;have c0:=k0.cell;have f0:=k0.free;have e1:=k1.other (b':=w.heap.size) (by omega) (.slice pb nb cb);have e2:=k2.other (b':=w.heap.size) (by omega) (.slice pb nb cb);have e3:=k3.other (b':=w.heap.size) (by omega) (.slice pb nb cb)
     (with_reducible refine An (w1:=w'.setCell ⟨w.heap.size,0,none⟩ (.slice pb nb cb)) ?_ ?_ ?_)
     .simp only[Region.wanted]
     .simp[execOp,Act.eval,Act.put,go_sem,c0,f0]
     .refine⟨trivial,trivial,?_,?_,e2,e3,k4.store k0 _,k5.store k0 _,k6.setCell (As _) _⟩
      .simp only[decide_true,Bool.or_true,if_true];exact k0.set _
      .simpa using e1
    case refine_4=>
     intro D sp w' hD hW hdp ⟨k0,k1,k2,k3,k4,k5,k6⟩;rw[hD]at k1
     simp only[Bool.false_eq_true,if_false]at k1;have c0:=k1.cell;have f0:=k1.free;have e1:=k0.other (b':=w.heap.size+1) (by omega) (.slice r l f);have e2:=k2.other (b':=w.heap.size+1) (by omega) (.slice r l f);have e3:=k3.other (b':=w.heap.size+1) (by omega) (.slice r l f)
     (with_reducible refine An (w1:=w'.setCell ⟨w.heap.size+1,0,none⟩ (.slice r l f)) ?_ ?_ ?_)
     .simp only[Region.wanted]
     .simp[execOp,Act.eval,Act.put,go_sem,c0,f0]
     .refine⟨trivial,trivial,?_,?_,e2,e3,k4.store k1 _,k5.store k1 _,k6.setCell (by simp) _⟩
      .simpa using e1
      .simp only[decide_true,Bool.or_true,if_true];exact k1.set _
   .intro sp w' hsp ⟨k0,k1,k2,k3,k4,k5,k6⟩;have j0:Af w' w.heap.size (.slice pb nb cb):=k0;have j1:Af w' (w.heap.size+1) (.slice r l f):=k1;have hlt:A%gk<gk:=Nat.mod_lt _ H0.out;have HLT:=Ah hlt;have J:Hid (pK w w' e gk (A%gk) pb nb cb r l f):=Ah ⟨j0,j1,k2,k4,k5,HST.out.lim2,Nat.lt_trans hlt HST.out.lim2,k6⟩;clear hsp k0 k1 k2 k3 k4 k5 k6 j0 j1 hlt;simp only[Am,Nat.reduceAdd];generalize sp 2=u2,sp 3=u3 at *
    go_simp
    go_wp2
    go_roundg (A%gk)
    case measure=>exact HLT.out
    case rel=>exact⟨gk,pb,nb,cb,r,l,f,J.out,Ah (by rw[kO];exact hgc.out)⟩
theorem Be {w:World}{v u:Value}{e f N M:Nat}{K:Int}(h:Fit e N v w)(k:Fit f M u w)(he:e<=900000)(hf:f<=900000)(hK:Bm N M=K) :
  Calls Tryz.prog 34 #[v,u] w fun en w'=>∃x,en=.returned x/\x=.int .i64 K/\Below w.heap.size w w':=by
 subst hK;exact Mm h k he hf
theorem Lz {w:World}{v:Value}{e N:Nat}{t:Bool}(h:Fit e N v w)(hz:decide (N=0)=t) :
  Calls Tryz.prog 26 #[v] w fun en w'=>∃x,en=.returned x/\x=.bool t/\Below w.heap.size w w':=by
 subst hz;exact Nu h
def Ly (x y:Nat)(v:Value)(w:World):Prop:=∃p n c q m d,v=.tuple #[.agg #[.slice p n c],.agg #[.slice q m d],.int .i64 0]/\Aj w p n c x/\Aj w q m d y
def Db (x:Nat)(v:Value)(w:World):Prop:=∃p n c,v=.agg #[.slice p n c]/\Aj w p n c x
theorem Ly.keep {x y B:Nat}{v:Value}{w w':World}(h:Ly x y v w)(k:Ao B w w'):Ly x y v w' :=
 let ⟨p,n,c,q,m,d,h1,h2,h3⟩:=h
 ⟨p,n,c,q,m,d,h1,k.nat _ _ _ _ h2,k.nat _ _ _ _ h3⟩
theorem Db.keep {x B:Nat}{v:Value}{w w':World}(h:Db x v w)(k:Ao B w w'):Db x v w' :=
 let ⟨p,n,c,h1,h2⟩:=h
 ⟨p,n,c,h1,k.nat _ _ _ _ h2⟩
theorem Ao.same (B:Nat)(w:World):Ao B w w:=⟨Bd _ _,fun _ _ _ _ k=>k⟩
structure RingAt (w:World) (r M:Nat):Prop where
 ex:∃p n c,w.heap[r]? = some (.cells #[.slice p n c] 143 (0,0))/\Aj w p n c M/\n<800000
theorem RingAt.lt {w:World}{r M:Nat}(h:RingAt w r M):r<w.heap.size:=by
 obtain⟨p,n,c,h1,_⟩:=h.ex;exact(Gn h1).1
theorem RingAt.below {w w':World}{r M:Nat}(h:RingAt w r M)(hb:Below w.heap.size w w'):RingAt w' r M:=by
 have hl:=h.lt;obtain⟨p,n,c,h1,h2,h3⟩:=h.ex;exact⟨p,n,c,by rw[hb.block r hl];exact h1,h2.below hb,h3⟩
theorem Me {w:World}{r:Nat}{u:Value}(h:w.heap[r]? = some (.cells #[u] 143 (0,0))):w.cell? ⟨r,0,none⟩=some u:=by
 simp[World.cell?,h]
def qN (N:Nat)(w:World)(e:Ending)(w':World):Prop:=∃p n c,e=.returned (.agg #[.slice p n c])/\Aj w' p n c N/\Below w.heap.size w w'
theorem Sz {w:World}{v u:Value}{e f x y:Nat}(h:Fit e x v w)(k:Fit f y u w)(hy:y≠0)(he:e<=800000)(hf:f<=800000) :
  Calls Tryz.prog 101 #[v,u] w fun en w'=>∃z,en=.returned z/\Ly (x/y) (x%y) z w'/\Below w.heap.size w w':=by
 refine(Xi h k he hf).mono ?_;rintro en w' ⟨z,rfl,⟨q,r,rfl,⟨p1,n1,c1,rfl,g1,_⟩,⟨p2,n2,c2,rfl,g2,_⟩⟩,hb⟩;rw[if_neg hy]at g2
 rw[if_neg hy];exact⟨_,rfl,⟨_,_,_,_,_,_,rfl,g1,g2⟩,hb⟩
theorem fC (w:World)(r M:Nat)(pa:Option Addr)(na ca N e f:Nat)(hR:RingAt w r M)(hM:M≠0)(hMf:M<Ap f)(hA:Aj w pa na ca N)(hN:N<Ap e)(he:e<=800000)(hf:f<=800000) :
  Calls Tryz.prog 32 #[.pointer (some ⟨r,0,none⟩),.agg #[.slice pa na ca]] w (qN (N%M) w):=by
 have hrl:=hR.lt;obtain⟨pm,nm,cm,hm1,hm2,_⟩:=hR.ex;have hFA:Fit e N (.agg #[.slice pa na ca]) w:=Fit.of hA hN;have hFM:Fit f M (.agg #[.slice pm nm cm]) w:=Fit.of hm2 hMf;have HM:=Ah hM;have HR:=Ah hm1;obtain⟨B0,hB0⟩:∃B0,w.heap.size+2=B0:=⟨_,rfl⟩
 have hbx:=Gz.mk2 w (.slice pa na ca) (.slice none 0 0) 36 36;have hnb:Af ((w.alloc (.cells #[.slice pa na ca] 36)).alloc (.cells #[.slice none 0 0] 36)) (w.heap.size+1) (.slice none 0 0):=by
  have:=Af.made (w.alloc (.cells #[.slice pa na ca] 36)) (.slice none 0 0);simpa using this
 have HB0:=Ah hB0;have hB0':w.heap.size+2<=B0:=Nat.le_of_eq hB0;clear hB0 hM hm1 hR;go_enter Tryz.func32,Tryz.ntmps32;go_wp2;refine Ak (by kernel_rfl) (by kernel_rfl)
  [some (.agg #[.slice pa na ca]),some (.pointer (some ⟨r,0,none⟩)),some (.pointer (some ⟨r,0,none⟩)),some (.pointer (some ⟨r,0,none⟩)),some (.agg #[.slice pm nm cm]),none,none,none,none,some (.int .i64 0),none,none,none,none,some (.int .i64 0)]
  [false,false,false,false,false,true,true,true,true,false,true,true,true,true,false] rfl
  (fun w1 w2=>Ao B0 w1 w2)
  (fun D sp w'=>(Gz w w' (.slice pa na ca) (.slice none 0 0)/\Af w' (w.heap.size+1) (.slice none 0 0))/\Hm B0 (N/M) (N%M) (D 10) (D 11) (D 12) (D 13) (sp 10) (sp 11) w')
  (fun i v w'=>match i with
   | 5|6=>Ly (N/M) (N%M) v w'
   | 7=>Db (N/M) v w'
   | 8=>Db (N%M) v w'
   | _=>True)
  ?_ ⟨⟨hbx.below (Bd _ _).drew (As _),hnb⟩,Hm.start (by simpa using Nat.le_of_eq HB0.out.symm)⟩ ?_ ?_
 .intro i v w1 w2 hf hb;split at hf
  .exact Ly.keep hf hb
  .exact Ly.keep hf hb
  .exact Db.keep hf hb
  .exact Db.keep hf hb
  .trivial
 .simp only[Az,Nat.reduceAdd];refine⟨?_,?_,?_,?_,?_,?_,?_,?_,?_,?_,?_,?_,?_,?_,?_,trivial⟩
  case refine_6=>
   intro D sp w' hD hW hdp ⟨hbx',hg⟩
   (with_reducible refine Ab (w1:=w') (f := 101) (args:=#[.agg #[.slice pa na ca],.agg #[.slice pm nm cm]]) ?_ ?_ ?_)
   .simp only[Region.wanted]
   .simp[Act.eval,Act.put,go_sem]
   .refine(Sz (hFA.below hbx'.1.bel) (hFM.below hbx'.1.bel) HM.out he hf).mono ?_;rintro e w5 ⟨u,rfl,hu,hb⟩;exact⟨u,rfl,Ao.of hb hg.size,hu,⟨hbx'.1.later hb,hbx'.2.below hb hbx'.2.lt⟩,by simpa [upd]using hg.later hb⟩
  case refine_7=>
   intro D sp w' hD hW hdp ⟨hbx',hg⟩;have k4:Ly (N/M) (N%M) (sp 5) w':=(hdp 5 (mq (by kernel_rfl))).2
   (with_reducible refine Ag (w1:=w') (v:=sp 5) ?_ ?_ ?_)
   .simp only[Region.wanted]
   .simp[execOp,Act.eval,Act.put,go_sem]
   .exact⟨Ao.same _ _,k4,hbx',by simpa [upd]using hg⟩
  case refine_8=>
   intro D sp w' hD hW hdp ⟨hbx',hg⟩;have hx:∃p n c q m d,sp 6=.tuple #[.agg #[.slice p n c],.agg #[.slice q m d],.int .i64 0]/\Aj w' p n c (N/M)/\Aj w' q m d (N%M):=(hdp 6 (mq (by kernel_rfl))).2
   (with_reducible refine Aq hx fun p hx1=>Aq hx1 fun n hx2=>Aq hx2 fun c hx3=>Aq hx3 fun q hx4=>Aq hx4 fun m hx5=>Aq hx5 fun d hx6=>?_)
   have h1:=hx6.1
   (with_reducible refine Ag (w1:=w') (v:=.agg #[.slice p n c]) ?_ ?_ ?_)
   .simp only[Region.wanted]
   .simp[execOp,Act.eval,Act.put,go_sem,h1]
   .exact⟨Ao.same _ _,⟨p,n,c,rfl,hx6.2.1⟩,hbx',by simpa [upd]using hg⟩
  case refine_9=>
   intro D sp w' hD hW hdp ⟨hbx',hg⟩;have hx:∃p n c q m d,sp 6=.tuple #[.agg #[.slice p n c],.agg #[.slice q m d],.int .i64 0]/\Aj w' p n c (N/M)/\Aj w' q m d (N%M):=(hdp 6 (mq (by kernel_rfl))).2
   (with_reducible refine Aq hx fun p hx1=>Aq hx1 fun n hx2=>Aq hx2 fun c hx3=>Aq hx3 fun q hx4=>Aq hx4 fun m hx5=>Aq hx5 fun d hx6=>?_)
   have h1:=hx6.1
   (with_reducible refine Ag (w1:=w') (v:=.agg #[.slice q m d]) ?_ ?_ ?_)
   .simp only[Region.wanted]
   .simp[execOp,Act.eval,Act.put,go_sem,h1]
   .exact⟨Ao.same _ _,⟨q,m,d,rfl,hx6.2.2⟩,hbx',by simpa [upd]using hg⟩
  case refine_10=>
   intro D sp w' hD hW hdp ⟨hbx',hg⟩;have hx:∃p n c q m d,sp 6=.tuple #[.agg #[.slice p n c],.agg #[.slice q m d],.int .i64 0]/\Aj w' p n c (N/M)/\Aj w' q m d (N%M):=(hdp 6 (mq (by kernel_rfl))).2
   (with_reducible refine Aq hx fun p hx1=>Aq hx1 fun n hx2=>Aq hx2 fun c hx3=>Aq hx3 fun q hx4=>Aq hx4 fun m hx5=>Aq hx5 fun d hx6=>?_)
   have h1:=hx6.1;simp[asked,Region.wanted,Oper.gives,execOp,Act.eval,Act.put,go_sem,h1]
  case refine_11=>
   intro D sp w' hD hW hdp ⟨hbx',hg⟩;have h9:D 12=false:=hW 12 (mq (by kernel_rfl));rw[hD,h9]at hg
   (with_reducible refine Ag (w1:=w'.alloc (.cells #[.slice none 0 0] 36)) (v:=.pointer (some ⟨w'.heap.size,0,none⟩)) ?_ ?_ ?_)
   .simp only[Region.wanted]
   .simp[execOp,go_sem]
   .have hb:Below w'.heap.size w' (w'.alloc (.cells #[.slice none 0 0] 36)):=By;refine⟨Ao.of hb hg.size,trivial,⟨hbx'.1.later hb,hbx'.2.below hb hbx'.2.lt⟩,?_⟩;have h8:=hg.alloc1;simpa [upd,h9]using h8
  case refine_12=>
   intro D sp w' hD hW hdp ⟨hbx',hg⟩;have h9:D 13=false:=hW 13 (mq (by kernel_rfl));rw[hD,h9]at hg
   (with_reducible refine Ag (w1:=w'.alloc (.cells #[.slice none 0 0] 36)) (v:=.pointer (some ⟨w'.heap.size,0,none⟩)) ?_ ?_ ?_)
   .simp only[Region.wanted]
   .simp[execOp,go_sem]
   .have hb:Below w'.heap.size w' (w'.alloc (.cells #[.slice none 0 0] 36)):=By;refine⟨Ao.of hb hg.size,trivial,⟨hbx'.1.later hb,hbx'.2.below hb hbx'.2.lt⟩,?_⟩;have h8:=hg.alloc2;simpa [upd,h9]using h8
  case refine_13=>
   intro D sp w' hD hW hdp ⟨hbx',hg⟩;have hx:∃p n c,sp 7=.agg #[.slice p n c]/\Aj w' p n c (N/M):=(hdp 7 (mq (by kernel_rfl))).2;have h9:=(hdp 10 (mq (by kernel_rfl))).1;rw[h9]at hg
   (with_reducible refine Aq hx fun p hx1=>Aq hx1 fun n hx2=>Aq hx2 fun c hx3=>Aq (hg.store1 hx3.2) fun b hy1=>Aq hy1 fun q hy2=>Aq hy2 fun m hy3=>Aq hy3 fun d hy4=>?_)
   have h1:=hx3.1;have h3:=hy4.1;have h4:=hy4.2.1;have h5:=hy4.2.2.1;have h6:=h5.cell;have h7:=h5.free
   (with_reducible refine An (w1:=w'.setCell ⟨b,0,none⟩ (.slice p n c)) ?_ ?_ ?_)
   .simp only[Region.wanted]
   .simp[execOp,Act.eval,Act.put,go_sem,h1,h3,h6,h7]
   .refine⟨Ao.store h5 h4 _,trivial,⟨hbx'.1.below (B:=B0) ((Bd _ _).setCell h4 _) hB0',hbx'.2.other (by omega) _⟩,?_⟩;have h8:=hy4.2.2.2;simpa [upd,h9]using h8
  case refine_14=>
   intro D sp w' hD hW hdp ⟨hbx',hg⟩;have hx:∃p n c,sp 8=.agg #[.slice p n c]/\Aj w' p n c (N%M):=(hdp 8 (mq (by kernel_rfl))).2;have h9:=(hdp 11 (mq (by kernel_rfl))).1;rw[h9]at hg
   (with_reducible refine Aq hx fun p hx1=>Aq hx1 fun n hx2=>Aq hx2 fun c hx3=>Aq (hg.store2 hx3.2) fun b hy1=>Aq hy1 fun q hy2=>Aq hy2 fun m hy3=>Aq hy3 fun d hy4=>?_)
   have h1:=hx3.1;have h3:=hy4.1;have h4:=hy4.2.1;have h5:=hy4.2.2.1;have h6:=h5.cell;have h7:=h5.free
   (with_reducible refine An (w1:=w'.setCell ⟨b,0,none⟩ (.slice p n c)) ?_ ?_ ?_)
   .simp only[Region.wanted]
   .simp[execOp,Act.eval,Act.put,go_sem,h1,h3,h6,h7]
   .refine⟨Ao.store h5 h4 _,trivial,⟨hbx'.1.below (B:=B0) ((Bd _ _).setCell h4 _) hB0',hbx'.2.other (by omega) _⟩,?_⟩;have h8:=hy4.2.2.2;simpa [upd,h9]using h8
  all_goals
   intro D sp w' hD hW hdp ⟨hbx',hg⟩;have c0:=hbx'.1.c0;have c1:w'.cell? ⟨r,0,none⟩=some (.slice pm nm cm):=by rw[(Bz hbx'.1.bel).1 _ _ hrl];exact Me HR.out
   simp[asked,Region.wanted,Oper.gives,execOp,Act.eval,Act.put,go_sem,c0,c1]
 .intro sp w7 hsp ⟨⟨hbx2,hbn⟩,hg⟩;obtain⟨b2,e2,hb2,pr,nr,cr,n2,hR1⟩:=hg.two rfl;replace hR1:=hR1 rfl;have n2c:=n2.cell;have hne:b2≠w.heap.size+1:=by omega
  clear hsp hg;simp only[Am,Nat.reduceAdd];rw[e2];clear e2;generalize sp 5=u5,sp 6=u6,sp 7=u7,sp 8=u8,sp 10=u10,sp 12=u12,sp 13=u13 at *
  go_simp
  have d1:=hbx2.c1;have f1:=hbx2.f1;go_wp2;refine bodyPost_ret (v:=.agg #[.slice pr nr cr]) (by simp[results,Tryz.results32,go_sem,d1]) rfl ⟨pr,nr,cr,rfl,hR1.store hbn _,hbx2.bel.setCell (by simp) _⟩
structure Vr (w wr:World) (u0 u1 u2:Value):Prop where
 b0:Af wr w.heap.size u0
 b1:Af wr (w.heap.size+1) u1
 b2:Af wr (w.heap.size+1+1) u2
 bel:Below w.heap.size w wr
theorem Vr.later {w wr w1:World}{u0 u1 u2:Value}(h:Vr w wr u0 u1 u2)(hb:Below wr.heap.size wr w1):Vr w w1 u0 u1 u2 :=
 ⟨h.b0.below hb h.b0.lt,h.b1.below hb h.b1.lt,h.b2.below hb h.b2.lt,Ae h.bel hb⟩
theorem Vr.mk3 (w:World)(u0 u1 u2:Value) :
  Vr w (((w.alloc (.cells #[u0] 36)).alloc (.cells #[u1] 36)).alloc (.cells #[u2] 36)) u0 u1 u2:=by
 refine⟨?_,?_,?_,(((Bd _ _).alloc (As _) _).alloc (by simp) _).alloc (by simp;omega) _⟩
 .exact((Af.made w u0).below ((Bd _ _).alloc (As _) _) (by simp)).below ((Bd _ _).alloc (As _) _) (by simp;omega)
 .have:=(Af.made (w.alloc (.cells #[u0] 36)) u1).below ((Bd _ _).alloc (As _) (.cells #[u2] 36)) (by simp);simpa using this
 .have:=Af.made ((w.alloc (.cells #[u0] 36)).alloc (.cells #[u1] 36)) u2;simpa using this
structure eF (w wr:World) (u0 u1:Value):Prop where
 b0:Af wr w.heap.size u0
 b1:Af wr (w.heap.size+1) u1
 bel:Below w.heap.size w wr
theorem eF.later {w wr w1:World}{u0 u1:Value}(h:eF w wr u0 u1)(hb:Below wr.heap.size wr w1):eF w w1 u0 u1 :=
 ⟨h.b0.below hb h.b0.lt,h.b1.below hb h.b1.lt,Ae h.bel hb⟩
theorem eF.mk2 (w:World)(u0 u1:Value) :
  eF w ((w.alloc (.cells #[u0] 36)).alloc (.cells #[u1] 36)) u0 u1:=by
 refine⟨?_,?_,((Bd _ _).alloc (As _) _).alloc (by simp) _⟩
 .exact(Af.made w u0).below ((Bd _ _).alloc (As _) _) (by simp)
 .have:=Af.made (w.alloc (.cells #[u0] 36)) u1;simpa using this
structure Ring (w:World) (r M f:Nat):Prop where
 at_:RingAt w r M
 two:2<=M
 lim:M<Ap f
 few:f<=10000
theorem Ring.below {w w':World}{r M f:Nat}(h:Ring w r M f)(hb:Below w.heap.size w w'):Ring w' r M f:=⟨h.at_.below hb,h.two,h.lim,h.few⟩
theorem Aw {e N:Nat}{v:Value}{w:World}(h:Fit e N v w):∃p n c,v=.agg #[.slice p n c]/\Aj w p n c N/\N<Ap e:=h
theorem Dc {w:World}{r M f e N:Nat}{v:Value}(hR:Ring w r M f)(h:Fit e N v w)(he:e<=800000) :
  Calls Tryz.prog 32 #[.pointer (some ⟨r,0,none⟩),v] w fun en w'=>∃x,en=.returned x/\Fit f (N%M) x w'/\Below w.heap.size w w':=by
 obtain⟨p,n,c,rfl,h1,h2⟩:=h;refine(fC w r M p n c N e f hR.at_ (by have:=hR.two;omega) hR.lim h1 h2 he (by have:=hR.few;omega)).mono ?_;rintro en w' ⟨q,m,d,rfl,h3,hb⟩;exact⟨_,rfl,Fit.of h3 (Nat.lt_trans (Nat.mod_lt _ (by have:=hR.two;omega)) hR.lim),hb⟩
theorem Jv {w:World}{r M f e1 e2 N K:Nat}{v u:Value}(hR:Ring w r M f)(h:Fit e1 N v w)(k:Fit e2 K u w)(he1:e1<=300000)(he2:e2<=300000) :
  Calls Tryz.prog 47 #[.pointer (some ⟨r,0,none⟩),v,u] w fun en w'=>∃x,en=.returned x/\Fit f ((N+K)%M) x w'/\Below w.heap.size w w':=by
 obtain⟨pa,na,ca,rfl,h1,h2⟩:=Aw h;obtain⟨pb,nb,cb,rfl,k1,k2⟩:=Aw k;have hbx:=Vr.mk3 w (.slice pa na ca) (.slice pb nb cb) (.slice none 0 0);go_enter Tryz.func47,Tryz.ntmps47
 go_wp2_with fail
 refine(Kj (h.below hbx.bel) (k.below hbx.bel) (by omega) (by omega)).mono ?_;rintro en w1 ⟨x,rfl,hx,hb⟩;replace hbx:=hbx.later hb
 go_wp2_with fail
 refine(Dc (hR.below hbx.bel) hx (by omega)).mono ?_;rintro en w2 ⟨y,rfl,hy,hb2⟩;replace hbx:=hbx.later hb2;obtain⟨pc,nc,cc,rfl,y1,y2⟩:=hy;have c2:=hbx.b2.cell;have f2:=hbx.b2.free;have z2:=hbx.b2.lt;go_wp2;exact bodyPost_ret (v:=.agg #[.slice pc nc cc]) (by simp[results,Tryz.results47,go_sem,c2]) rfl ⟨_,rfl,Fit.of (y1.store hbx.b2 _) y2,hbx.bel.setCell (by simp;omega) _⟩
theorem Dm {w:World}{r M f e1 e2 N K:Nat}{v u:Value}(hR:Ring w r M f)(h:Fit e1 N v w)(k:Fit e2 K u w)(he1:e1<=300000)(he2:e2<=300000) :
  Calls Tryz.prog 48 #[.pointer (some ⟨r,0,none⟩),v,u] w fun en w'=>∃x,en=.returned x/\Fit f ((N*K)%M) x w'/\Below w.heap.size w w':=by
 obtain⟨pa,na,ca,rfl,h1,h2⟩:=Aw h;obtain⟨pb,nb,cb,rfl,k1,k2⟩:=Aw k;have hbx:=Vr.mk3 w (.slice pa na ca) (.slice pb nb cb) (.slice none 0 0);go_enter Tryz.func48,Tryz.ntmps48
 go_wp2_with fail
 refine(Mg (h.below hbx.bel) (k.below hbx.bel) (by omega) (by omega)).mono ?_;rintro en w1 ⟨x,rfl,hx,hb⟩;replace hbx:=hbx.later hb
 go_wp2_with fail
 refine(Dc (hR.below hbx.bel) hx (by omega)).mono ?_;rintro en w2 ⟨y,rfl,hy,hb2⟩;replace hbx:=hbx.later hb2;obtain⟨pc,nc,cc,rfl,y1,y2⟩:=hy;have c2:=hbx.b2.cell;have f2:=hbx.b2.free;have z2:=hbx.b2.lt;go_wp2;exact bodyPost_ret (v:=.agg #[.slice pc nc cc]) (by simp[results,Tryz.results48,go_sem,c2]) rfl ⟨_,rfl,Fit.of (y1.store hbx.b2 _) y2,hbx.bel.setCell (by simp;omega) _⟩
theorem Tb {w:World}{e N:Nat}{v:Value}(h:Fit e N v w)(he:e<=300000) :
  Calls Tryz.prog 145 #[v] w fun en w'=>∃x,en=.returned x/\Fit e N x w'/\Below w.heap.size w w':=by
 obtain⟨pa,na,ca,rfl,h1,h2⟩:=Aw h;have hbx:=eF.mk2 w (.slice pa na ca) (.slice none 0 0);have hz:∀w',Fit 0 0 (.agg #[.slice none 0 0]) w':=fun w'=>Fit.of (Aj.nil w') (by decide)
 have HZ:=Ah hz;clear hz;go_enter Tryz.func145,Tryz.ntmps145
 go_wp2_with fail
 refine(Kj (h.below hbx.bel) (HZ.out _) (by omega) (by omega)).mono ?_;rintro en w1 ⟨x,rfl,hx,hb⟩;replace hbx:=hbx.later hb;obtain⟨pc,nc,cc,rfl,y1,_⟩:=hx;have c1:=hbx.b1.cell;have f1:=hbx.b1.free;have z1:=hbx.b1.lt;go_wp2;exact bodyPost_ret (v:=.agg #[.slice pc nc cc]) (by simp[results,Tryz.results145,go_sem,c1]) rfl ⟨_,rfl,Fit.of (y1.store hbx.b1 _) h2,hbx.bel.setCell (by simp) _⟩
theorem Ei {w:World}{r M f:Nat}(hR:Ring w r M f) :
  Calls Tryz.prog 83 #[.pointer (some ⟨r,0,none⟩)] w fun en w'=>∃x,en=.returned x/\Fit f M x w'/\Below w.heap.size w w':=by
 have hrl:=hR.at_.lt
 have hfew:=hR.few;obtain⟨pm,nm,cm,hm1,hm2,_⟩:=hR.at_.ex
 have hFM:Fit f M (.agg #[.slice pm nm cm]) w:=Fit.of hm2 hR.lim;have hrc:=Me hm1;have hb1:=Af.made w (.slice none 0 0);have hbel:Below w.heap.size w (w.alloc (.cells #[.slice none 0 0] 36)):=By;have hne:r≠w.heap.size:=by omega
 clear hm1;go_enter Tryz.func83,Tryz.ntmps83
 go_wp2_with fail
 refine(Tb (hFM.below hbel) (by omega)).mono ?_;rintro en w1 ⟨x,rfl,hx,hb⟩;obtain⟨pc,nc,cc,rfl,y1,y2⟩:=hx;have hbn:=hb1.below hb hb1.lt;have c1:=hbn.cell;have f1:=hbn.free;have z1:=hbn.lt;go_wp2;exact bodyPost_ret (v:=.agg #[.slice pc nc cc]) (by simp[results,Tryz.results83,go_sem,c1]) rfl ⟨_,rfl,Fit.of (y1.store hbn _) y2,(Ae hbel hb).setCell (by simp) _⟩
def Gf (x:Nat)(v:Value)(w:World):Prop:=∃p n c,v=.tuple #[.agg #[.slice p n c],.bool true]/\Aj w p n c x
theorem Gf.keep {x B:Nat}{v:Value}{w w':World}(h:Gf x v w)(k:Ao B w w'):Gf x v w' :=
 let ⟨p,n,c,h1,h2⟩:=h
 ⟨p,n,c,h1,k.nat _ _ _ _ h2⟩
theorem Up {w:World}{v u:Value}{e f N K:Nat}(h:Fit e N v w)(k:Fit f K u w)(hle:K<=N)(he:e<=800000)(hf:f<=800000) :
  Calls Tryz.prog 130 #[v,u] w fun en w'=>∃z,en=.returned z/\Gf (N-K) z w'/\Below w.heap.size w w':=by
 refine(Vw h k (by omega) (by omega)).mono ?_;rintro en w' ⟨x,rfl,⟨p,n,c,rfl,h1,_⟩,hb⟩;rw[decide_eq_true hle];exact⟨_,rfl,⟨p,n,c,rfl,h1⟩,hb⟩
theorem Qm {w:World}{r M f e K:Nat}{v:Value}(hR:Ring w r M f)(h:Fit e K v w)(hle:K<=M)(he:e<=300000) :
  Calls Tryz.prog 129 #[.pointer (some ⟨r,0,none⟩),v] w fun en w'=>∃x,en=.returned x/\Fit f (M-K) x w'/\Below w.heap.size w w':=by
 have hrl:=hR.at_.lt
 have hfew:=hR.few;obtain⟨pm,nm,cm,hm1,hm2,_⟩:=hR.at_.ex
 obtain⟨pa,na,ca,rfl,h1,h2⟩:=Aw h;have hFM:Fit f M (.agg #[.slice pm nm cm]) w:=Fit.of hm2 hR.lim;have hlim:Hid (M-K<Ap f):=Ah (by have:=hR.lim;omega);have HR:=Ah hm1;have HLE:=Ah hle;have hbx:=eF.mk2 w (.slice pa na ca) (.slice none 0 0);obtain⟨B0,hB0⟩:∃B0,w.heap.size+2=B0:=⟨_,rfl⟩
 have HB0:=Ah hB0;have hB0':w.heap.size+2<=B0:=Nat.le_of_eq hB0;clear hB0 hm1 hle;go_enter Tryz.func129,Tryz.ntmps129;go_wp2;refine Ak (by kernel_rfl) (by kernel_rfl)
  [some (.pointer (some ⟨r,0,none⟩)),some (.pointer (some ⟨r,0,none⟩)),some (.pointer (some ⟨r,0,none⟩)),some (.agg #[.slice pm nm cm]),some (.agg #[.slice pa na ca]),none,none,none,some (.bool true),none,none,some (.bool true)]
  [false,false,false,false,false,true,true,true,false,true,true,false] rfl
  (fun w1 w2=>Ao B0 w1 w2)
  (fun D sp w'=>eF w w' (.slice pa na ca) (.slice none 0 0)/\Hm B0 (M-K) 0 (D 9) false (D 10) false (sp 9) undef w')
  (fun i v w'=>match i with
   | 5|6=>Gf (M-K) v w'
   | 7=>Db (M-K) v w'
   | _=>True)
  ?_ ⟨hbx.later ((Bd _ _).drew),Hm.start (by simpa using Nat.le_of_eq HB0.out.symm)⟩ ?_ ?_
 .intro i v w1 w2 hf hb;split at hf
  .exact Gf.keep hf hb
  .exact Gf.keep hf hb
  .exact Db.keep hf hb
  .trivial
 .simp only[Az,Nat.reduceAdd];refine⟨?_,?_,?_,?_,?_,?_,?_,?_,?_,?_,?_,?_,trivial⟩
  case refine_6=>
   intro D sp w' hD hW hdp ⟨hbx',hg⟩
   (with_reducible refine Ab (w1:=w') (f := 130) (args:=#[.agg #[.slice pm nm cm],.agg #[.slice pa na ca]]) ?_ ?_ ?_)
   .simp only[Region.wanted]
   .simp[Act.eval,Act.put,go_sem]
   .refine(Up (hFM.below hbx'.bel) (h.below hbx'.bel) HLE.out (by omega) (by omega)).mono ?_;rintro e w5 ⟨u,rfl,hu,hb⟩;exact⟨u,rfl,Ao.of hb hg.size,hu,hbx'.later hb,by simpa [upd]using hg.later hb⟩
  case refine_7=>
   intro D sp w' hD hW hdp ⟨hbx',hg⟩;have k4:Gf (M-K) (sp 5) w':=(hdp 5 (mq (by kernel_rfl))).2
   (with_reducible refine Ag (w1:=w') (v:=sp 5) ?_ ?_ ?_)
   .simp only[Region.wanted]
   .simp[execOp,Act.eval,Act.put,go_sem]
   .exact⟨Ao.same _ _,k4,hbx',by simpa [upd]using hg⟩
  case refine_8=>
   intro D sp w' hD hW hdp ⟨hbx',hg⟩;have hx:∃p n c,sp 6=.tuple #[.agg #[.slice p n c],.bool true]/\Aj w' p n c (M-K):=(hdp 6 (mq (by kernel_rfl))).2
   (with_reducible refine Aq hx fun p hx1=>Aq hx1 fun n hx2=>Aq hx2 fun c hx3=>?_)
   have h1:=hx3.1
   (with_reducible refine Ag (w1:=w') (v:=.agg #[.slice p n c]) ?_ ?_ ?_)
   .simp only[Region.wanted]
   .simp[execOp,Act.eval,Act.put,go_sem,h1]
   .exact⟨Ao.same _ _,⟨p,n,c,rfl,hx3.2⟩,hbx',by simpa [upd]using hg⟩
  case refine_9=>
   intro D sp w' hD hW hdp ⟨hbx',hg⟩;have hx:∃p n c,sp 6=.tuple #[.agg #[.slice p n c],.bool true]/\Aj w' p n c (M-K):=(hdp 6 (mq (by kernel_rfl))).2
   (with_reducible refine Aq hx fun p hx1=>Aq hx1 fun n hx2=>Aq hx2 fun c hx3=>?_)
   have h1:=hx3.1;simp[asked,Region.wanted,Oper.gives,execOp,Act.eval,Act.put,go_sem,h1]
  case refine_10=>
   intro D sp w' hD hW hdp ⟨hbx',hg⟩;have h9:D 10=false:=hW 10 (mq (by kernel_rfl));rw[hD,h9]at hg
   (with_reducible refine Ag (w1:=w'.alloc (.cells #[.slice none 0 0] 36)) (v:=.pointer (some ⟨w'.heap.size,0,none⟩)) ?_ ?_ ?_)
   .simp only[Region.wanted]
   .simp[execOp,go_sem]
   .have hb:Below w'.heap.size w' (w'.alloc (.cells #[.slice none 0 0] 36)):=By;refine⟨Ao.of hb hg.size,trivial,hbx'.later hb,?_⟩;have h8:=hg.alloc1;simpa [upd,h9]using h8
  case refine_11=>
   intro D sp w' hD hW hdp ⟨hbx',hg⟩;have hx:∃p n c,sp 7=.agg #[.slice p n c]/\Aj w' p n c (M-K):=(hdp 7 (mq (by kernel_rfl))).2;have h9:=(hdp 9 (mq (by kernel_rfl))).1;rw[h9]at hg
   (with_reducible refine Aq hx fun p hx1=>Aq hx1 fun n hx2=>Aq hx2 fun c hx3=>Aq (hg.store1 hx3.2) fun b hy1=>Aq hy1 fun q hy2=>Aq hy2 fun m hy3=>Aq hy3 fun d hy4=>?_)
   have h1:=hx3.1;have h3:=hy4.1;have h4:=hy4.2.1;have h5:=hy4.2.2.1;have h6:=h5.cell;have h7:=h5.free
   (with_reducible refine An (w1:=w'.setCell ⟨b,0,none⟩ (.slice p n c)) ?_ ?_ ?_)
   .simp only[Region.wanted]
   .simp[execOp,Act.eval,Act.put,go_sem,h1,h3,h6,h7]
   .refine⟨Ao.store h5 h4 _,trivial,⟨hbx'.b0.other (by omega) _,hbx'.b1.other (by omega) _,hbx'.bel.setCell (by have:=h4;simp;omega) _⟩,?_⟩;have h8:=hy4.2.2.2;simpa [upd,h9]using h8
  all_goals
   intro D sp w' hD hW hdp ⟨hbx',hg⟩;have c0:=hbx'.b0.cell;have c1:w'.cell? ⟨r,0,none⟩=some (.slice pm nm cm):=by rw[(Bz hbx'.bel).1 _ _ hrl];exact Me HR.out
   simp[asked,Region.wanted,Oper.gives,execOp,Act.eval,Act.put,go_sem,c0,c1]
 .intro sp w7 hsp ⟨hbx2,hg⟩;obtain⟨b2,e2,hb2,pr,nr,cr,n2,hR1⟩:=hg.one rfl;replace hR1:=hR1 rfl;have n2c:=n2.cell;have hne:b2≠w.heap.size+1:=by omega
  clear hsp hg;simp only[Am,Nat.reduceAdd];rw[e2];clear e2;generalize sp 5=u5,sp 6=u6,sp 7=u7,sp 10=u10 at *
  go_simp
  have d1:=hbx2.b1.cell;have f1:=hbx2.b1.free;go_wp2;exact bodyPost_ret (v:=.agg #[.slice pr nr cr]) (by simp[results,Tryz.results129,go_sem,d1]) rfl ⟨_,rfl,Fit.of (hR1.store hbx2.b1 _) hlim.out,hbx2.bel.setCell (by simp) _⟩
def Cc (w:World)(b N:Nat):Prop:=∃p n c,Af w b (.slice p n c)/\Aj w p n c N
theorem Cc.below {w w':World}{b N:Nat}(h:Cc w b N)(hb:Below w.heap.size w w'):Cc w' b N :=
 let ⟨p,n,c,h1,h2⟩:=h
 ⟨p,n,c,h1.below hb h1.lt,h2.below hb⟩
theorem Cc.other {w:World}{b b' N:Nat}{q:Option Addr}{m d:Nat}(h:Cc w b N)(hb:Af w b' (.slice q m d))(hne:b≠b')(v:Value):Cc (w.setCell ⟨b',0,none⟩ v) b N :=
 let ⟨p,n,c,h1,h2⟩:=h
 ⟨p,n,c,h1.other hne v,h2.store hb v⟩
theorem Ef {e N:Nat}{p:Option Addr}{n c:Nat}{w:World}(h:Fit e N (.agg #[.slice p n c]) w):Aj w p n c N:=by
 obtain⟨q,m,d,he,h1,_⟩:=h;cases he;exact h1
def Fw (N K M:Nat):Nat:=if K%M<=N%M then N%M-K%M else M-K%M+N%M
theorem Vx {N K M:Nat}(hM:2<=M):Fw N K M<M:=by
 have h1:=Nat.mod_lt N (show 0<M by omega);have h2:=Nat.mod_lt K (show 0<M by omega);unfold Fw;split<;>omega
theorem nI {N K M:Nat}(hM:2<=M):Fw N K M=(N%M+M-K%M)%M:=by
 have h1:=Nat.mod_lt N (show 0<M by omega);have h2:=Nat.mod_lt K (show 0<M by omega);unfold Fw;generalize N%M=a at *;generalize K%M=b at *;split
 .rw[show a+M-b=(a-b)+M by omega,Nat.add_mod_right,Nat.mod_eq_of_lt (by omega)]
 .rw[Nat.mod_eq_of_lt (by omega)];omega
structure Iz (w wr:World) (d6 d7:Bool) (ua ub:Value) (x y:Nat):Prop where
 a0:d6=false->Af wr w.heap.size ua
 a1:d6=true->Cc wr w.heap.size x
 c0:d7=false->Af wr (w.heap.size+1) ub
 c1:d7=true->Cc wr (w.heap.size+1) y
 b2:Af wr (w.heap.size+1+1) (.slice none 0 0)
 bel:Below w.heap.size w wr
theorem Iz.later {w wr w1:World}{d6 d7:Bool}{ua ub:Value}{x y:Nat}(h:Iz w wr d6 d7 ua ub x y)(hb:Below wr.heap.size wr w1):Iz w w1 d6 d7 ua ub x y :=
 ⟨fun a=>(h.a0 a).below hb (h.a0 a).lt,fun a=>(h.a1 a).below hb,fun a=>(h.c0 a).below hb (h.c0 a).lt,fun a=>(h.c1 a).below hb,h.b2.below hb h.b2.lt,Ae h.bel hb⟩
theorem Iz.store6 {w wr:World}{d7:Bool}{qa:Option Addr}{ma da:Nat}{ub:Value}{x y:Nat}{p:Option Addr}{n c:Nat}(h:Iz w wr false d7 (.slice qa ma da) ub x y)(hx:Aj wr p n c x) :
  Iz w (wr.setCell ⟨w.heap.size,0,none⟩ (.slice p n c)) true d7 (.slice qa ma da) ub x y :=
 let hb:=h.a0 rfl
 ⟨(fun a=>by cases a),fun _=>⟨p,n,c,hb.set _,hx.store hb _⟩,fun a=>(h.c0 a).other (by omega) _,fun a=>(h.c1 a).other hb (by omega) _,h.b2.other (by omega) _,h.bel.setCell (As _) _⟩
theorem Iz.store7 {w wr:World}{d6:Bool}{qb:Option Addr}{mb db:Nat}{ua:Value}{x y:Nat}{p:Option Addr}{n c:Nat}(h:Iz w wr d6 false ua (.slice qb mb db) x y)(hy:Aj wr p n c y) :
  Iz w (wr.setCell ⟨w.heap.size+1,0,none⟩ (.slice p n c)) d6 true ua (.slice qb mb db) x y :=
 let hb:=h.c0 rfl
 ⟨fun a=>(h.a0 a).other (by omega) _,fun a=>(h.a1 a).other hb (by omega) _,(fun a=>by cases a),fun _=>⟨p,n,c,hb.set _,hy.store hb _⟩,h.b2.other (by omega) _,h.bel.setCell (by simp) _⟩
theorem Ht {w:World}{r M f e1 e2 N K:Nat}{v u:Value}(hR:Ring w r M f)(h:Fit e1 N v w)(k:Fit e2 K u w)(he1:e1<=300000)(he2:e2<=300000) :
  Calls Tryz.prog 58 #[.pointer (some ⟨r,0,none⟩),v,u] w fun en w'=>∃x,en=.returned x/\Fit f (Fw N K M) x w'/\Below w.heap.size w w':=by
 obtain⟨pa,na,ca,rfl,h1,h2⟩:=Aw h;obtain⟨pb,nb,cb,rfl,k1,k2⟩:=Aw k;have hfew:=hR.few;have hlim:Hid (Fw N K M<Ap f):=Ah (Nat.lt_trans (Vx hR.two) hR.lim);have hKM:Hid (K%M<M):=Ah (Nat.mod_lt _ (by have:=hR.two;omega));have hbx:=Vr.mk3 w (.slice pa na ca) (.slice pb nb cb) (.slice none 0 0);go_enter Tryz.func58,Tryz.ntmps58;go_wp2;refine Ak (by kernel_rfl) (by kernel_rfl)
  [some (.pointer (some ⟨r,0,none⟩)),some (.agg #[.slice pa na ca]),none,some (.pointer (some ⟨r,0,none⟩)),some (.agg #[.slice pb nb cb]),none,none,none]
  [false,false,true,false,false,true,true,true] rfl
  (fun w1 w2=>Ao w.heap.size w1 w2)
  (fun D _ w'=>Iz w w' (D 6) (D 7) (.slice pa na ca) (.slice pb nb cb) (N%M) (K%M))
  (fun i v w'=>match i with
   | 2=>Db (N%M) v w'
   | 5=>Db (K%M) v w'
   | _=>True)
  ?_ ⟨fun _=>hbx.b0,(fun a=>by cases a),fun _=>hbx.b1,(fun a=>by cases a),hbx.b2,hbx.bel.trans (Bd _ _).drew⟩ ?_ ?_
 .intro i v w1 w2 hf hb;split at hf
  .exact Db.keep hf hb
  .exact Db.keep hf hb
  .trivial
 .simp only[Az,Nat.reduceAdd];refine⟨?_,?_,?_,?_,?_,?_,?_,?_,trivial⟩
  case refine_2=>
   intro D sp w' hD hW hdp hg;have h6:D 6=false:=hW 6 (mq (by kernel_rfl));have c0:=(hg.a0 h6).cell;simp[asked,Region.wanted,Oper.gives,execOp,Act.eval,Act.put,go_sem,c0]
  case refine_5=>
   intro D sp w' hD hW hdp hg;have h6:D 7=false:=hW 7 (mq (by kernel_rfl));have c0:=(hg.c0 h6).cell;simp[asked,Region.wanted,Oper.gives,execOp,Act.eval,Act.put,go_sem,c0]
  case refine_3=>
   intro D sp w' hD hW hdp hg
   (with_reducible refine Ab (w1:=w') (f := 32) (args:=#[.pointer (some ⟨r,0,none⟩),.agg #[.slice pa na ca]]) ?_ ?_ ?_)
   .simp only[Region.wanted]
   .simp[Act.eval,Act.put,go_sem]
   .refine(Dc (hR.below hg.bel) (h.below hg.bel) (by omega)).mono ?_;rintro e w5 ⟨u,rfl,⟨p,n,c,hu,hu1,_⟩,hb⟩;exact⟨u,rfl,Ao.of hb hg.bel.size,⟨p,n,c,hu,hu1⟩,by simpa using hg.later hb⟩
  case refine_6=>
   intro D sp w' hD hW hdp hg
   (with_reducible refine Ab (w1:=w') (f := 32) (args:=#[.pointer (some ⟨r,0,none⟩),.agg #[.slice pb nb cb]]) ?_ ?_ ?_)
   .simp only[Region.wanted]
   .simp[Act.eval,Act.put,go_sem]
   .refine(Dc (hR.below hg.bel) (k.below hg.bel) (by omega)).mono ?_;rintro e w5 ⟨u,rfl,⟨p,n,c,hu,hu1,_⟩,hb⟩;exact⟨u,rfl,Ao.of hb hg.bel.size,⟨p,n,c,hu,hu1⟩,by simpa using hg.later hb⟩
  case refine_7=>
   intro D sp w' hD hW hdp hg;have hx:∃p n c,sp 2=.agg #[.slice p n c]/\Aj w' p n c (N%M):=(hdp 2 (mq (by kernel_rfl))).2;rw[hD]at hg
   (with_reducible refine Aq hx fun p hx1=>Aq hx1 fun n hx2=>Aq hx2 fun c hx3=>?_)
   have g1:=hx3.1;have hbx0:=hg.a0 rfl;have g2:=hbx0.cell;have g3:=hbx0.free
   (with_reducible refine An (w1:=w'.setCell ⟨w.heap.size,0,none⟩ (.slice p n c)) ?_ ?_ ?_)
   .simp only[Region.wanted]
   .simp[execOp,Act.eval,Act.put,go_sem,g1,g2,g3]
   .exact⟨Ao.store hbx0 (As _) _,trivial,by simpa using hg.store6 hx3.2⟩
  case refine_8=>
   intro D sp w' hD hW hdp hg;have hx:∃p n c,sp 5=.agg #[.slice p n c]/\Aj w' p n c (K%M):=(hdp 5 (mq (by kernel_rfl))).2;rw[hD]at hg
   (with_reducible refine Aq hx fun p hx1=>Aq hx1 fun n hx2=>Aq hx2 fun c hx3=>?_)
   have g1:=hx3.1;have hbx0:=hg.c0 rfl;have g2:=hbx0.cell;have g3:=hbx0.free
   (with_reducible refine An (w1:=w'.setCell ⟨w.heap.size+1,0,none⟩ (.slice p n c)) ?_ ?_ ?_)
   .simp only[Region.wanted]
   .simp[execOp,Act.eval,Act.put,go_sem,g1,g2,g3]
   .exact⟨Ao.store hbx0 (by simp) _,trivial,by simpa using hg.store7 hx3.2⟩
  all_goals
   intro D sp w' hD hW hdp hg;simp[asked,Region.wanted,Oper.gives,execOp,Act.eval,Act.put,go_sem]
 .intro sp w7 hsp hg;obtain⟨p1,n1,c1,x1,x2⟩:=hg.a1 rfl;obtain⟨p2,n2,c2,y1,y2⟩:=hg.c1 rfl;have hb2:=hg.b2;have hbel:=hg.bel;clear hsp hg;simp only[Am,Nat.reduceAdd];generalize sp 2=u2,sp 5=u5,sp 6=u6,sp 7=u7 at *
  go_simp
  have hMf:=hR.lim;have hF1:Fit f (N%M) (.agg #[.slice p1 n1 c1]) w7:=Fit.of x2 (Nat.lt_trans (Nat.mod_lt _ (by have:=hR.two;omega)) hMf);have hF2:Fit f (K%M) (.agg #[.slice p2 n2 c2]) w7:=Fit.of y2 (Nat.lt_trans (Nat.mod_lt _ (by have:=hR.two;omega)) hMf);have a0:=x1.cell;have a1:=y1.cell;clear x2 y2 hMf
  go_wp2_with fail
  refine(Vw hF1 hF2 (by omega) (by omega)).mono ?_;rintro en w8 ⟨z,rfl,hZ,hb⟩;obtain⟨p3,n3,c3,rfl,z1,z2⟩:=hZ;have hZF:Fit f (N%M-K%M) (.agg #[.slice p3 n3 c3]) w8:=⟨_,_,_,rfl,z1,z2⟩
  replace hbel:=Ae hbel hb;have hRb:=hR.below hbel;have nb3:=Af.made w8 (.slice p3 n3 c3);have hb3:Below w8.heap.size w8 (w8.alloc (.cells #[.slice p3 n3 c3] 36)):=By;replace x1:=(x1.below hb x1.lt).below hb3 (De x1.lt hb.size);replace y1:=(y1.below hb y1.lt).below hb3 (De y1.lt hb.size);have hb8:=hb2.below hb hb2.lt;replace hb2:=hb8.below hb3 hb8.lt;have hs8:=hb8.lt;clear a0 a1
  by_cases hle:K%M<=N%M
  .rw[decide_eq_true hle];have hv:Hid (Fw N K M=N%M-K%M):=Ah (by unfold Fw;rw[if_pos hle]);have d0:=nb3.cell;have d1:=hb2.cell;have d2:=hb2.free;clear hle;go_wp2;have hb9:=(hb8.set (.slice p3 n3 c3)).below ((Bd _ _).alloc (As _) (.cells #[.slice p3 n3 c3] 36)) (by simpa using hb8.lt);have d3:=hb9.cell;refine bodyPost_ret (v:=.agg #[.slice p3 n3 c3]) (by simp[results,Tryz.results58,go_sem,d3]) rfl ⟨_,rfl,Fit.of ?_ hlim.out,(hbel.setCell (by simp;omega) _).alloc (by simpa using hbel.size) _⟩;rw[hv.out];exact(z1.store hb8 _).below ((Bd _ _).alloc (As _) _)
  .rw[decide_eq_false hle];have hv:Hid (Fw N K M=M-K%M+N%M):=Ah (by unfold Fw;rw[if_neg hle]);clear hle;obtain⟨w9,hw9⟩:∃w9,w8.alloc (.cells #[.slice p3 n3 c3] 36)=w9:=⟨_,rfl⟩
   rw[hw9]at hb3 x1 y1 hb2
   have hn1:=((Ef hF1).below hb).below hb3;have hn2:=((Ef hF2).below hb).below hb3;have hbel9:=Ae hbel hb3;have hM2:=hR.two;have hMl:=Ah hR.lim;go_wp2
   try rw[hw9]
   clear hw9 nb3 hRb hbel hb hb8;refine Ai (by kernel_rfl) (by kernel_rfl)
    [some (.pointer (some ⟨r,0,none⟩)),some (.agg #[.slice p2 n2 c2]),none,some (.agg #[.slice p1 n1 c1]),none,none]
    [false,false,true,false,true,true] rfl
    (fun w1 w2=>Ao w.heap.size w1 w2)
    (fun D w'=>(Af w' w.heap.size (.slice p1 n1 c1)/\Af w' (w.heap.size+1) (.slice p2 n2 c2)/\Aj w' p1 n1 c1 (N%M)/\Aj w' p2 n2 c2 (K%M)/\Below w.heap.size w w')/\(D 5=false->Af w' (w.heap.size+1+1) (.slice none 0 0))/\(D 5=true->Cc w' (w.heap.size+1+1) (M-K%M+N%M)))
    (fun i v w'=>match i with
     | 2=>Fit f (M-K%M) v w'
     | 4=>Db (M-K%M+N%M) v w'
     | _=>True)
    ?_ ⟨⟨x1,y1,hn1.below (Bd _ _).drew,hn2.below (Bd _ _).drew,hbel9.trans (Bd _ _).drew⟩,fun _=>hb2,(fun a=>by cases a)⟩ ?_ ?_
   .intro i v w1 w2 hf hb;split at hf
    .exact Fit.keep hf hb
    .exact Db.keep hf hb
    .trivial
   .simp only[Ba,Nat.reduceAdd];refine⟨?_,?_,?_,?_,?_,?_,trivial⟩
    case refine_3=>
     intro D sp w' hD hW hdp hg
     (with_reducible refine Ab (w1:=w') (f := 129) (args:=#[.pointer (some ⟨r,0,none⟩),.agg #[.slice p2 n2 c2]]) ?_ ?_ ?_)
     .simp only[Region.wanted]
     .simp[Act.eval,Act.put,go_sem]
     .refine(Qm (hR.below hg.1.2.2.2.2) (Fit.of (e:=f) hg.1.2.2.2.1 (Nat.lt_trans hKM.out hMl.out)) (Nat.le_of_lt hKM.out) (by omega)).mono ?_;rintro e w5 ⟨u,rfl,hu,hb⟩;exact⟨u,rfl,Ao.of hb hg.1.2.2.2.2.size,hu,⟨hg.1.1.below hb hg.1.1.lt,hg.1.2.1.below hb hg.1.2.1.lt,hg.1.2.2.1.below hb,hg.1.2.2.2.1.below hb,Ae hg.1.2.2.2.2 hb⟩,by simpa using fun a=>(hg.2.1 a).below hb (hg.2.1 a).lt,by simpa using fun a=>(hg.2.2 a).below hb⟩
    case refine_5=>
     intro D sp w' hD hW hdp hg;have k2:Fit f (M-K%M) (sp 2) w':=(hdp 2 (mq (by kernel_rfl))).2
     (with_reducible refine Ab (w1:=w') (f := 121) (args:=#[sp 2,.agg #[.slice p1 n1 c1]]) ?_ ?_ ?_)
     .simp only[Region.wanted]
     .simp[Act.eval,Act.put,go_sem]
     .refine(Kj k2 (Fit.of (e:=f) hg.1.2.2.1 (Nat.lt_trans (Nat.mod_lt _ (by omega)) hMl.out)) (by omega) (by omega)).mono ?_;rintro e w5 ⟨u,rfl,⟨p,n,c,hu,hu1,_⟩,hb⟩;exact⟨u,rfl,Ao.of hb hg.1.2.2.2.2.size,⟨p,n,c,hu,hu1⟩,⟨hg.1.1.below hb hg.1.1.lt,hg.1.2.1.below hb hg.1.2.1.lt,hg.1.2.2.1.below hb,hg.1.2.2.2.1.below hb,Ae hg.1.2.2.2.2 hb⟩,by simpa using fun a=>(hg.2.1 a).below hb (hg.2.1 a).lt,by simpa using fun a=>(hg.2.2 a).below hb⟩
    case refine_6=>
     intro D sp w' hD hW hdp hg;have hx:∃p n c,sp 4=.agg #[.slice p n c]/\Aj w' p n c (M-K%M+N%M):=(hdp 4 (mq (by kernel_rfl))).2
     (with_reducible refine Aq hx fun p hx1=>Aq hx1 fun n hx2=>Aq hx2 fun c hx3=>?_)
     have g1:=hx3.1;have hbx0:=hg.2.1 hD;have g2:=hbx0.cell;have g3:=hbx0.free;have o1:=hg.1.1.other (b':=w.heap.size+1+1) (by omega) (.slice p n c);have o2:=hg.1.2.1.other (b':=w.heap.size+1+1) (by omega) (.slice p n c)
     (with_reducible refine An (w1:=w'.setCell ⟨w.heap.size+1+1,0,none⟩ (.slice p n c)) ?_ ?_ ?_)
     .simp only[Region.wanted]
     .simp[execOp,Act.eval,Act.put,go_sem,g1,g2,g3]
     .exact⟨Ao.store hbx0 (by omega) _,trivial,⟨o1,o2,hg.1.2.2.1.store hbx0 _,hg.1.2.2.2.1.store hbx0 _,hg.1.2.2.2.2.setCell (by simp;omega) _⟩,(fun a=>by simp at a),fun _=>⟨p,n,c,hbx0.set _,hx3.2.store hbx0 _⟩⟩
    all_goals
     intro D sp w' hD hW hdp hg;have c0:=hg.1.1.cell;have c1:=hg.1.2.1.cell;simp[asked,Region.wanted,Oper.gives,execOp,Act.eval,Act.put,go_sem,c0,c1]
   .intro sp w10 hsp hg;obtain⟨p4,n4,c4,q1,q2⟩:=hg.2.2 rfl;have hbel10:=hg.1.2.2.2.2;have d3:=q1.cell;clear hsp hg;simp only[Am,Nat.reduceAdd];generalize sp 2=u2' at *;generalize sp 4=u4' at *;generalize sp 5=u5' at *
    go_simp
    go_wp2;refine bodyPost_ret (v:=.agg #[.slice p4 n4 c4]) (by simp[results,Tryz.results58,go_sem,d3]) rfl ⟨_,rfl,Fit.of ?_ hlim.out,hbel10⟩;rw[hv.out];exact q2
theorem Vt (w:World) :
  Calls Tryz.prog 21 #[.int .u64 2] w fun en w'=>∃x,en=.returned x/\Fit 1 2 x w'/\Below w.heap.size w w':=by
 refine(Cz 2 w (by decide)).mono ?_;rintro en w' ⟨p,n,c,rfl,hn,hb,_⟩;exact⟨_,rfl,Fit.of hn (by decide),hb⟩
def iR (N e:Nat)(w:World)(en:Ending)(w':World):Prop :=
 Below w.heap.size w w'/\((N<2/\en=.returned (.tuple #[.pointer none,.int .i64 1])) ∨ (2<=N/\∃r,en=.returned (.tuple #[.pointer (some ⟨r,0,none⟩),.int .i64 0])/\Ring w' r N e/\w.heap.size<=r))
theorem Hu {w:World}{e N:Nat}{v:Value}(h:Fit e N v w)(he:e<=10000) :
  Calls Tryz.prog 86 #[v] w (iR N e w):=by
 obtain⟨pa,na,ca,rfl,h1,h2⟩:=Aw h;have hbx:=Dg.mk1 w (.slice pa na ca) 36;obtain⟨K,hK⟩:∃K,Bm N 2=K:=⟨_,rfl⟩
 obtain⟨E,hE⟩:∃E,decide (K<0)=E:=⟨_,rfl⟩
 have HK:=Ah hK;have HE:=Ah hE;have H2:=Ah h2;clear hK hE h2;go_enter Tryz.func86,Tryz.ntmps86;go_wp2;have hE:=HE.out;refine Ai (by kernel_rfl) (by kernel_rfl)
  [some (.agg #[.slice pa na ca]),none,none,some (.bool E)]
  [false,true,true,false] rfl
  (fun w1 w2=>Below w1.heap.size w1 w2)
  (fun _ w'=>Dg w w' (.slice pa na ca))
  (fun i v w'=>match i with
   | 1=>Fit 1 2 v w'
   | 2=>v=.int .i64 K
   | _=>True)
  ?_ (hbx.below (Bd _ _).drew (As _)) ?_ ?_
 .intro i v w1 w2 hf hb;split at hf
  .exact hf.below hb
  .exact hf
  .trivial
 .simp only[Ba,Nat.reduceAdd];refine⟨?_,?_,?_,?_,trivial⟩
  case refine_2=>
   intro D sp w' hD hW hdp hbx'
   (with_reducible refine Ab (w1:=w') (f := 21) (args:=#[.int .u64 2]) ?_ ?_ ?_)
   .simp only[Region.wanted]
   .simp[Act.eval,Act.put,go_sem]
   .refine(Vt w').mono ?_;rintro e w5 ⟨u,rfl,hu,hb⟩;exact⟨u,rfl,hb,hu,hbx'.later hb⟩
  case refine_3=>
   intro D sp w' hD hW hdp hbx';have k1:Fit 1 2 (sp 1) w':=(hdp 1 (mq (by kernel_rfl))).2
   (with_reducible refine Ab (w1:=w') (f := 34) (args:=#[.agg #[.slice pa na ca],sp 1]) ?_ ?_ ?_)
   .simp only[Region.wanted]
   .simp[Act.eval,Act.put,go_sem]
   .refine(Be (h.below hbx'.bel) k1 (by omega) (by omega) HK.out).mono ?_;rintro e w5 ⟨u,rfl,hu,hb⟩;exact⟨u,rfl,hb,hu,hbx'.later hb⟩
  case refine_4=>
   intro D sp w' hD hW hdp hbx';have k2:sp 2=.int .i64 K:=(hdp 2 (mq (by kernel_rfl))).2;simp[asked,Region.wanted,Oper.gives,execOp,Act.eval,Act.put,go_sem,k2,hE]
  all_goals
   intro D sp w' hD hW hdp hbx';have c0:=hbx'.c0;simp[asked,Region.wanted,Oper.gives,execOp,Act.eval,go_sem,c0]
 .intro sp w2 hsp hbx';clear hsp hE;simp only[Am,Nat.reduceAdd];generalize sp 1=u1,sp 2=u2 at *
  go_simp
  by_cases h2:N<2
  .have hEt:E=true:=by rw[<-HE.out,<-HK.out,Dd h2];rfl
   have HN:=Ah h2;clear h2;subst hEt;go_wp2
   go_ret2
   exact⟨hbx'.bel,.inl ⟨HN.out,rfl⟩⟩
  .have hEf:E=false:=by
    rw[<-HE.out,<-HK.out,decide_eq_false_iff_not];unfold Bm;rw[if_neg h2];split<;>omega
   have HN:Hid (2<=N):=Ah (by omega);have c0:=hbx'.c0;clear h2;subst hEf
   go_wp2_with fail
   refine(Tb (h.below hbx'.bel) (by omega)).mono ?_;rintro en w3 ⟨x,rfl,hx,hb⟩;obtain⟨pc,nc,cc,rfl,x1,x2⟩:=hx;have hbel:=Ae hbx'.bel hb;have hl:=x1.len_le x2;go_wp2
   go_ret2
   refine⟨hbel.alloc hbel.size _,.inr ⟨HN.out,w3.heap.size,rfl,⟨⟨pc,nc,cc,heap_alloc_new w3 _,x1.below ((Bd _ _).alloc (As _) _),by omega⟩,HN.out,x2,he⟩,hbel.size⟩⟩
theorem oL {w:World}{v u:Value}{N M:Nat}(h:Bj N v w)(k:Bj M u w)(hN:Ax N<=900000)(hM:Ax M<=900000)(hM0:0<M) :
  Calls Tryz.prog 94 #[v,u] w fun en w'=>∃x,en=.returned x/\Bj (N%M) x w'/\Below w.heap.size w w':=by
 obtain⟨p,n,c,rfl,h⟩:=h;obtain⟨q,m,d,rfl,k⟩:=k;go_enter Tryz.func94,Tryz.ntmps94
 go_wp2_with fail
 refine(jJ (Bj.of h) (Bj.of k) hN hM hM0).mono ?_;rintro en w' ⟨p1,n1,c1,p2,n2,c2,rfl,g1,g2,hb⟩;go_wp2;go_ret;exact⟨_,rfl,Bj.of g2,hb⟩
end Go.Proofs.YtnbmfaihlefgfaaGreatDoor
