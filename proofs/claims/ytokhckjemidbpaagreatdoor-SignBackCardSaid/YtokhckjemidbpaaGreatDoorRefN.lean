/- The document's products and quotients. -/
import Derived.Test.YtokhckjemidbpaaGreatDoorNatX
set_option maxRecDepth 1000000
set_option maxHeartbeats 16000000
set_option linter.all false
namespace Go.Proofs.YtokhckjemidbpaaGreatDoor
open Go Go.RowKit Go.Proofs.YtokhckjemidbpaaGreatDoor.Flow
def Gz (w:World)(g:Nat)(xs:List Bool):Prop:=w.heap[g]? = some (.cells (xs.map Value.bool).toArray 4 (0,0))
theorem Gz.lt {w:World}{g:Nat}{xs:List Bool}(h:Gz w g xs):g<w.heap.size:=(Kv h).1
theorem Gz.cell {w:World}{g:Nat}{xs:List Bool}(h:Gz w g xs){i:Nat}{x:Bool}(hx:xs[i]? = some x):w.cell? ⟨g,i,none⟩=some (.bool x):=by
 unfold Gz at h;simp[World.cell?,h,hx]
theorem Gz.free {w:World}{g:Nat}{xs:List Bool}(h:Gz w g xs)(i:Nat):w.frozen? ⟨g,i,none⟩=false:=by
 unfold Gz at h;simp[World.frozen?,h]
theorem Gz.below {w w':World}{g:Nat}{xs:List Bool}(h:Gz w g xs){B:Nat}(hb:Below B w w')(hg:g<B):Gz w' g xs:=by
 unfold Gz at *;rw[hb.block g hg];exact h
theorem Gz.set {w:World}{g:Nat}{xs:List Bool}(h:Gz w g xs)(i:Nat)(x:Bool):Gz (w.setCell ⟨g,i,none⟩ (.bool x)) g (xs.set i x):=by
 unfold Gz at *;simp only[World.setCell,Array.getElem?_modify,if_true,h,Option.map_some];simp[List.map_set]
theorem Gz.row {w:World}{g:Nat}{xs:List Bool}(h:Gz w g xs){n c:Nat}(hn:n=xs.length)(hc:n<=c)(hm:c<=9223372036854775807):Gi w (some ⟨g,0,none⟩) n c xs :=
 ⟨hn,hc,hm,.inr ⟨g,0,rfl,h.lt,fun i x hx=>by rw[Nat.zero_add];exact h.cell hx⟩⟩
theorem Gz.owns {w:World}{g:Nat}{xs:List Bool}{n B:Nat}(h:Gz w g xs)(hn:xs.length=n)(hB:B<=g)(hm:n<=maxLen):w.ownsRow B 4 1 (.slice (some ⟨g,0,none⟩) n n) n (xs.map Value.bool) :=
 ⟨by simp[hn],.inr ⟨g,n,_,rfl,hB,h,As _,hm,by simp[hn],by simp only[Nat.mul_one];exact List.take_of_length_le (by simp[hn])⟩⟩
def Yb (n:Nat):Array Value:=((List.replicate n false).map Value.bool).toArray
theorem iI (n:Nat):madeCells #[Value.bool false] n=Yb n:=by
 unfold Yb;rw[List.map_replicate];have h:=toList_madeCells_one (Value.bool false) n;rw[<-Array.toArray_toList (xs:=madeCells #[Value.bool false] n),h]
theorem Gz.zeros (w:World)(n:Nat):Gz (w.alloc (.cells (Yb n) 4)) w.heap.size (List.replicate n false):=heap_alloc_new w _
theorem Vz (n:Nat)(h:n<=4294967296)(w:World):(Instr.makeSlice 28 (.int .i64 n) (.int .i64 n)).run Tryz.prog w =
  .ok (.slice (some ⟨w.heap.size,0,none⟩) n n) (w.alloc (.cells (Yb n) 4)):=by
 obtain⟨i,hi,hz,hs,hb⟩:=info_parts Tryz.info_bool;have:=run_make (P:=Tryz.prog) w 28 4 i (.bool false) Tryz.underlying28 hi hz .i64 .i64 n n (by omega) (Int.le_refl _) (by rw[hb];omega) (by omega);simp only[Int.toNat_natCast,hs,Nat.mul_one]at this;rw[this,<-iI];rfl
theorem Ee {a b:Nat}(h:a<=b):Ao a<=Ao b:=(Bg a _).2 (Nat.lt_of_le_of_lt h (Ec b))
theorem Rr (a b:Nat):Ao (a*b)<=Ao a+Ao b:=by
 refine(Bg _ _).2 ?_;rw[Nat.pow_add];exact Nat.mul_lt_mul'' (Ec a) (Ec b)
theorem Iq {N i:Nat}(h:0<N):Ao (N*2^i)=Ao N+i:=by
 have hp:0<2^i:=Nat.pow_pos (by omega);have e:=Jh (N*2^i) i (by rw[Nat.mul_div_cancel _ hp];exact h);rw[Nat.mul_div_cancel _ hp]at e
 omega
theorem dS {N i:Nat}(h:0<N):List.replicate i false++bitsOf N=bitsOf (N*2^i):=by
 apply List.ext_getElem?;intro j;rcases Nat.lt_or_ge j i with h1|h1
 .rw[List.getElem?_append_left (by simpa using h1),Dq (by rw[Iq h];omega)];rw[Fl,Nat.testBit_mul_two_pow,List.getElem?_replicate,if_pos h1,decide_eq_false (by omega),Bool.false_and]
 .rw[List.getElem?_append_right (by simpa using h1),List.length_replicate];rcases Nat.lt_or_ge j (Ao N+i) with h2|h2
  .rw[Dq (by omega),Dq (by rw[Iq h];omega),Fl,Fl,Nat.testBit_mul_two_pow];simp[h1]
  .rw[List.getElem?_eq_none (by rw[Bh];omega),List.getElem?_eq_none (by rw[Bh,Iq h];omega)]
theorem Qq (w:World)(g:Nat)(hb:g<w.heap.size):Bi w (some ⟨g,0,none⟩) 0 0 0 :=
 ⟨rfl,As _,by omega,.inr ⟨g,0,rfl,hb,fun i x hx=>by cases hx⟩⟩
theorem Zb (w:World)(p:Option Addr)(n c N i:Nat)(h:Bi w p n c N)(hn:n<=1000000)(hi:i<=1000000) :
  Calls Tryz.prog 194 #[.slice p n c,.int .i64 i] w (Iv (N*2^i) w):=by
 have hl:n=Ao N:=by have:=h.len;rwa [Bh]at this
 have HN:=Ag hl;clear hl
 by_cases h0:n=0
 .subst h0;have hz:N=0:=by
   rcases Nat.eq_zero_or_pos N with h1|h1
   .exact h1
   .have:=Ia h1;have:=HN.out;omega
  have HZ:Hid (N*2^i=0):=Ag (by rw[hz,Nat.zero_mul]);clear hz;go_enter Tryz.func194,Tryz.ntmps194;go_wp2;go_ret;refine⟨some ⟨w.heap.size,0,none⟩,0,0,rfl,?_,(Bb _ _).alloc (As _) _,fun q hq=>by cases hq;exact As _⟩;rw[HZ.out];exact Qq _ _ (by simp)
 .obtain⟨b,off,rfl,hb,hc⟩:=h.pos (by omega);have hN:0<N:=by
   rcases Nat.eq_zero_or_pos N with h1|h1
   .have:=HN.out;rw[h1,Wk]at this;omega
   .exact h1
  have HS:=Ag (dS (i:=i) hN);have hn0:((n:Int)==0)=false:=by rw[beq_eq_false_iff_ne];omega
  obtain⟨i0,hi',hz0,hz1,hz2⟩:=info_parts Tryz.info_bool;have hmk:=Vz i (by omega);have HC:=Ag hc;have hown:=(Gz.zeros w i).owns (n:=i) (B:=w.heap.size) (by simp) (As _) (by unfold maxLen;omega);clear hc hN h0;go_enter Tryz.func194,Tryz.ntmps194
  go_wp2_with (at_builtin;refine wpList_append_own _ rfl _ _ 28 rfl w.heap.size 4 i0 (.bool false) 1 1 Tryz.underlying28 hi' hz0 hz1 hz2 rfl (by decide) _ _ _ rfl hown ⟨b,off,none⟩ n c ((bitsOf N).map Value.bool) rfl ?c1 ?c2 ?c3 ?c4 ?c5 ?c6 ?_)
  case c1=>simp[Bh];exact HN.out.symm
  case c2=>
   intro j u hu;rw[List.getElem?_map]at hu
   cases hx:(bitsOf N)[j]? with
   | none=>rw[hx]at hu;cases hu
   | some x=>
    rw[hx]at hu;cases hu
    have e:(⟨b,off,none⟩:Addr).add j=⟨b,off+j,none⟩:=by unfold Addr.add;split<;>simp_all
    rw[e,World.cell?_alloc_past (hn:=hb)];exact HC.out j x hx
  case c3=>intro u hu;simp only[List.mem_map]at hu;obtain⟨x,_,rfl⟩:=hu;rfl
  case c4=>unfold maxLen;omega
  case c5=>omega
  case c6=>simp
  intro v1 w1 ho1 hg1 _;replace ho1:w1.ownsRow w.heap.size 4 1 v1 (i+n) ((bitsOf (N*2^i)).map Value.bool):=by
   rw[<-HS.out,List.map_append];simpa using ho1
  obtain⟨q,d,rfl,hrow,hnew⟩:=Gi.of_owns ho1;have hb1:Below w.heap.size w w1:=((Bb _ w).alloc (As _) _).grown hg1 (by simp) (fun k e=>by simp[Value.ownBlock]at e;omega);go_wp2;go_ret;exact⟨q,_,d,rfl,hrow,hb1,hnew⟩
theorem Xn {N M k:Nat}(h:bit M k=true):N*(M%2^(k+1))=N*(M%2^k)+N*2^k:=by
 rw[Nk,h,if_pos rfl,Nat.mul_add]
theorem To {N M k:Nat}(h:bit M k=false):N*(M%2^(k+1))=N*(M%2^k):=by
 rw[Nk,h];simp
theorem cC (w:World)(p:Option Addr)(n c N:Nat)(q:Option Addr)(m d M:Nat)(hA:Bi w p n c N)(hB:Bi w q m d M)(hn:n<=100000)(hm:m<=100000) :
  Calls Tryz.prog 140 #[.slice p n c,.slice q m d] w (Iv (N*M) w):=by
 have hl:n=Ao N:=by have:=hA.len;rwa [Bh]at this
 have hk:m=Ao M:=by have:=hB.len;rwa [Bh]at this
 have HN:=Ag hl;have HM:=Ag hk;clear hl hk;go_enter Tryz.func140,Tryz.ntmps140;go_wp2
 go_loopw [5,11] (fun v i wr=>∃(k:Nat) (r:Option Addr) (l e:Nat),k<=m/\i=.int .i64 k/\v=.slice r l e/\Bi wr r l e (N*(M%2^k))/\Gd w.heap.size r/\Below w.heap.size w wr) (fun _ i _=>m-(intOf i).toNat)
 case atStart=>
  refine⟨0,some ⟨w.heap.size,0,none⟩,0,0,by omega,rfl,rfl,?_,fun q hq=>by cases hq;exact As _,(Bb _ _).alloc (As _) _⟩;rw[Nat.pow_zero,Nat.mod_one,Nat.mul_zero];exact Qq _ _ (by simp)
 case round=>
  obtain⟨k,r,l,e,hk,rfl,rfl,hv,hnew,hbw⟩:=hrel
  by_cases hkm:k<m
  .obtain⟨b,off,rfl,hb,hc⟩:=hB.pos (by omega);obtain⟨x,hx⟩:∃x,bit M k=x:=⟨_,rfl⟩
   have hcx:wr.cell? ⟨b,off+k,none⟩=some (.bool x):=by
    rw[(Ca hbw).1 _ _ hb];exact hc k x (by rw[Dq (by rw[<-HM.out];exact hkm),hx])
   have hlim:Ao (N*(M%2^k))<=200000:=by
    have h1:=Rr N (M%2^k);have h2:=Ee (Nat.mod_le M (2^k));rw[<-HN.out]at h1
    rw[<-HM.out]at h2
    omega
   have hll:l<=200000:=by have:=hv.len;rw[Bh]at this;omega
   have HX:=Ag hx;have HV:=Ag hv;clear hc hx hlim hv
   cases x with
   | true=>
    go_wp2_with fail
    refine(Zb wr p n c N k (hA.below hbw) (by omega) (by omega)).mono ?_;rintro en w1 ⟨r1,l1,e1,rfl,hs1,hb1,_⟩;have hl1:l1<=200000:=by
     have:=hs1.len;rw[Bh]at this
     rcases Nat.eq_zero_or_pos N with h0|h0
     .rw[h0,Nat.zero_mul,Wk]at this;omega
     .rw[Iq h0,<-HN.out]at this;omega
    go_wp2_with fail
    refine(Tf w1 r l e _ r1 l1 e1 _ (HV.out.below hb1) hs1 (by omega) (by omega)).mono ?_;rintro en w2 ⟨r2,l2,e2,rfl,hs2,hb2,hn2⟩;rw[<-Xn HX.out]at hs2
    have hbw2:Below w.heap.size w w2:=(hbw.trans (hb1.mono hbw.size)).trans (hb2.mono (Dn hbw.size hb1.size));go_wp2;go_roundw
    case rel=>exact⟨k+1,r2,l2,e2,by omega,by go_num,rfl,hs2,hn2.mono (Dn hbw.size hb1.size),hbw2⟩
    case measure=>simp[intOf];omega
   | false=>
    go_wp2;go_roundw
    case rel=>exact⟨k+1,r,l,e,by omega,by go_num,rfl,by rw[To HX.out];exact HV.out,hnew,hbw⟩
    case measure=>simp[intOf];omega
  .have HE:Hid (N*(M%2^k)=N*M):=Ag (by rw[Nat.mod_eq_of_lt ((Bg M k).1 (by rw[<-HM.out];omega))]);have HV:=Ag hv;clear hv;go_wp2;go_ret;exact⟨r,l,e,rfl,by rw[<-HE.out];exact HV.out,hbw,hnew⟩
def He (Q L m:Nat):List Bool:=(List.range L).map fun j=>decide (m<=j)&&bit Q j
theorem Gt (Q L m:Nat):(He Q L m).length=L:=by simp[He]
theorem Nh {Q L m j:Nat}(h:j<L):(He Q L m)[j]? = some (decide (m<=j)&&bit Q j):=by simp[He,h]
theorem cF (Q L:Nat):He Q L 0=Ci Q L:=by
 unfold He Ci;apply List.map_congr_left;intro j _;simp
theorem fP (Q L:Nat):He Q L L=List.replicate L false:=by
 apply List.ext_getElem (by simp[He]);intro j h1 h2;have:j<L:=by simpa [He]using h1
 simp[He,show ¬L<=j by omega]
theorem Vs {Q L i:Nat}(_h:i<L)(hb:bit Q i=true):(He Q L (i+1)).set i true=He Q L i:=by
 apply List.ext_getElem?;intro j;rw[List.getElem?_set];rcases Nat.lt_or_ge j L with h1|h1
 .rw[Nh h1,Nh h1,Gt]
  by_cases hij:i=j
  .subst hij;simp[h1,hb]
  .rw[if_neg hij]
   congr 2
   rw[decide_eq_decide];omega
 .rw[List.getElem?_eq_none (l:=He Q L (i+1)) (by rw[Gt];exact h1),List.getElem?_eq_none (by rw[Gt];exact h1)];split<;>first|rfl|(split<;>first|rfl|(rw[Gt]at *;omega))
theorem Tg {Q L i:Nat}(hb:bit Q i=false):He Q L (i+1)=He Q L i:=by
 apply List.map_congr_left;intro j _
 by_cases hij:j=i
 .subst hij;simp[hb]
 .congr 1
  rw[decide_eq_decide];omega
theorem rest_step {N M i:Nat}(hM:0<M):(bit (N/M) i=decide (M<=2*(N/2^(i+1)%M)+(bit N i).toNat)) /\
  N/2^i%M=2*(N/2^(i+1)%M)+(bit N i).toNat-(if M<=2*(N/2^(i+1)%M)+(bit N i).toNat then M else 0)/\2*(N/2^(i+1)%M)+(bit N i).toNat<2*M:=by
 have e:=Ht N i;have hb:(bit N i).toNat<=1:=Bool.toNat_le _;generalize (bit N i).toNat=a at *;generalize hH:N/2^(i+1)=H at *;have hdm:=Nat.div_add_mod H M;have hm:=Nat.mod_lt H hM;have e2:N/M/2^i=N/2^i/M:=by rw[Nat.div_div_eq_div_mul,Nat.div_div_eq_div_mul,Nat.mul_comm]
 generalize H/M=q at *;generalize H%M=r at *;have e3:N/2^i=M*(2*q)+(2*r+a):=by
  rw[e,<-hdm,Nat.mul_add,Nat.mul_left_comm];omega
 have hlt:2*r+a<2*M:=by omega
 refine⟨?_,?_,hlt⟩
 .show decide (N/M/2^i%2=1)=_;rw[e2,e3,Nat.mul_add_div hM,decide_eq_decide]
  by_cases h:M<=2*r+a
  .have:(2*r+a)/M=1:=by
    rw[Nat.div_eq_iff hM];omega
   rw[this];omega
  .rw[Nat.div_eq_of_lt (by omega)];omega
 .rw[e3,Nat.mul_add_mod]
  by_cases h:M<=2*r+a
  .rw[if_pos h,Nat.mod_eq_sub_mod h,Nat.mod_eq_of_lt (by omega)]
  .rw[if_neg h,Nat.mod_eq_of_lt (by omega),Nat.sub_zero]
theorem Wm {R:Nat}{b:Bool}:b::bitsOf R=Ci (2*R+b.toNat) (Ao R+1):=by
 apply List.ext_getElem?;intro j
 cases j with
 | zero=>
  rw[Ji (by omega)];simp only[List.getElem?_cons_zero,Option.some.injEq];unfold bit;rw[Nat.pow_zero,Nat.div_one];cases b<;>simp<;>omega
 | succ j=>
  rw[List.getElem?_cons_succ];rcases Nat.lt_or_ge j (Ao R) with h|h
  .rw[Dq h,Ji (by omega)]
   congr 1
   unfold bit;rw[Nat.pow_succ',<-Nat.div_div_eq_div_mul,show (2*R+b.toNat)/2=R by have:b.toNat<=1:=Bool.toNat_le _;omega]
  .rw[List.getElem?_eq_none (by rw[Bh];exact h),List.getElem?_eq_none (by rw[Nz];omega)]
theorem eQ {R:Nat}{b:Bool}:2*R+b.toNat<2^(Ao R+1):=by
 have h1:=Ec R;have h2:b.toNat<=1:=Bool.toNat_le _;rw[Nat.pow_succ];omega
theorem Yd {w w1 w2:World}(h:Below w.heap.size w w1)(k:Below w1.heap.size w1 w2):Below w.heap.size w w2:=h.trans (k.mono h.size)
theorem Gi.setCell {w:World}{p:Option Addr}{n c:Nat}{xs:List Bool}(h:Gi w p n c xs){a:Addr}(ha:∀q,p=some q->q.block≠a.block)(u:Value):Gi (w.setCell a u) p n c xs:=by
 refine⟨h.len,h.cap,h.max,?_⟩;rcases h.at_ with h1|⟨b,off,h1,h2,h3⟩
 .exact .inl h1
 .refine .inr ⟨b,off,h1,by simpa using h2,fun i x hx=>?_⟩;have hne:=ha _ h1;rw[World.cell?_setCell_other _ _ _ _ (fun e=>hne (by rw[e]))];exact h3 i x hx
theorem Ve {R:Nat}(h:R=0):bitsOf R=[]:=by rw[h];rfl
def jA (N M:Nat)(w:World)(e:Ending)(w':World):Prop:=∃p n c q m d,e=.returned (.tuple #[.slice p n c,.slice q m d]) /\
 Bi w' p n c (N/M)/\Bi w' q m d (N%M)/\Below w.heap.size w w'/\Gd w.heap.size p/\Gd w.heap.size q
theorem cD (w:World)(pa:Option Addr)(n ca N:Nat)(pb:Option Addr)(nb cb M:Nat)(hA:Bi w pa n ca N)(hB:Bi w pb nb cb M)(hn:n<=1000000)(hnb:nb<=900000)(hM:0<M) :
  Calls Tryz.prog 134 #[.slice pa n ca,.slice pb nb cb] w (jA N M w):=by
 have hl:n=Ao N:=by have:=hA.len;rwa [Bh]at this
 have HN:=Ag hl;clear hl;obtain⟨i0,hi',hz0,hz1,hz2⟩:=info_parts Tryz.info_bool;have hmk:=Vz n (by omega);go_enter Tryz.func134,Tryz.ntmps134;go_wp2
 go_loopw [7,8] (fun rv iv wr=>∃(m:Nat) (rp:Option Addr) (rl rc:Nat),m<=n/\iv=.int .i64 ((m:Int)-1)/\rv=.slice rp rl rc/\Bi wr rp rl rc (N/2^m%M)/\Gz wr w.heap.size (He (N/M) n m)/\Gd (w.heap.size+1) rp/\Below w.heap.size w wr/\w.heap.size+1<wr.heap.size) (fun _ iv _=>(intOf iv+1).toNat)
 case atStart=>
  refine⟨n,some ⟨w.heap.size+1,0,none⟩,0,0,As _,rfl,rfl,?_,?_,fun q hq=>by cases hq;exact As _,((Bb _ _).alloc (As _) _).alloc (by simp) _,by simp⟩
  .rw[Nat.div_eq_of_lt ((Bg N n).1 (Nat.le_of_eq HN.out.symm)),Nat.zero_mod];exact Qq _ _ (by simp)
  .rw[fP];exact(Gz.zeros w n).below ((Bb _ _).alloc (As _) _) (by simp)
 case round=>
  obtain⟨m,rp,rl,rc,hm,rfl,rfl,hr,hblk,hnew,hbw,hsz⟩:=hrel
  cases m with
  | zero=>
   have e1:N/2^0%M=N%M:=by rw[Nat.pow_zero,Nat.div_one]
   rw[e1]at hr
   have hrowq:=hblk.row (n:=n) (c:=n) (by rw[Gt]) (As _) (by omega);rw[cF]at hrowq
   have hlt:Hid (N/M<2^n):=Ag (Nat.lt_of_le_of_lt (Nat.div_le_self _ _) ((Bg N n).1 (Nat.le_of_eq HN.out.symm)));clear e1
   go_wp2_with fail
   refine(Gk wr _ n n (N/M) hrowq hlt.out).mono ?_;rintro en w2 ⟨l1,rfl,hQ,rfl⟩;go_wp2
   go_ret2
   exact⟨_,l1,n,rp,rl,rc,rfl,hQ,hr,hbw,fun q hq=>by cases hq;exact As _,hnew.mono (by omega)⟩
  | succ i=>
   have hst:=rest_step (N:=N) (i:=i) hM;obtain⟨R,hR⟩:∃R,N/2^(i+1)%M=R:=⟨_,rfl⟩
   rw[hR]at hst hr
   have hrl:=Ch hr;obtain⟨b,off,rfl,hb,hc⟩:=hA.pos (by omega);obtain⟨x,hx⟩:∃x,bit N i=x:=⟨_,rfl⟩
   have hcx:wr.cell? ⟨b,off+i,none⟩=some (.bool x):=by
    rw[(Ca hbw).1 _ _ hb];exact hc i x (by rw[Dq (by rw[<-HN.out];omega),hx])
   rw[hx]at hst
   have hRM:R<M:=by rw[<-hR];exact Nat.mod_lt _ hM
   have hrl9:rl<=900000:=by
    have h9:=Ee (Nat.le_of_lt hRM);have h8:=Ch hB;omega
   have HRL:=Ag hrl;have HST:=Ag hst;have hin:i<n:=by omega
   have hi1:(((i+1:Nat):Int)-1)=(i:Int):=by omega
   simp only[hi1];clear hc hx hst hR hrl hi1 hRM;have hown:=Gz.owns (w:=wr.alloc (.cells #[.bool x] 4)) (g:=wr.heap.size) (xs:=[x]) (n:=1) (B:=w.heap.size+1) (heap_alloc_new wr _) rfl (by omega) (by unfold maxLen;omega)
   cases rp with
   | none=>
    have hz:rl=0/\rc=0:=by
     rcases hr.at_ with ⟨_,h1,h2⟩|⟨b',o',h1,_⟩
     .exact⟨h1,h2⟩
     .cases h1
    obtain⟨rfl,rfl⟩:=hz;have hR0:R=0:=by
     rcases Nat.eq_zero_or_pos R with h1|h1
     .exact h1
     .have:=Ia h1;have:=HRL.out;omega
    have HRZ:=Ag hR0;clear hR0 hr
    go_wp2_with (at_builtin;refine wpList_append_own_none rfl _ _ 28 rfl (w.heap.size+1) 4 i0 1 Tryz.underlying28 hi' _ _ _ rfl hown rfl ?_)
    obtain⟨w1,hw1⟩:∃w1,wr.alloc (.cells #[.bool x] 4)=w1:=⟨_,rfl⟩
    obtain⟨v',hv'⟩:∃v':Value,.slice (some ⟨wr.heap.size,0,none⟩) 1 1=v':=⟨_,rfl⟩
    have ho':w1.ownsRow (w.heap.size+1) 4 1 v' 1 [.bool x]:=by rw[<-hw1,<-hv'];exact hown
    have hbw1:Below w.heap.size w w1:=by rw[<-hw1];exact hbw.alloc hbw.size _
    have hblk1:Gz w1 w.heap.size (He (N/M) n (i+1)):=by rw[<-hw1];exact hblk.below ((Bb _ _).alloc (As _) _) hblk.lt
    have hsz1:w.heap.size+1<w1.heap.size:=by rw[<-hw1];simp;omega
    rw[hw1,hv'];clear hw1 hv' hown;have hrow1:w1.ownsRow (w.heap.size+1) 4 1 v' (0+1) ((Ci (2*R+x.toNat) (0+1)).map Value.bool):=by
     have e9:=Wm (R:=R) (b:=x);rw[Ve HRZ.out,<-HRL.out]at e9
     rw[<-e9];exact ho'
    obtain⟨q1,e1,rfl,hrow,hnq⟩:=Gi.of_owns hrow1;have hlt:Hid (2*R+x.toNat<2^(0+1)):=Ag (by rw[HRL.out];exact eQ);clear ho' hrow1
    go_wp2_with fail
    refine(Gk w1 q1 (0+1) e1 (2*R+x.toNat) hrow hlt.out).mono ?_;rintro en w2 ⟨l1,rfl,hR1,rfl⟩;have hl1:l1<=900001:=by have:=Ch hR1;have h9:=(Bg _ _).2 hlt.out;omega
    go_wp2_with fail
    refine(Od w1 q1 l1 e1 (2*R+x.toNat) pb nb cb M hR1 (hB.below hbw1) (by omega) (by omega)).mono ?_;rintro en w2 ⟨rfl,hb2⟩;have hbw2:Below w.heap.size w w2:=Yd hbw1 hb2;have hblk2:=hblk1.below hb2 hblk1.lt;have hR2:=hR1.below hb2;clear hR1 hblk1
    by_cases hle:M<=2*R+x.toNat
    .have hK:decide (0<=Bo (2*R+x.toNat) M)=true:=by
      rw[decide_eq_true_eq];unfold Bo;rw[if_neg (by omega)];split<;>omega
     have HLE:=Ag hle;have hbit:bit (N/M) i=true:=by rw[HST.out.1,decide_eq_true hle]
     have hres:N/2^i%M=2*R+x.toNat-M:=by rw[HST.out.2.1,if_pos hle]
     have HBIT:=Ag hbit;have HRES:=Ag hres;clear hbit hres hle
     go_wp2_with fail
     refine(Ob w2 q1 l1 e1 (2*R+x.toNat) pb nb cb M hR2 (hB.below hbw2) (by omega) HLE.out).mono ?_;rintro en w3 ⟨q3,l3,e3,rfl,hR3,hb3,hn3⟩;have hblk3:=hblk2.below hb3 hblk2.lt;have hcq:w3.cell? ⟨w.heap.size,i,none⟩=some (.bool _):=hblk3.cell (Nh hin);have hfq:=hblk3.free i;have hset:=hblk3.set i true;rw[Vs hin HBIT.out]at hset
     have HSET:=Ag hset;have hn3':Gd (w.heap.size+1) q3:=hn3.mono (by have:=hb2.size;omega);clear hset hK;go_wp2;go_roundw
     case rel=>
      refine⟨i,q3,l3,e3,by omega,rfl,rfl,?_,HSET.out,hn3',(Yd hbw2 hb3).setCell (As _) _,by have:=hb3.size;have:=hb2.size;simp;omega⟩;rw[HRES.out];exact Gi.setCell hR3 (hn3'.ne (by simp)) _
     case measure=>simp[intOf]
    .have hK:decide (0<=Bo (2*R+x.toNat) M)=false:=by
      rw[decide_eq_false_iff_not,Dl (by omega)];omega
     have hbit:bit (N/M) i=false:=by rw[HST.out.1,decide_eq_false hle]
     have hres:N/2^i%M=2*R+x.toNat:=by rw[HST.out.2.1,if_neg hle,Nat.sub_zero]
     have HBIT:=Ag hbit;have HRES:=Ag hres;clear hbit hres hle;go_wp2;go_roundw
     case rel=>
      refine⟨i,q1,l1,e1,by omega,rfl,rfl,by rw[HRES.out];exact hR2,by rw[<-Tg HBIT.out];exact hblk2,hnq,hbw2,by have:=hb2.size;omega⟩
     case measure=>simp[intOf]
   | some ra=>
    obtain⟨rb,ro,hra,hrb,hrc⟩:∃b off,ra=(⟨b,off,none⟩:Addr)/\b<wr.heap.size/\∀(j:Nat) (y:Bool),(bitsOf R)[j]? = some y->wr.cell? ⟨b,off+j,none⟩=some (.bool y):=by
     rcases hr.at_ with ⟨h1,_⟩|⟨b',o',h1,h2,h3⟩
     .cases h1
     .exact⟨b',o',Option.some.inj h1,h2,h3⟩
    subst hra;have HRC:=Ag hrc;clear hrc hr
    go_wp2_with (at_builtin;refine wpList_append_own _ rfl _ _ 28 rfl (w.heap.size+1) 4 i0 (.bool false) 1 1 Tryz.underlying28 hi' hz0 hz1 hz2 rfl (by decide) _ _ _ rfl hown ⟨rb,ro,none⟩ rl rc ((bitsOf R).map Value.bool) rfl ?c1 ?c2 ?c3 ?c4 ?c5 ?c6 ?_)
    case c1=>simp[Bh];exact HRL.out.symm
    case c2=>
     intro j u hu;rw[List.getElem?_map]at hu
     cases hx:(bitsOf R)[j]? with
     | none=>rw[hx]at hu;cases hu
     | some y=>
      rw[hx]at hu;cases hu
      have e:(⟨rb,ro,none⟩:Addr).add j=⟨rb,ro+j,none⟩:=by unfold Addr.add;split<;>simp_all
      rw[e,World.cell?_alloc_past (hn:=hrb)];exact HRC.out j y hx
    case c3=>intro u hu;simp only[List.mem_map]at hu;obtain⟨y,_,rfl⟩:=hu;rfl
    case c4=>unfold maxLen;omega
    case c5=>omega
    case c6=>simp;omega
    intro v' w1 ho' hg1 _;have hbw1:Below w.heap.size w w1:=(hbw.alloc hbw.size _).grown hg1 (by simp;omega) (fun k e=>by simp[Value.ownBlock]at e;omega);have hblk1:Gz w1 w.heap.size (He (N/M) n (i+1)):=by
     have h8:=hblk.below ((Bb _ wr).alloc (As _) (.cells #[.bool x] 4)) hblk.lt;unfold Gz at h8 ⊢;rw[hg1.block _ (by simp;omega) (fun e=>by simp[Value.ownBlock]at e;omega)];exact h8
    have hsz1:w.heap.size+1<w1.heap.size:=by have:=hg1.size;simp at this;omega
    clear hg1 hown;have hrow1:w1.ownsRow (w.heap.size+1) 4 1 v' (rl+1) ((Ci (2*R+x.toNat) (rl+1)).map Value.bool):=by
     rw[HRL.out,<-Wm];simpa [Nat.add_comm,<-HRL.out]using ho'
    obtain⟨q1,e1,rfl,hrow,hnq⟩:=Gi.of_owns hrow1;have hlt:Hid (2*R+x.toNat<2^(rl+1)):=Ag (by rw[HRL.out];exact eQ);clear ho' hrow1
    go_wp2_with fail
    refine(Gk w1 q1 (rl+1) e1 (2*R+x.toNat) hrow hlt.out).mono ?_;rintro en w2 ⟨l1,rfl,hR1,rfl⟩;have hl1:l1<=900001:=by have:=Ch hR1;have h9:=(Bg _ _).2 hlt.out;omega
    go_wp2_with fail
    refine(Od w1 q1 l1 e1 (2*R+x.toNat) pb nb cb M hR1 (hB.below hbw1) (by omega) (by omega)).mono ?_;rintro en w2 ⟨rfl,hb2⟩;have hbw2:Below w.heap.size w w2:=Yd hbw1 hb2;have hblk2:=hblk1.below hb2 hblk1.lt;have hR2:=hR1.below hb2;clear hR1 hblk1
    by_cases hle:M<=2*R+x.toNat
    .have hK:decide (0<=Bo (2*R+x.toNat) M)=true:=by
      rw[decide_eq_true_eq];unfold Bo;rw[if_neg (by omega)];split<;>omega
     have HLE:=Ag hle;have hbit:bit (N/M) i=true:=by rw[HST.out.1,decide_eq_true hle]
     have hres:N/2^i%M=2*R+x.toNat-M:=by rw[HST.out.2.1,if_pos hle]
     have HBIT:=Ag hbit;have HRES:=Ag hres;clear hbit hres hle
     go_wp2_with fail
     refine(Ob w2 q1 l1 e1 (2*R+x.toNat) pb nb cb M hR2 (hB.below hbw2) (by omega) HLE.out).mono ?_;rintro en w3 ⟨q3,l3,e3,rfl,hR3,hb3,hn3⟩;have hblk3:=hblk2.below hb3 hblk2.lt;have hcq:w3.cell? ⟨w.heap.size,i,none⟩=some (.bool _):=hblk3.cell (Nh hin);have hfq:=hblk3.free i;have hset:=hblk3.set i true;rw[Vs hin HBIT.out]at hset
     have HSET:=Ag hset;have hn3':Gd (w.heap.size+1) q3:=hn3.mono (by have:=hb2.size;omega);clear hset hK;go_wp2;go_roundw
     case rel=>
      refine⟨i,q3,l3,e3,by omega,rfl,rfl,?_,HSET.out,hn3',(Yd hbw2 hb3).setCell (As _) _,by have:=hb3.size;have:=hb2.size;simp;omega⟩;rw[HRES.out];exact Gi.setCell hR3 (hn3'.ne (by simp)) _
     case measure=>simp[intOf]
    .have hK:decide (0<=Bo (2*R+x.toNat) M)=false:=by
      rw[decide_eq_false_iff_not,Dl (by omega)];omega
     have hbit:bit (N/M) i=false:=by rw[HST.out.1,decide_eq_false hle]
     have hres:N/2^i%M=2*R+x.toNat:=by rw[HST.out.2.1,if_neg hle,Nat.sub_zero]
     have HBIT:=Ag hbit;have HRES:=Ag hres;clear hbit hres hle;go_wp2;go_roundw
     case rel=>
      refine⟨i,q1,l1,e1,by omega,rfl,rfl,by rw[HRES.out];exact hR2,by rw[<-Tg HBIT.out];exact hblk2,hnq,hbw2,by have:=hb2.size;omega⟩
     case measure=>simp[intOf]
end Go.Proofs.YtokhckjemidbpaaGreatDoor
