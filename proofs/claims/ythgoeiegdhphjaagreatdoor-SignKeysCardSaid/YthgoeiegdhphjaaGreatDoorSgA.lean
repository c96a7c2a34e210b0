/- How a region stands that stores into boxes of one number alone; sign's small calls. -/
import Derived.Test.YthgoeiegdhphjaaGreatDoorEuc
import Derived.BigRegion
import Derived.OwnWalkIn
import Derived.TacticsInMore
import Derived.LoopNIn
import Derived.LoopIn
import Derived.RangeFuncNested
import Derived.RangeFuncBound
import Derived.RangeFuncCalls
import Derived.RangeFuncLeaves
import Derived.OrdersIn
import Derived.Test.YthgoeiegdhphjaaGreatDoorGqG
import Derived.Deep.Slices
import Derived.ChangeSame
import Derived.ChangeSlices
import Derived.ChangeArms
import Derived.Test.YthgoeiegdhphjaaGreatDoorGqL
set_option maxRecDepth 1000000
set_option maxHeartbeats 16000000
set_option linter.all false
namespace Go.Proofs.YthgoeiegdhphjaaGreatDoor
theorem bT {M N:Nat}(hM:2<=M):∀(R D O X:Nat) (neg:Bool),Lo M N D R O X neg->∃Y,Iq M N Y:=by
 intro R
 induction R using Nat.strongRecOn with
 | _ R ih=>
  intro D O X neg h;rcases Nat.eq_zero_or_pos R with h0|h0
  .subst h0;have h1:=h.done hM
   by_cases hD:D=1
   .exact⟨_,h1.2 hD⟩
   .exact⟨0,fun hg=>absurd (h1.1.trans hg) hD,fun _=>rfl⟩
  .exact ih (D%R) (Nat.mod_lt _ h0) _ _ _ _ (h.step h0)
theorem Wk {M:Nat}(hM:2<=M)(N:Nat):∃Y,Iq M N Y:=bT hM _ _ _ _ _ (Lo.start (M:=M) (N:=N) (by omega))
noncomputable def Wl (M N:Nat):Nat:=Classical.epsilon fun Y=>Iq M N Y
theorem Se {M:Nat}(hM:2<=M)(N:Nat):Iq M N (Wl M N):=Classical.epsilon_spec (Wk hM N)
theorem eV {M N X:Nat}(hM:2<=M)(h:Iq M N X):X=Wl M N:=h.uniq (Se hM N)
theorem Lx {P Q g:Nat}(h:g^Q%P=1%P)(a:Nat):g^a%P=g^(a%Q)%P:=by
 have h1:a=Q*(a/Q)+a%Q:=(Nat.div_add_mod a Q).symm;have h2:g^(Q*(a/Q))%P=1%P:=by
  rw[Nat.pow_mul,Nat.pow_mod,h,<-Nat.pow_mod,Nat.one_pow]
 rw[show g^a=g^(Q*(a/Q))*g^(a%Q) by rw[<-Nat.pow_add,<-h1],Nat.mul_mod,h2,<-Nat.mul_mod,Nat.one_mul]
theorem Yo {P Q g a b:Nat}(h:g^Q%P=1%P)(hab:a%Q=b%Q):g^a%P=g^b%P:=by
 rw[Lx h a,Lx h b,hab]
open Go Go.RowKit Go.Proofs.YthgoeiegdhphjaaGreatDoor.Flow
structure KB (B b:Nat) (w w':World):Prop where
 k:Al B w w'
 b:Cp b w w'
theorem gB (i:Nat)(hi:i<3):gP i<Ao 3/\gQ i<Ao 3/\gG i<Ao 3:=by
 have h:=Ky i hi;have h1:gP i<Ao 3:=Dm h.2.2.2.2.2 (by decide);have h2:=Qx i hi;refine⟨h1,?_,by omega⟩;rcases Nat.eq_zero_or_pos (Ka i) with h0|h0
 .rw[h0,Nat.mul_zero]at h2;omega
 .have:=Nat.le_mul_of_pos_right (gQ i) h0;omega
theorem Ws:∀i,i<3->(Do i).length<=60
 | 0,_=>by decide
 | 1,_=>by decide
 | 2,_=>by decide
 | _+3,h=>by omega
theorem bU (A:Int):((IntKind.u64.wrap A)%3).toNat<3:=by
 have h1:=Int.emod_nonneg (IntKind.u64.wrap A) (show (3:Int)≠0 by decide);have h2:=Int.emod_lt_of_pos (IntKind.u64.wrap A) (show (0:Int)<3 by decide);omega
theorem bZ {w:World}{i:Nat}{x y z:Option Addr×Nat×Nat}{pc:Option Addr}{nc cc:Nat}(hi:i<3)(hr:Tabs w)(hx:Eb w x (gP i))(hy:Eb w y (gQ i))(hz:Eb w z (gG i))(hc:Dp w 3 pc nc cc (Do i)) :
  Calls Tryz.prog 65 #[.agg #[.slice x.1 x.2.1 x.2.2,.slice y.1 y.2.1 y.2.2,.slice z.1 z.2.1 z.2.2,.slice none 0 0],.slice pc nc cc] w fun e w'=>
   ∃b,e=.returned (.tuple #[.pointer (some ⟨b,0,none⟩),.int .i64 0])/\Ay w' b (gP i) (gQ i) (gG i) (gH i)/\Below w.heap.size w w':=by
 obtain⟨l1,l2,l3⟩:=gB i hi;refine(cD (e:=3) (seed:=[]) hr hx l1 hy l2 hz l3 (Tx w) hc (by rw[hc.len];exact Ws i hi) (Wt i hi) (by decide)).mono ?_;rintro en w' ⟨_,h0,_,hbl⟩;rw[Yt i hi]at h0
 obtain⟨b,rfl,hg⟩:=h0 (by decide) rfl;exact⟨b,rfl,hg,hbl⟩
theorem Jn (w:World)(A:Int)(hr:Tabs w) :
  Calls Tryz.prog 15 #[.int .i64 A,.slice none 0 0] w fun e w'=>∃b,e=.returned (.pointer (some ⟨b,0,none⟩))/\Ay w' b (gP ((IntKind.u64.wrap A)%3).toNat) (gQ ((IntKind.u64.wrap A)%3).toNat) (gG ((IntKind.u64.wrap A)%3).toNat) (gH ((IntKind.u64.wrap A)%3).toNat)/\Below w.heap.size w w':=by
 have HR:=Aa hr;have hi:=bU A;obtain⟨i,ei⟩:∃i,((IntKind.u64.wrap A)%3).toNat=i:=⟨_,rfl⟩
 have HN:=Aa (Px w A none 0 0);rw[ei]at hi HN ⊢
 have HI:=Aa hi;clear hr hi ei;go_enter Tryz.func15,Tryz.ntmps15
 go_wp2_with fail
 refine HN.out.mono ?_;rintro en w1 ⟨x,y,z,pc,nc,cc,rfl,h1,h2,h3,h4,b1⟩;have HH:=Aa (bZ HI.out (HR.out.below b1 HR.out.size) h1 h2 h3 h4);have B1:=Aa b1;clear h1 h2 h3 h4 b1 HN
 go_wp2_with fail
 refine HH.out.mono ?_;rintro en w2 ⟨b,rfl,hg,b2⟩;have HG:=Aa hg;have B2:=Aa (Af B1.out b2);clear hg b2 HH B1;go_wp2;go_ret;exact⟨b,rfl,HG.out,B2.out⟩
open Go Go.RowKit
def Ji:List Nat:=[115,105,103,110]
def Jk (P Q A Y:Nat)(msg:List Nat):Nat:=be (Pu (El [Ji,Bl A (As P),Bl Y (As P),msg]))%Q
def cN (Q x:Nat)(msg:List Nat):Nat:=be ((Fc (Bl x (As Q)) msg ((64+31)/32)).take 64)
def Vl (Q x:Nat)(msg:List Nat):Nat:=if cN Q x msg%Q=0 then 1 else cN Q x msg%Q
def fS (P Q G x:Nat)(msg:List Nat):Nat:=Jk P Q (G^Vl Q x msg%P) (G^x%P) msg
def fR (P Q G x:Nat)(msg:List Nat):Nat:=(Vl Q x msg+fS P Q G x msg*x%Q)%Q
def Oh (P Q G x:Nat)(msg:List Nat):List Nat:=Bl (fS P Q G x msg) (As Q)++Bl (fR P Q G x msg) (As Q)
noncomputable def To (P G y c s:Nat):Nat:=G^s%P*(Wl P y^c%P)%P
def Fa (Q:Nat)(sig:List Nat):Prop:=sig.length=2*As Q/\be (sig.take (As Q))<Q/\be (sig.drop (As Q))<Q
def Ro (P Q y:Nat):Prop:=0<y/\y<P/\y^Q%P=1
noncomputable def Jj (P Q G y:Nat) (msg sig:List Nat):Prop :=
 Fa Q sig/\Ro P Q y/\Jk P Q (To P G y (be (sig.take (As Q))) (be (sig.drop (As Q)))) y msg=be (sig.take (As Q))
theorem Xw {N n:Nat}(h:N<B8 n):be (Bl N n)=N:=by
 unfold be Bl;rw[List.reverse_reverse,Xv,Nat.mod_eq_of_lt h]
theorem eQ {P Q y:Nat}(hQ:0<Q)(h:y^Q%P=1):Nat.gcd P y=1:=by
 have h1:Nat.gcd P y ∣ y^Q:=Nat.dvd_trans (Nat.gcd_dvd_right _ _) (Nat.dvd_trans (by rw[Nat.pow_one];exact Nat.dvd_refl _) (Nat.pow_dvd_pow y (show 1<=Q from hQ)));have h2:Nat.gcd P y ∣ P*(y^Q/P):=Nat.dvd_trans (Nat.gcd_dvd_left _ _) (Nat.dvd_mul_right _ _);have h3:=Nat.div_add_mod (y^Q) P;rw[h]at h3
 have h5:y^Q-P*(y^Q/P)=1:=by omega
 have h4:Nat.gcd P y ∣ y^Q-P*(y^Q/P):=Nat.dvd_sub h1 h2;rw[h5]at h4
 exact Nat.dvd_one.1 h4
theorem Sc {P Q G:Nat}(hP:2<=P)(hQ:0<Q)(hG:G^Q%P=1)(x:Nat):Ro P Q (G^x%P):=by
 have h1:(G^x%P)^Q%P=1:=by
  rw[<-Nat.pow_mod,<-Nat.pow_mul,Nat.mul_comm,Nat.pow_mul,Nat.pow_mod,hG,Nat.one_pow,Nat.mod_eq_of_lt (by omega)]
 refine⟨Nat.pos_of_ne_zero fun h=>?_,Nat.mod_lt _ (by omega),h1⟩;rw[h,Nat.zero_pow hQ,Nat.zero_mod]at h1
 omega
theorem aT {P Q G x k c:Nat}(hP:2<=P)(hQ:0<Q)(hG:G^Q%P=1):To P G (G^x%P) c ((k+c*x%Q)%Q)=G^k%P:=by
 have hG1:G^Q%P=1%P:=by rw[hG,Nat.mod_eq_of_lt (by omega)]
 have hi:=(Se hP (G^x%P)).1 (eQ hQ (Sc hP hQ hG x).2.2);obtain⟨Z,hZ⟩:∃Z,Wl P (G^x%P)=Z:=⟨_,rfl⟩
 unfold To;rw[hZ]at hi ⊢
 have h2:G^((k+c*x%Q)%Q)%P=G^(k+c*x)%P:=Yo hG1 (by rw[Nat.mod_mod,Nat.add_mod_mod]);rw[h2,<-Nat.mul_mod,Nat.pow_add,Nat.mul_assoc,Nat.mul_comm c x,Nat.pow_mul,<-Nat.mul_pow,Nat.mul_mod,Nat.pow_mod (G^x*Z),Nat.mul_comm (G^x) Z,<-Nat.mul_mod_mod Z,hi.2,<-Nat.pow_mod,Nat.one_pow,<-Nat.mul_mod,Nat.mul_one]
theorem gE {Q c s:Nat}(hc:c<Q)(hs:s<Q):Fa Q (Bl c (As Q)++Bl s (As Q))/\be ((Bl c (As Q)++Bl s (As Q)).take (As Q))=c/\be ((Bl c (As Q)++Bl s (As Q)).drop (As Q))=s:=by
 have hl:=Im Q;have h1:(Bl c (As Q)++Bl s (As Q)).take (As Q)=Bl c (As Q):=by
  rw[List.take_append_of_le_length (by rw[Bu];exact Av _),List.take_of_length_le (by rw[Bu];exact Av _)]
 have h2:(Bl c (As Q)++Bl s (As Q)).drop (As Q)=Bl s (As Q):=by
  rw[List.drop_append_of_le_length (by rw[Bu];exact Av _),List.drop_of_length_le (by rw[Bu];exact Av _),List.nil_append]
 have e1:be (Bl c (As Q))=c:=Xw (by omega);have e2:be (Bl s (As Q))=s:=Xw (by omega);unfold Fa;rw[h1,h2,e1,e2];exact⟨⟨by rw[List.length_append,Bu,Bu];omega,hc,hs⟩,rfl,rfl⟩
theorem Yj {P Q G x k c:Nat}{msg:List Nat}(hP:2<=P)(hG:G^Q%P=1)(hc:c<Q) :
  Jj P Q G (G^x%P) msg (Bl c (As Q)++Bl ((k+c*x%Q)%Q) (As Q)) ↔ Jk P Q (G^k%P) (G^x%P) msg=c:=by
 have hQ:0<Q:=by omega
 obtain⟨h1,h2,h3⟩:=gE (s:=(k+c*x%Q)%Q) hc (Nat.mod_lt _ hQ);unfold Jj;rw[h2,h3,aT hP hQ hG];exact⟨fun h=>h.2.2,fun h=>⟨h1,Sc hP hQ hG x,h⟩⟩
theorem Og {P Q A Y:Nat}{msg:List Nat}(hQ:0<Q):Jk P Q A Y msg<Q:=Nat.mod_lt _ hQ
theorem aU {P Q G x:Nat}{msg:List Nat}(hP:2<=P)(hQ:0<Q)(hG:G^Q%P=1):Jj P Q G (G^x%P) msg (Oh P Q G x msg):=by
 unfold Oh fR;refine(Yj hP hG (Og hQ)).2 ?_;rfl
theorem Tn (P Q G x:Nat)(msg:List Nat):(Oh P Q G x msg).length=2*As Q:=by
 unfold Oh;rw[List.length_append,Bu,Bu];omega
structure KN (B:Nat) (w w':World):Prop where
 k:Al B w w'
 blk:∀(g:Nat) (o:Obj),w.heap[g]? = some o->(∀q m d,o≠.cells #[.slice q m d] 36 (0,0))->w'.heap[g]? = some o
theorem KN.of {B:Nat}{w w':World}(h:Below w.heap.size w w')(hB:B<=w.heap.size):KN B w w':=⟨Al.of h hB,fun g o ho _=>by rw[h.block g (Ll ho).1];exact ho⟩
theorem KN.same (B:Nat)(w:World):KN B w w:=⟨Al.same _ _,fun _ _ h _=>h⟩
theorem KN.store {B b m d:Nat}{q:Option Addr}{w:World}(hb:Ae w b (.slice q m d))(hB:B<=b)(v:Value):KN B w (w.setCell ⟨b,0,none⟩ v):=⟨Al.store hb hB v,fun g o ho hn=>by
 have hne:g≠b:=fun e=>by
  subst e;unfold Ae at hb;rw[hb]at ho
  cases ho;exact hn _ _ _ rfl
 simp[World.setCell,Array.getElem?_modify,hne.symm];exact ho⟩
theorem Fit.kn {e N B:Nat}{v:Value}{w w':World}(h:Fit e N v w)(k:KN B w w'):Fit e N v w':=h.keep k.k
theorem Dw.kn {e N B:Nat}{t v:Value}{w w':World}(h:Dw e N t v w)(k:KN B w w'):Dw e N t v w':=h.keep k.k
theorem Ring.kn {B r M f:Nat}{w w':World}(h:Ring w r M f)(k:KN B w w'):Ring w' r M f:=by
 obtain⟨p,n,c,h1,h2,h3⟩:=h.at_.ex
 exact⟨⟨p,n,c,k.blk _ _ h1 (fun _ _ _=>by simp),k.k.nat _ _ _ _ h2,h3⟩,h.two,h.lim,h.few⟩
def Rf (Q:Nat)(v:Value)(w:World):Prop:=(∃b P G H,v=.pointer (some ⟨b,0,none⟩)/\Ay w b P Q G H) ∨ (v=.pointer none/\Q=0)
theorem Rf.below {Q:Nat}{v:Value}{w w':World}(h:Rf Q v w)(hb:Below w.heap.size w w'):Rf Q v w':=by
 rcases h with ⟨b,P,G,H,h1,h2⟩|h
 .exact .inl ⟨b,P,G,H,h1,h2.below hb⟩
 .exact .inr h
theorem Rf.of {w:World}{b P Q G H:Nat}(h:Ay w b P Q G H):Rf Q (.pointer (some ⟨b,0,none⟩)) w:=.inl ⟨b,P,G,H,rfl,h⟩
structure iA (B:Nat) (w:World) (Q:Nat) (v:Value):Prop where
 ex:∃w0,Rf Q v w0/\w0.heap.size<=B/\Al B w0 w
theorem iA.of {B:Nat}{w w':World}{Q:Nat}{v:Value}(h:Rf Q v w)(hB:w.heap.size<=B)(k:Below w.heap.size w w')(hB2:B<=w.heap.size:=by exact Av _):iA B w' Q v:=⟨w,h,hB,Al.of k hB2⟩
theorem iA.keep {B:Nat}{w w':World}{Q:Nat}{v:Value}(h:iA B w Q v)(k:Al B w w'):Rf Q v w':=by
 obtain⟨w0,h1,h2,h3⟩:=h.ex;rcases h1 with ⟨b,P,G,H,h4,h5⟩|h4
 .exact .inl ⟨b,P,G,H,h4,h5.keep h2 (h3.trans k)⟩
 .exact .inr h4
def RQ (Q:Nat)(v:Value)(w:World):Prop:=(∃r,v=.pointer (some ⟨r,0,none⟩)/\Ring w r Q 33) ∨ (v=.pointer none/\Q=0)
theorem RQ.kn {Q B:Nat}{v:Value}{w w':World}(h:RQ Q v w)(k:KN B w w'):RQ Q v w':=by
 rcases h with ⟨r,h1,h2⟩|h
 .exact .inl ⟨r,h1,h2.kn k⟩
 .exact .inr h
theorem Jq {w:World}{Q:Nat}{g0:Value}(h:Rf Q g0 w) :
  Calls Tryz.prog 19 #[g0] w fun en w'=>∃x,en=.returned x/\RQ Q x w'/\Below w.heap.size w w':=by
 rcases h with ⟨b,P,G,H,rfl,h2⟩|⟨rfl,rfl⟩
 .refine(Jz h2).mono ?_;rintro en w' ⟨r,rfl,hr,hb⟩;exact⟨_,rfl,.inl ⟨r,rfl,hr⟩,hb⟩
 .refine(Wm w).mono ?_;rintro en w' ⟨rfl,hb⟩;exact⟨_,rfl,.inr ⟨rfl,rfl⟩,hb⟩
theorem Ts {w:World}{Q:Nat}{r0:Value}(h:RQ Q r0 w) :
  Calls Tryz.prog 56 #[r0] w fun en w'=>∃x,en=.returned x/\Fit 33 Q x w'/\Below w.heap.size w w':=by
 rcases h with ⟨r,rfl,h2⟩|⟨rfl,rfl⟩
 .exact Dy h2
 .refine(Mt w).mono ?_;rintro en w' ⟨rfl,hb⟩;exact⟨_,rfl,Fit.of (Ag.nil _) (by decide),hb⟩
theorem cS {N M:Nat}:Bm N M<0 ↔ N<M:=by
 unfold Bm;split
 .simp_all
 .split<;>simp_all<;>omega
theorem gL {N:Nat}(h:N<Ao 33):Ba N<=1056:=by
 have:=Ee h;omega
theorem Dh {w:World}{Q:Nat}{g0:Value}(h:Rf Q g0 w) :
  Calls Tryz.prog 144 #[g0] w fun en w'=>en=.returned (.int .i64 (As Q:Nat))/\Below w.heap.size w w':=by
 have HQ:=Aa h;clear h;go_enter Tryz.func144,Tryz.ntmps144
 go_wp2_with fail
 refine(Jq HQ.out).mono ?_;rintro en w1 ⟨r0,rfl,hr,hb1⟩;have HR:=Aa hr;have HB1:=Aa hb1;clear hr hb1
 go_wp2_with fail
 refine(Ts HR.out).mono ?_;rintro en w2 ⟨_,rfl,⟨p,n,c,rfl,h1,h2⟩,hb2⟩;have HN:=Aa h1;have hn:n<1000000:=by have:=h1.len_le h2;omega
 have hl:Ba Q<=1056:=gL h2;have HB2:=Aa (Af HB1.out hb2);have HS:Ad (As Q=(Ba Q+7)/8):=⟨rfl⟩
 clear h1 h2 hb2
 go_wp2_with fail
 refine(Dj _ p n c Q HN.out hn).mono ?_;rintro en w3 ⟨rfl,hb3⟩;have HB3:=Aa (Af HB2.out hb3);clear hb3;obtain⟨L,hL⟩:∃L,Ba Q=L:=⟨_,rfl⟩
 rw[hL]at hl HS
 simp only[hL];clear hL;go_wp2;go_ret;refine⟨?_,HB3.out⟩;rw[HS.out];exact congrArg (fun z=>Ending.returned (.int .i64 z)) (by omega)
theorem aS {w:World}{Q:Nat}{g0:Value}(h:Rf Q g0 w)(hq:As Q<=16) :
  Calls Tryz.prog 99 #[g0] w fun en w'=>en=.returned (.int .i64 (2*As Q:Nat))/\Below w.heap.size w w':=by
 have HQ:=Aa h;clear h;go_enter Tryz.func99,Tryz.ntmps99
 go_wp2_with fail
 refine(Dh HQ.out).mono ?_;rintro en w1 ⟨rfl,hb1⟩;have HB1:=Aa hb1;clear hb1;obtain⟨L,hL⟩:∃L,As Q=L:=⟨_,rfl⟩
 have HL:=Aa hL;rw[hL]at hq
 simp only[hL];clear hL HQ;go_wp2;go_ret;refine⟨?_,HB1.out⟩;rw[HL.out];show Ending.returned (.int .i64 (2*(L:Int)))=Ending.returned (.int .i64 ((2*L:Nat):Int));rw[Int.natCast_mul];rfl
theorem Fb {w:World}{Q e A:Nat}{g0 v:Value}(h:Rf Q g0 w)(hv:Fit e A v w)(he:e<=30000) :
  Calls Tryz.prog 96 #[g0,v] w fun en w'=>en=.returned (.bool (decide (A<Q)))/\Below w.heap.size w w':=by
 obtain⟨pa,na,ca,rfl,h1,h2⟩:=Aq hv;have hb1:=Ae.made w (.slice pa na ca);have hbel:Below w.heap.size w (w.alloc (.cells #[.slice pa na ca] 36)):=Cf;obtain⟨wa,hwa⟩:∃wa,w.alloc (.cells #[.slice pa na ca] 36)=wa:=⟨_,rfl⟩
 rw[hwa]at hb1 hbel
 have HA:=Aa ((Fit.of h1 h2).below hbel);have HBX:=Aa hb1;have HB:=Aa hbel;have HQ:=Aa (iA.of h (Av _) hbel);obtain⟨K,hK⟩:∃K,Bm A Q=K:=⟨_,rfl⟩
 have HK:=Aa hK;obtain⟨X,hX⟩:∃X,decide (A<Q)=X:=⟨_,rfl⟩
 have hE:decide (K<0)=X:=by
  rw[<-hK,<-hX];exact decide_eq_decide.2 cS
 rw[hX];clear hK hX h1 h2 hb1 hbel h hv;go_enter Tryz.func96,Tryz.ntmps96;go_wp2;refine Aj (by kernel_rfl) (by kernel_rfl)
  [some (.agg #[.slice pa na ca]),some (g0),none,none,none,some (.bool X),some (.bool X)]
  [false,false,true,true,true,false,false] rfl
  (fun wA wB=>KN (w.heap.size) wA wB)
  (fun D sp w'=>RG (w.heap.size) wa [(w.heap.size,.cells #[.slice pa na ca] 36 (0,0))] w'/\True)
  (fun i v w'=>match i with
   | 2=>RQ Q v w'
   | 3=>Fit 33 Q v w'
   | 4=>v=.int .i64 K
   | _=>True)
  ?_ ⟨RG.start HB.out.size (List.forall_mem_cons.2 ⟨HBX.out,fun x hx=>by cases hx⟩),trivial⟩ ?_ ?_
 .intro i v wA wB hf hb;split at hf
  .exact hf.kn hb
  .exact hf.kn hb
  .exact hf
  .trivial
 .simp only[Ax,Nat.reduceAdd];refine⟨?_,?_,?_,?_,?_,?_,?_,trivial⟩
  all_goals intro D sp w' hD hW hdp hg
  case refine_1=>
   have c0:w'.cell? ⟨w.heap.size,0,none⟩=some (.slice pa na ca):=Ae.cell (hg.1.of List.mem_cons_self)
   with_reducible refine Ac ?_ ?_
   all_goals simp[Region.wanted,yielded,execOp,Act.eval,Act.put,go_sem,c0]
  case refine_3=>
   (with_reducible refine Ab (w1:=w') (f := 19) (args:=#[g0]) ?_ ?_ ?_)
   .simp[Region.wanted,yielded,Act.put,go_sem]
   .simp[Act.eval,Act.put,go_sem]
   .refine(Jq (HQ.out.keep hg.1.keep)).mono ?_;rintro en w9 ⟨u,rfl,hu,hb⟩;exact⟨u,rfl,KN.of hb hg.1.base,hu,hg.1.later hb,trivial⟩
  case refine_4=>
   have k2:RQ Q (sp 2) w':=(hdp 2 (mq (by kernel_rfl))).2
   (with_reducible refine Ab (w1:=w') (f := 56) (args:=#[sp 2]) ?_ ?_ ?_)
   .simp[Region.wanted,yielded,Act.put,go_sem]
   .simp[Act.eval,Act.put,go_sem]
   .refine(Ts k2).mono ?_;rintro en w9 ⟨u,rfl,hu,hb⟩;exact⟨u,rfl,KN.of hb hg.1.base,hu,hg.1.later hb,trivial⟩
  case refine_5=>
   have k3:Fit 33 Q (sp 3) w':=(hdp 3 (mq (by kernel_rfl))).2
   (with_reducible refine Ab (w1:=w') (f := 33) (args:=#[.agg #[.slice pa na ca],sp 3]) ?_ ?_ ?_)
   .simp[Region.wanted,yielded,Act.put,go_sem]
   .simp[Act.eval,Act.put,go_sem]
   .refine(Be (HA.out.keep hg.1.keep) k3 (by omega) (by decide) HK.out).mono ?_;rintro en w9 ⟨u,rfl,rfl,hb⟩;exact⟨_,rfl,KN.of hb hg.1.base,rfl,hg.1.later hb,trivial⟩
  case refine_6=>
   have k4:(sp 4)=.int .i64 K:=(hdp 4 (mq (by kernel_rfl))).2
   with_reducible refine Ac ?_ ?_
   all_goals simp[Region.wanted,yielded,execOp,Act.eval,Act.put,go_sem,k4,hE]
  all_goals ((with_reducible refine Ac ?_ ?_);all_goals first|(simp only[Region.wanted];done)|simp[Region.wanted,yielded,execOp,Act.eval,Act.put,go_sem])
 .intro sp w7 hsp hg;have HB7:=Aa (HB.out.trans hg.1.keep.bel);clear hsp hg;simp only[Am,Nat.reduceAdd];generalize sp 2=y2,sp 3=y3,sp 4=y4 at *
  go_simp
  go_wp2;go_ret;exact⟨rfl,HB7.out⟩
theorem Lw {w:World}{b P Q G H e A:Nat}{v:Value}(h:Ay w b P Q G H)(hv:Fit e A v w)(he:e<=30000)(hk:0<A/\A<Q) :
  Calls Tryz.prog 37 #[.pointer (some ⟨b,0,none⟩),v] w fun en w'=>∃x,en=.returned (.tuple #[x,.int .i64 0])/\Fit 33 (G^A%P) x w'/\Below w.heap.size w w':=by
 obtain⟨pa,na,ca,rfl,h1,h2⟩:=Aq hv;have hbx:=Xh.mk2 w (.slice pa na ca) (.slice none 0 0);obtain⟨wa,hwa⟩:∃wa,(w.alloc (.cells #[.slice pa na ca] 36)).alloc (.cells #[.slice none 0 0] 36)=wa:=⟨_,rfl⟩
 rw[hwa]at hbx
 have HBX:=Aa hbx;have HA0:=Aa ((Fit.of h1 h2).below hbx.bel);have HGA:=Aa h;have HQ0:=Aa (Rf.of (h.below hbx.bel));have c0:=hbx.b0.cell;have HZ:=Aa (decide_eq_false (show ¬A=0 by omega));have HANS:=Aa (decide_eq_true hk.2);obtain⟨X,hX⟩:∃X,G^A%P=X:=⟨_,rfl⟩
 have HX:=Aa hX;have HLX:Ad (X<Ao 33):=⟨by rw[<-hX];exact Nat.lt_trans (Nat.mod_lt _ (by have:=h.lims.1;omega)) h.lims.2.1⟩
 rw[hX];clear hX;clear h1 h2 hbx h hv hk;go_enter Tryz.func37,Tryz.ntmps37
 go_wp2_with fail
 refine(Ar HA0.out HZ.out).mono ?_;rintro en w0 ⟨_,rfl,rfl,hb0⟩;have hx0:=HBX.out.later hb0;have HX0:=Aa hx0;have HA1:=Aa (HA0.out.below hb0);have HQ1:=Aa (HQ0.out.below hb0);clear c0 hb0;have c0:=hx0.b0.cell;clear hx0
 go_wp2_with fail
 refine(Fb HQ1.out HA1.out he).mono ?_;rintro en w1 ⟨rfl,hb1⟩;rw[HANS.out];have hx1:=HX0.out.later hb1;have HX1:=Aa hx1;have HA:=Aa (HA1.out.below hb1);have HG:=Aa (Ho.of HGA.out (Av _) hx1.bel);have HB0:Ad (w.heap.size<=w.heap.size+1):=⟨by omega⟩
 have HNE:Ad (∀x∈[((w.heap.size,.cells #[.slice pa na ca] 36 (0,0)):Nat×Obj)],x.1≠w.heap.size+1):=⟨List.forall_mem_cons.2 ⟨by simp only;omega,fun x hx=>by cases hx⟩⟩
 clear hb1 hx1 c0 hwa HBX HA0 HX0 HA1 HQ1 HQ0;go_wp2;refine Aj (by kernel_rfl) (by kernel_rfl)
  [some (.pointer (some ⟨b,0,none⟩)),some (.pointer (some ⟨b,0,none⟩)),none,some (.agg #[.slice pa na ca]),none,none,some (.int .i64 0)]
  [false,false,true,false,true,true,false] rfl
  (fun wA wB=>Al (w.heap.size) wA wB)
  (fun D sp w'=>RG (w.heap.size) w1 [(w.heap.size,.cells #[.slice pa na ca] 36 (0,0))] w'/\Lr (D 5) (w.heap.size+1) (X) w')
  (fun i v w'=>match i with
   | 2=>Fit 33 G v w'
   | 4=>Fit 33 (X) v w'
   | _=>True)
  ?_ ⟨RG.start HX1.out.bel.size (List.forall_mem_cons.2 ⟨HX1.out.b0,fun x hx=>by cases hx⟩),Lr.fresh HX1.out.b1⟩ ?_ ?_
 .intro i v wA wB hf hb;split at hf
  .exact hf.keep hb
  .exact hf.keep hb
  .trivial
 .simp only[Ax,Nat.reduceAdd];refine⟨?_,?_,?_,?_,?_,?_,?_,trivial⟩
  all_goals intro D sp w' hD hW hdp hg
  case refine_3=>
   (with_reducible refine Ab (w1:=w') (f := 42) (args:=#[.pointer (some ⟨b,0,none⟩)]) ?_ ?_ ?_)
   .simp[Region.wanted,yielded,Act.put,go_sem]
   .simp[Act.eval,Act.put,go_sem]
   .refine(Wr (HG.out.keep hg.1.keep)).mono ?_;rintro en w9 ⟨u,rfl,hu,hb⟩;exact⟨u,rfl,Al.of hb hg.1.base,hu,hg.1.later hb,by simpa [upd]using hg.2.later hb⟩
  case refine_4=>
   have c0:w'.cell? ⟨w.heap.size,0,none⟩=some (.slice pa na ca):=Ae.cell (hg.1.of List.mem_cons_self)
   with_reducible refine Ac ?_ ?_
   all_goals simp[Region.wanted,yielded,execOp,Act.eval,Act.put,go_sem,c0]
  case refine_5=>
   have k2:Fit 33 G (sp 2) w':=(hdp 2 (mq (by kernel_rfl))).2
   (with_reducible refine Ab (w1:=w') (f := 41) (args:=#[.pointer (some ⟨b,0,none⟩),sp 2,.agg #[.slice pa na ca]]) ?_ ?_ ?_)
   .simp[Region.wanted,yielded,Act.put,go_sem]
   .simp[Act.eval,Act.put,go_sem]
   .refine(Pa (HG.out.keep hg.1.keep) k2 (HA.out.keep hg.1.keep) (by decide) (by omega)).mono ?_;rintro en w9 ⟨u,rfl,hu,hb⟩;rw[HX.out]at hu
    exact⟨u,rfl,Al.of hb hg.1.base,hu,hg.1.later hb,by simpa [upd]using hg.2.later hb⟩
  case refine_6=>
   have hx:∃p n c,sp 4=.agg #[.slice p n c]/\Ag w' p n c (X)/\X<Ao (33):=(hdp 4 (mq (by kernel_rfl))).2
   (with_reducible refine Au hx fun p hx1=>Au hx1 fun n hx2=>Au hx2 fun c hx3=>?_)
   have h1:=hx3.1;have hp:=hg.2.put (hx3.2.1)
   (with_reducible refine Au hp fun q hy1=>Au hy1 fun m hy2=>Au hy2 fun k hy3=>?_)
   have h6:=hy3.1.cell;have h7:=hy3.1.free
   (with_reducible refine An (w1:=w'.setCell ⟨w.heap.size+1,0,none⟩ (.slice p n c)) ?_ ?_ ?_)
   .simp[Region.wanted,yielded,Act.put,go_sem]
   .simp[execOp,Act.eval,Act.put,go_sem,h1,h6,h7]
   .refine⟨Al.store hy3.1 HB0.out _,trivial,hg.1.store hy3.1 HB0.out HNE.out _,?_⟩;have h8:=hy3.2;simpa [upd]using h8
  all_goals ((with_reducible refine Ac ?_ ?_);all_goals first|(simp only[Region.wanted];done)|simp[Region.wanted,yielded,execOp,Act.eval,Act.put,go_sem])
 .intro sp w7 hsp hg;obtain⟨hg1,pz,nz,cz,hz1,hz2⟩:=hg;have kz:=hz1.cell;have HZ:=Aa (hz2 rfl);have HB7:=Aa (HX1.out.bel.trans hg1.keep.bel);clear hsp hg1 hz1 hz2;simp only[Am,Nat.reduceAdd];generalize sp 2=y2,sp 4=y4,sp 5=y5 at *
  go_simp
  go_wp2;exact bodyPost_ret (v:=.tuple #[.agg #[.slice pz nz cz],.int .i64 0]) (by simp[results,Tryz.results37,go_sem,kz]) rfl ⟨_,rfl,Fit.of HZ.out HLX.out,HB7.out⟩
theorem Vt {w:World}{b P Q G H e A:Nat}{v:Value}(h:Ay w b P Q G H)(hv:Fit e A v w)(he:e<=30000)(hk:¬(0<A/\A<Q)) :
  Calls Tryz.prog 37 #[.pointer (some ⟨b,0,none⟩),v] w fun en w'=>en=.returned (.tuple #[.agg #[.slice none 0 0],.int .i64 1])/\Below w.heap.size w w':=by
 obtain⟨pa,na,ca,rfl,h1,h2⟩:=Aq hv;have hbx:=Xh.mk2 w (.slice pa na ca) (.slice none 0 0);obtain⟨wa,hwa⟩:∃wa,(w.alloc (.cells #[.slice pa na ca] 36)).alloc (.cells #[.slice none 0 0] 36)=wa:=⟨_,rfl⟩
 rw[hwa]at hbx
 have HBX:=Aa hbx;have HA0:=Aa ((Fit.of h1 h2).below hbx.bel);have HGA:=Aa h;have HQ0:=Aa (Rf.of (h.below hbx.bel));have c0:=hbx.b0.cell;clear h1 h2 hbx h hv
 by_cases h0:A=0
 .have HZ:Ad _:=⟨decide_eq_true h0⟩
  clear h0 hk;go_enter Tryz.func37,Tryz.ntmps37
  go_wp2_with fail
  refine(Ar HA0.out HZ.out).mono ?_;rintro en w1 ⟨_,rfl,rfl,hb1⟩;have hx1:=HBX.out.later hb1;have hz:=hx1.b1;have kz:=hz.cell;have fz:=hz.free;have ks:=(hz.set (.slice none 0 0)).cell;have HB2:Ad (Below w.heap.size w (w1.setCell ⟨w.heap.size+1,0,none⟩ (.slice none 0 0))):=⟨hx1.bel.setCell (by simp) _⟩
  clear hb1 hx1 c0 hz;go_wp2;exact bodyPost_ret (v:=.tuple #[.agg #[.slice none 0 0],.int .i64 1]) (by simp[results,Tryz.results37,go_sem,ks]) rfl ⟨rfl,HB2.out⟩
 .have HZ:Ad _:=⟨decide_eq_false h0⟩
  have HANS:=Aa (decide_eq_false (show ¬A<Q by omega));clear h0 hk;go_enter Tryz.func37,Tryz.ntmps37
  go_wp2_with fail
  refine(Ar HA0.out HZ.out).mono ?_;rintro en w0 ⟨_,rfl,rfl,hb0⟩;have hx0:=HBX.out.later hb0;have HX0:=Aa hx0;have HA1:=Aa (HA0.out.below hb0);have HQ1:=Aa (HQ0.out.below hb0);clear c0 hb0;have c0:=hx0.b0.cell;clear hx0
  go_wp2_with fail
  refine(Fb HQ1.out HA1.out he).mono ?_;rintro en w1 ⟨rfl,hb1⟩;rw[HANS.out];have hx1:=HX0.out.later hb1;have hz:=hx1.b1;have kz:=hz.cell;have fz:=hz.free;have ks:=(hz.set (.slice none 0 0)).cell;have HB2:Ad (Below w.heap.size w (w1.setCell ⟨w.heap.size+1,0,none⟩ (.slice none 0 0))):=⟨hx1.bel.setCell (by simp) _⟩
  clear hb1 hx1 c0 hz;go_wp2;exact bodyPost_ret (v:=.tuple #[.agg #[.slice none 0 0],.int .i64 1]) (by simp[results,Tryz.results37,go_sem,ks]) rfl ⟨rfl,HB2.out⟩
end Go.Proofs.YthgoeiegdhphjaaGreatDoor
