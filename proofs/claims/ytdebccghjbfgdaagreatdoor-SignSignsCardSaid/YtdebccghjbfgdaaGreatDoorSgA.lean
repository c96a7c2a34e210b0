/- How a region stands that stores into boxes of one number alone; sign's small calls. -/
import Derived.Test.YtdebccghjbfgdaaGreatDoorEuc
import Derived.Test.YtdebccghjbfgdaaGreatDoorGqG
import Derived.BigRegion
import Derived.OwnWalkIn
import Derived.TacticsInMore
import Derived.LoopNIn
import Derived.LoopIn
import Derived.RangeFuncNested
import Derived.RangeFuncBound
import Derived.RangeFuncCalls
import Derived.RangeFuncLeaves
import Derived.OrdersIn
import Derived.Deep.Slices
import Derived.ChangeSame
import Derived.ChangeSlices
import Derived.ChangeArms
import Derived.Test.YtdebccghjbfgdaaGreatDoorGqL
set_option maxRecDepth 1000000
set_option maxHeartbeats 16000000
set_option linter.unusedSimpArgs false
set_option linter.unusedVariables false
namespace Go.Proofs.YtdebccghjbfgdaaGreatDoor
theorem inv_from {M N:Nat} (hM:2 <= M):∀ (R D O X:Nat) (neg:Bool),EuSt M N D R O X neg -> ∃ Y,IsInv M N Y:=by
 intro R
 induction R using Nat.strongRecOn with
 | _ R ih =>
  intro D O X neg h
  rcases Nat.eq_zero_or_pos R with h0 | h0
  ·subst h0
   have h1:=h.done hM
   by_cases hD:D=1
   ·exact ⟨_,h1.2 hD⟩
   ·exact ⟨0,fun hg=>absurd (h1.1.trans hg) hD,fun _=>rfl⟩
  ·exact ih (D % R) (Nat.mod_lt _ h0) _ _ _ _ (h.step h0)
theorem inv_exists {M:Nat} (hM:2 <= M) (N:Nat):∃ Y,IsInv M N Y:=inv_from hM _ _ _ _ _ (EuSt.start (M:=M) (N:=N) (by omega))
noncomputable def invQ (M N:Nat):Nat:=Classical.epsilon fun Y=>IsInv M N Y
theorem invQ_is {M:Nat} (hM:2 <= M) (N:Nat):IsInv M N (invQ M N):=Classical.epsilon_spec (inv_exists hM N)
theorem invQ_eq {M N X:Nat} (hM:2 <= M) (h:IsInv M N X):X=invQ M N:=h.uniq (invQ_is hM N)
open Go Go.RowKit Go.Proofs.YtdebccghjbfgdaaGreatDoor.Flow
theorem g_lims (i:Nat) (hi:i < 3):gP i < B32 3 /\ gQ i < B32 3 /\ gG i < B32 3:=by
 have h:=g_bounds i hi
 have h1:gP i < B32 3:=Nat.lt_of_lt_of_le h.2.2.2.2.2 (by decide)
 have h2:=gTimes_eq i hi
 refine ⟨h1,?_,by omega⟩
 rcases Nat.eq_zero_or_pos (gTimes i) with h0 | h0
 ·rw [h0,Nat.mul_zero] at h2; omega
 ·have:=Nat.le_mul_of_pos_right (gQ i) h0
  omega
theorem gChain_len:∀ i,i < 3 -> (gChain i).length <= 60
 | 0,_=>by decide
 | 1,_=>by decide
 | 2,_=>by decide
 | _ + 3,h=>by omega
theorem pow_order {P Q g:Nat} (h:g ^ Q % P=1 % P) (a:Nat):g ^ a % P=g ^ (a % Q) % P:=by
 have h1:a=Q * (a / Q) + a % Q:=(Nat.div_add_mod a Q).symm
 have h2:g ^ (Q * (a / Q)) % P=1 % P:=by
  rw [Nat.pow_mul,Nat.pow_mod,h,<- Nat.pow_mod,Nat.one_pow]
 rw [show g ^ a=g ^ (Q * (a / Q)) * g ^ (a % Q) by rw [<- Nat.pow_add,<- h1],Nat.mul_mod,h2,<- Nat.mul_mod,Nat.one_mul]
theorem pow_alike {P Q g a b:Nat} (h:g ^ Q % P=1 % P) (hab:a % Q=b % Q):g ^ a % P=g ^ b % P:=by
 rw [pow_order h a,pow_order h b,hab]
theorem idx_lt (A:Int):((IntKind.u64.wrap A) % 3).toNat < 3:=by
 have h1:=Int.emod_nonneg (IntKind.u64.wrap A) (show (3:Int) ≠ 0 by decide)
 have h2:=Int.emod_lt_of_pos (IntKind.u64.wrap A) (show (0:Int) < 3 by decide)
 omega
theorem gnew_law {w:World} {i:Nat} {x y z:Option Addr × Nat × Nat} {pc:Option Addr} {nc cc:Nat} (hi:i < 3) (hr:Tabs w) (hx:At3 w x (gP i)) (hy:At3 w y (gQ i)) (hz:At3 w z (gG i)) (hc:PSteps w 3 pc nc cc (gChain i)) :
  Calls Tryz.prog 59 #[.agg #[.slice x.1 x.2.1 x.2.2,.slice y.1 y.2.1 y.2.2,.slice z.1 z.2.1 z.2.2,.slice none 0 0],.slice pc nc cc] w fun e w' =>
   ∃ b,e=.returned (.tuple #[.pointer (some ⟨b,0,none⟩),.int .i64 0]) /\ GroupAt w' b (gP i) (gQ i) (gG i) (gH i) /\ Below w.heap.size w w':=by
 obtain ⟨l1,l2,l3⟩:=g_lims i hi
 refine (gnew_fit (e:=3) (seed:=[]) hr hx l1 hy l2 hz l3 (part_nil w) hc (by rw [hc.len]; exact gChain_len i hi) (gChain_few i hi) (by decide)).mono ?_
 rintro en w' ⟨_,h0,_,hbl⟩
 rw [newSpec_g i hi] at h0
 obtain ⟨b,rfl,hg⟩:=h0 (by decide) rfl
 exact ⟨b,rfl,hg,hbl⟩
theorem group10_calls (w:World) (A:Int) (hr:Tabs w) :
  Calls Tryz.prog 15 #[.int .i64 A,.slice none 0 0] w fun e w'=>∃ b,e=.returned (.pointer (some ⟨b,0,none⟩)) /\ GroupAt w' b (gP ((IntKind.u64.wrap A) % 3).toNat) (gQ ((IntKind.u64.wrap A) % 3).toNat) (gG ((IntKind.u64.wrap A) % 3).toNat) (gH ((IntKind.u64.wrap A) % 3).toNat) /\ Below w.heap.size w w':=by
 have HR:=hol hr
 have hi:=idx_lt A
 obtain ⟨i,ei⟩:∃ i,((IntKind.u64.wrap A) % 3).toNat=i:=⟨_,rfl⟩
 have HN:=hol (numbers_calls w A none 0 0)
 rw [ei] at hi HN ⊢
 have HI:=hol hi
 clear hr hi ei
 go_enter Tryz.func15,Tryz.ntmps15
 go_wp2_with fail
 refine HN.out.mono ?_
 rintro en w1 ⟨x,y,z,pc,nc,cc,rfl,h1,h2,h3,h4,b1⟩
 have HH:=hol (gnew_law HI.out (HR.out.below b1 HR.out.size) h1 h2 h3 h4)
 have B1:=hol b1
 clear h1 h2 h3 h4 b1 HN
 go_wp2_with fail
 refine HH.out.mono ?_
 rintro en w2 ⟨b,rfl,hg,b2⟩
 have HG:=hol hg
 have B2:=hol (bstep B1.out b2)
 clear hg b2 HH B1
 go_wp2
 go_ret
 exact ⟨b,rfl,HG.out,B2.out⟩
open Go Go.RowKit
def signW:List Nat:=[115,105,103,110]
def sigCh (P Q A Y:Nat) (msg:List Nat):Nat:=be (sha (saidOf [signW,beOf A (bsize P),beOf Y (bsize P),msg])) % Q
def drawN (Q x:Nat) (msg:List Nat):Nat:=be ((exps (beOf x (bsize Q)) msg ((64 + 31) / 32)).take 64)
def sigK (Q x:Nat) (msg:List Nat):Nat:=if drawN Q x msg % Q=0 then 1 else drawN Q x msg % Q
def sigC (P Q G x:Nat) (msg:List Nat):Nat:=sigCh P Q (G ^ sigK Q x msg % P) (G ^ x % P) msg
def sigS (P Q G x:Nat) (msg:List Nat):Nat:=(sigK Q x msg + sigC P Q G x msg * x % Q) % Q
def sigB (P Q G x:Nat) (msg:List Nat):List Nat:=beOf (sigC P Q G x msg) (bsize Q) ++ beOf (sigS P Q G x msg) (bsize Q)
noncomputable def sigA (P G y c s:Nat):Nat:=G ^ s % P * (invQ P y ^ c % P) % P
def sigIn (Q:Nat) (sig:List Nat):Prop:=sig.length=2 * bsize Q /\ be (sig.take (bsize Q)) < Q /\ be (sig.drop (bsize Q)) < Q
def sigMem (P Q y:Nat):Prop:=0 < y /\ y < P /\ y ^ Q % P=1
noncomputable def sigOk (P Q G y:Nat) (msg sig:List Nat):Prop :=
 sigIn Q sig /\ sigMem P Q y /\ sigCh P Q (sigA P G y (be (sig.take (bsize Q))) (be (sig.drop (bsize Q)))) y msg=be (sig.take (bsize Q))
theorem be_beOf {N n:Nat} (h:N < B8 n):be (beOf N n)=N:=by
 unfold be beOf
 rw [List.reverse_reverse,le_leOf,Nat.mod_eq_of_lt h]
theorem mem_gcd {P Q y:Nat} (hQ:0 < Q) (h:y ^ Q % P=1):Nat.gcd P y=1:=by
 have h1:Nat.gcd P y ∣ y ^ Q:=Nat.dvd_trans (Nat.gcd_dvd_right _ _) (Nat.dvd_trans (by rw [Nat.pow_one]; exact Nat.dvd_refl _) (Nat.pow_dvd_pow y (show 1 <= Q from hQ)))
 have h2:Nat.gcd P y ∣ P * (y ^ Q / P):=Nat.dvd_trans (Nat.gcd_dvd_left _ _) (Nat.dvd_mul_right _ _)
 have h3:=Nat.div_add_mod (y ^ Q) P
 rw [h] at h3
 have h5:y ^ Q - P * (y ^ Q / P)=1:=by omega
 have h4:Nat.gcd P y ∣ y ^ Q - P * (y ^ Q / P):=Nat.dvd_sub h1 h2
 rw [h5] at h4
 exact Nat.dvd_one.1 h4
theorem key_mem {P Q G:Nat} (hP:2 <= P) (hQ:0 < Q) (hG:G ^ Q % P=1) (x:Nat):sigMem P Q (G ^ x % P):=by
 have h1:(G ^ x % P) ^ Q % P=1:=by
  rw [<- Nat.pow_mod,<- Nat.pow_mul,Nat.mul_comm,Nat.pow_mul,Nat.pow_mod,hG,Nat.one_pow,Nat.mod_eq_of_lt (by omega)]
 refine ⟨Nat.pos_of_ne_zero fun h=>?_,Nat.mod_lt _ (by omega),h1⟩
 rw [h,Nat.zero_pow hQ,Nat.zero_mod] at h1
 omega
theorem sig_base {P Q G x k c:Nat} (hP:2 <= P) (hQ:0 < Q) (hG:G ^ Q % P=1):sigA P G (G ^ x % P) c ((k + c * x % Q) % Q)=G ^ k % P:=by
 have hG1:G ^ Q % P=1 % P:=by rw [hG,Nat.mod_eq_of_lt (by omega)]
 have hi:=(invQ_is hP (G ^ x % P)).1 (mem_gcd hQ (key_mem hP hQ hG x).2.2)
 obtain ⟨Z,hZ⟩:∃ Z,invQ P (G ^ x % P)=Z:=⟨_,rfl⟩
 unfold sigA
 rw [hZ] at hi ⊢
 have h2:G ^ ((k + c * x % Q) % Q) % P=G ^ (k + c * x) % P:=pow_alike hG1 (by rw [Nat.mod_mod,Nat.add_mod_mod])
 rw [h2,<- Nat.mul_mod,Nat.pow_add,Nat.mul_assoc,Nat.mul_comm c x,Nat.pow_mul,<- Nat.mul_pow,Nat.mul_mod,Nat.pow_mod (G ^ x * Z),Nat.mul_comm (G ^ x) Z,<- Nat.mul_mod_mod Z,hi.2,<- Nat.pow_mod,Nat.one_pow,<- Nat.mul_mod,Nat.mul_one]
theorem fix_in {Q c s:Nat} (hc:c < Q) (hs:s < Q):sigIn Q (beOf c (bsize Q) ++ beOf s (bsize Q)) /\ be ((beOf c (bsize Q) ++ beOf s (bsize Q)).take (bsize Q))=c /\ be ((beOf c (bsize Q) ++ beOf s (bsize Q)).drop (bsize Q))=s:=by
 have hl:=bsize_lt Q
 have h1:(beOf c (bsize Q) ++ beOf s (bsize Q)).take (bsize Q)=beOf c (bsize Q):=by
  rw [List.take_append_of_le_length (by rw [beOf_length]; exact Nat.le_refl _),List.take_of_length_le (by rw [beOf_length]; exact Nat.le_refl _)]
 have h2:(beOf c (bsize Q) ++ beOf s (bsize Q)).drop (bsize Q)=beOf s (bsize Q):=by
  rw [List.drop_append_of_le_length (by rw [beOf_length]; exact Nat.le_refl _),List.drop_of_length_le (by rw [beOf_length]; exact Nat.le_refl _),List.nil_append]
 have e1:be (beOf c (bsize Q))=c:=be_beOf (by omega)
 have e2:be (beOf s (bsize Q))=s:=be_beOf (by omega)
 unfold sigIn
 rw [h1,h2,e1,e2]
 exact ⟨⟨by rw [List.length_append,beOf_length,beOf_length]; omega,hc,hs⟩,rfl,rfl⟩
theorem sig_exact {P Q G x k c:Nat} {msg:List Nat} (hP:2 <= P) (hG:G ^ Q % P=1) (hc:c < Q) :
  sigOk P Q G (G ^ x % P) msg (beOf c (bsize Q) ++ beOf ((k + c * x % Q) % Q) (bsize Q)) ↔ sigCh P Q (G ^ k % P) (G ^ x % P) msg=c:=by
 have hQ:0 < Q:=by omega
 obtain ⟨h1,h2,h3⟩:=fix_in (s:=(k + c * x % Q) % Q) hc (Nat.mod_lt _ hQ)
 unfold sigOk
 rw [h2,h3,sig_base hP hQ hG]
 exact ⟨fun h=>h.2.2,fun h=>⟨h1,key_mem hP hQ hG x,h⟩⟩
theorem sigCh_lt {P Q A Y:Nat} {msg:List Nat} (hQ:0 < Q):sigCh P Q A Y msg < Q:=Nat.mod_lt _ hQ
theorem sig_back {P Q G x:Nat} {msg:List Nat} (hP:2 <= P) (hQ:0 < Q) (hG:G ^ Q % P=1):sigOk P Q G (G ^ x % P) msg (sigB P Q G x msg):=by
 unfold sigB sigS
 refine (sig_exact hP hG (sigCh_lt hQ)).2 ?_
 rfl
theorem sigB_length (P Q G x:Nat) (msg:List Nat):(sigB P Q G x msg).length=2 * bsize Q:=by
 unfold sigB
 rw [List.length_append,beOf_length,beOf_length]; omega
structure KN (B:Nat) (w w':World):Prop where
 k:Keep B w w'
 blk:∀ (g:Nat) (o:Obj),w.heap[g]? = some o -> (∀ q m d,o ≠ .cells #[.slice q m d] 36 (0,0)) -> w'.heap[g]? = some o
theorem KN.of {B:Nat} {w w':World} (h:Below w.heap.size w w') (hB:B <= w.heap.size):KN B w w':=⟨Keep.of h hB,fun g o ho _=>by rw [h.block g (Array.getElem?_eq_some_iff.1 ho).1]; exact ho⟩
theorem KN.same (B:Nat) (w:World):KN B w w:=⟨Keep.same _ _,fun _ _ h _=>h⟩
theorem KN.store {B b m d:Nat} {q:Option Addr} {w:World} (hb:NatBox w b (.slice q m d)) (hB:B <= b) (v:Value):KN B w (w.setCell ⟨b,0,none⟩ v):=⟨Keep.store hb hB v,fun g o ho hn=>by
 have hne:g ≠ b:=fun e=>by
  subst e
  unfold NatBox at hb
  rw [hb] at ho
  cases ho
  exact hn _ _ _ rfl
 simp [World.setCell,Array.getElem?_modify,hne.symm]
 exact ho⟩
theorem Fit.kn {e N B:Nat} {v:Value} {w w':World} (h:Fit e N v w) (k:KN B w w'):Fit e N v w':=h.keep k.k
theorem TupFit.kn {e N B:Nat} {t v:Value} {w w':World} (h:TupFit e N t v w) (k:KN B w w'):TupFit e N t v w':=h.keep k.k
theorem Ring.kn {B r M f:Nat} {w w':World} (h:Ring w r M f) (k:KN B w w'):Ring w' r M f:=by
 obtain ⟨p,n,c,h1,h2,h3⟩:=h.at_.ex
 exact ⟨⟨p,n,c,k.blk _ _ h1 (fun _ _ _=>by simp),k.k.nat _ _ _ _ h2,h3⟩,h.two,h.lim,h.few⟩
def QAt (Q:Nat) (v:Value) (w:World):Prop:=(∃ b P G H,v=.pointer (some ⟨b,0,none⟩) /\ GroupAt w b P Q G H) ∨ (v=.pointer none /\ Q=0)
theorem QAt.below {Q:Nat} {v:Value} {w w':World} (h:QAt Q v w) (hb:Below w.heap.size w w'):QAt Q v w':=by
 rcases h with ⟨b,P,G,H,h1,h2⟩ | h
 ·exact .inl ⟨b,P,G,H,h1,h2.below hb⟩
 ·exact .inr h
theorem QAt.of {w:World} {b P Q G H:Nat} (h:GroupAt w b P Q G H):QAt Q (.pointer (some ⟨b,0,none⟩)) w:=.inl ⟨b,P,G,H,rfl,h⟩
structure QOk (B:Nat) (w:World) (Q:Nat) (v:Value):Prop where
 ex:∃ w0,QAt Q v w0 /\ w0.heap.size <= B /\ Keep B w0 w
theorem QOk.of {B:Nat} {w w':World} {Q:Nat} {v:Value} (h:QAt Q v w) (hB:w.heap.size <= B) (k:Below w.heap.size w w') (hB2:B <= w.heap.size:=by exact Nat.le_refl _):QOk B w' Q v:=⟨w,h,hB,Keep.of k hB2⟩
theorem QOk.keep {B:Nat} {w w':World} {Q:Nat} {v:Value} (h:QOk B w Q v) (k:Keep B w w'):QAt Q v w':=by
 obtain ⟨w0,h1,h2,h3⟩:=h.ex
 rcases h1 with ⟨b,P,G,H,h4,h5⟩ | h4
 ·exact .inl ⟨b,P,G,H,h4,h5.keep h2 (h3.trans k)⟩
 ·exact .inr h4
def RQ (Q:Nat) (v:Value) (w:World):Prop:=(∃ r,v=.pointer (some ⟨r,0,none⟩) /\ Ring w r Q 33) ∨ (v=.pointer none /\ Q=0)
theorem RQ.kn {Q B:Nat} {v:Value} {w w':World} (h:RQ Q v w) (k:KN B w w'):RQ Q v w':=by
 rcases h with ⟨r,h1,h2⟩ | h
 ·exact .inl ⟨r,h1,h2.kn k⟩
 ·exact .inr h
theorem qfield_fit {w:World} {Q:Nat} {g0:Value} (h:QAt Q g0 w) :
  Calls Tryz.prog 19 #[g0] w fun en w'=>∃ x,en=.returned x /\ RQ Q x w' /\ Below w.heap.size w w':=by
 rcases h with ⟨b,P,G,H,rfl,h2⟩ | ⟨rfl,rfl⟩
 ·refine (gfield_fit h2).mono ?_
  rintro en w' ⟨r,rfl,hr,hb⟩
  exact ⟨_,rfl,.inl ⟨r,rfl,hr⟩,hb⟩
 ·refine (gfield_nil w).mono ?_
  rintro en w' ⟨rfl,hb⟩
  exact ⟨_,rfl,.inr ⟨rfl,rfl⟩,hb⟩
theorem qmod_fit {w:World} {Q:Nat} {r0:Value} (h:RQ Q r0 w) :
  Calls Tryz.prog 32 #[r0] w fun en w'=>∃ x,en=.returned x /\ Fit 33 Q x w' /\ Below w.heap.size w w':=by
 rcases h with ⟨r,rfl,h2⟩ | ⟨rfl,rfl⟩
 ·exact modulus_fit h2
 ·refine (modulus_nil w).mono ?_
  rintro en w' ⟨rfl,hb⟩
  exact ⟨_,rfl,Fit.of (NatAt.nil _) (by decide),hb⟩
theorem cmpN_neg {N M:Nat}:cmpI N M < 0 ↔ N < M:=by
 unfold cmpI
 split
 ·simp_all
 ·split <;> simp_all <;> omega
theorem blen33 {N:Nat} (h:N < B32 33):blen N <= 1056:=by
 have:=lim_blen h; omega
theorem fieldbytes_fit {w:World} {Q:Nat} {g0:Value} (h:QAt Q g0 w) :
  Calls Tryz.prog 98 #[g0] w fun en w'=>en=.returned (.int .i64 (bsize Q:Nat)) /\ Below w.heap.size w w':=by
 have HQ:=hol h
 clear h
 go_enter Tryz.func98,Tryz.ntmps98
 go_wp2_with fail
 refine (qfield_fit HQ.out).mono ?_
 rintro en w1 ⟨r0,rfl,hr,hb1⟩
 have HR:=hol hr
 have HB1:=hol hb1
 clear hr hb1
 go_wp2_with fail
 refine (qmod_fit HR.out).mono ?_
 rintro en w2 ⟨_,rfl,⟨p,n,c,rfl,h1,h2⟩,hb2⟩
 have HN:=hol h1
 have hn:n < 1000000:=by have:=h1.len_le h2; omega
 have hl:blen Q <= 1056:=blen33 h2
 have HB2:=hol (bstep HB1.out hb2)
 have HS:Hold (bsize Q=(blen Q + 7) / 8):=⟨rfl⟩
 clear h1 h2 hb2
 go_wp2_with fail
 refine (bits_calls _ p n c Q HN.out hn).mono ?_
 rintro en w3 ⟨rfl,hb3⟩
 have HB3:=hol (bstep HB2.out hb3)
 clear hb3
 obtain ⟨L,hL⟩:∃ L,blen Q=L:=⟨_,rfl⟩
 rw [hL] at hl HS
 simp only [hL]
 clear hL
 go_wp2
 go_ret
 refine ⟨?_,HB3.out⟩
 rw [HS.out]
 exact congrArg (fun z=>Ending.returned (.int .i64 z)) (by omega)
theorem size_fit {w:World} {Q:Nat} {g0:Value} (h:QAt Q g0 w) (hq:bsize Q <= 16) :
  Calls Tryz.prog 51 #[g0] w fun en w'=>en=.returned (.int .i64 (2 * bsize Q:Nat)) /\ Below w.heap.size w w':=by
 have HQ:=hol h
 clear h
 go_enter Tryz.func51,Tryz.ntmps51
 go_wp2_with fail
 refine (fieldbytes_fit HQ.out).mono ?_
 rintro en w1 ⟨rfl,hb1⟩
 have HB1:=hol hb1
 clear hb1
 obtain ⟨L,hL⟩:∃ L,bsize Q=L:=⟨_,rfl⟩
 have HL:=hol hL
 rw [hL] at hq
 simp only [hL]
 clear hL HQ
 go_wp2
 go_ret
 refine ⟨?_,HB1.out⟩
 rw [HL.out]
 show Ending.returned (.int .i64 (2 * (L:Int)))=Ending.returned (.int .i64 ((2 * L:Nat):Int))
 rw [Int.natCast_mul]; rfl
theorem isin_fit {w:World} {Q e A:Nat} {g0 v:Value} (h:QAt Q g0 w) (hv:Fit e A v w) (he:e <= 30000) :
  Calls Tryz.prog 144 #[g0,v] w fun en w'=>en=.returned (.bool (decide (A < Q))) /\ Below w.heap.size w w':=by
 obtain ⟨pa,na,ca,rfl,h1,h2⟩:=fit_cases hv
 have hb1:=NatBox.made w (.slice pa na ca)
 have hbel:Below w.heap.size w (w.alloc (.cells #[.slice pa na ca] 36)):=bal
 obtain ⟨wa,hwa⟩:∃ wa,w.alloc (.cells #[.slice pa na ca] 36)=wa:=⟨_,rfl⟩
 rw [hwa] at hb1 hbel
 have HA:=hol ((Fit.of h1 h2).below hbel)
 have HBX:=hol hb1
 have HB:=hol hbel
 have HQ:=hol (QOk.of h (Nat.le_refl _) hbel)
 obtain ⟨K,hK⟩:∃ K,cmpI A Q=K:=⟨_,rfl⟩
 have HK:=hol hK
 obtain ⟨X,hX⟩:∃ X,decide (A < Q)=X:=⟨_,rfl⟩
 have hE:decide (K < 0)=X:=by
  rw [<- hK,<- hX]
  exact decide_eq_decide.2 cmpN_neg
 rw [hX]
 clear hK hX h1 h2 hb1 hbel h hv
 go_enter Tryz.func144,Tryz.ntmps144
 go_wp2
 refine wp_region_dutiesS (by kernel_rfl) (by kernel_rfl)
  [some (.agg #[.slice pa na ca]),some (g0),none,none,none,some (.bool X),some (.bool X)]
  [false,false,true,true,true,false,false] rfl
  (fun wA wB=>KN (w.heap.size) wA wB)
  (fun D sp w'=>RG (w.heap.size) wa [(w.heap.size,.cells #[.slice pa na ca] 36 (0,0))] w' /\ True)
  (fun i v w'=>match i with
   | 2=>RQ Q v w'
   | 3=>Fit 33 Q v w'
   | 4=>v=.int .i64 K
   | _=>True)
  ?_ ⟨RG.start HB.out.size (List.forall_mem_cons.2 ⟨HBX.out,fun x hx=>by cases hx⟩),trivial⟩ ?_ ?_
 ·intro i v wA wB hf hb
  split at hf
  ·exact hf.kn hb
  ·exact hf.kn hb
  ·exact hf
  ·trivial
 ·simp only [DutiesS,Nat.reduceAdd]
  refine ⟨?_,?_,?_,?_,?_,?_,?_,trivial⟩
  all_goals intro D sp w' hD hW hdp hg
  case refine_1 =>
   have c0:w'.cell? ⟨w.heap.size,0,none⟩=some (.slice pa na ca):=NatBox.cell (hg.1.of List.mem_cons_self)
   with_reducible refine asked_pl ?_ ?_
   all_goals simp [Region.wanted,yielded,execOp,Act.eval,Act.put,go_sem,c0]
  case refine_3 =>
   (with_reducible refine asked_call (w1:=w') (f := 19) (args:=#[g0]) ?_ ?_ ?_)
   ·simp [Region.wanted,yielded,Act.put,go_sem]
   ·simp [Act.eval,Act.put,go_sem]
   ·refine (qfield_fit (HQ.out.keep hg.1.keep)).mono ?_
    rintro en w9 ⟨u,rfl,hu,hb⟩
    exact ⟨u,rfl,KN.of hb hg.1.base,hu,hg.1.later hb,trivial⟩
  case refine_4 =>
   have k2:RQ Q (sp 2) w':=(hdp 2 (mq (by kernel_rfl))).2
   (with_reducible refine asked_call (w1:=w') (f := 32) (args:=#[sp 2]) ?_ ?_ ?_)
   ·simp [Region.wanted,yielded,Act.put,go_sem]
   ·simp [Act.eval,Act.put,go_sem]
   ·refine (qmod_fit k2).mono ?_
    rintro en w9 ⟨u,rfl,hu,hb⟩
    exact ⟨u,rfl,KN.of hb hg.1.base,hu,hg.1.later hb,trivial⟩
  case refine_5 =>
   have k3:Fit 33 Q (sp 3) w':=(hdp 3 (mq (by kernel_rfl))).2
   (with_reducible refine asked_call (w1:=w') (f := 35) (args:=#[.agg #[.slice pa na ca],sp 3]) ?_ ?_ ?_)
   ·simp [Region.wanted,yielded,Act.put,go_sem]
   ·simp [Act.eval,Act.put,go_sem]
   ·refine (cmp_fitK (HA.out.keep hg.1.keep) k3 (by omega) (by decide) HK.out).mono ?_
    rintro en w9 ⟨u,rfl,rfl,hb⟩
    exact ⟨_,rfl,KN.of hb hg.1.base,rfl,hg.1.later hb,trivial⟩
  case refine_6 =>
   have k4:(sp 4)=.int .i64 K:=(hdp 4 (mq (by kernel_rfl))).2
   with_reducible refine asked_pl ?_ ?_
   all_goals simp [Region.wanted,yielded,execOp,Act.eval,Act.put,go_sem,k4,hE]
  all_goals ((with_reducible refine asked_pl ?_ ?_); all_goals first | (simp only [Region.wanted]; done) | simp [Region.wanted,yielded,execOp,Act.eval,Act.put,go_sem])
 ·intro sp w7 hsp hg
  have HB7:=hol (HB.out.trans hg.1.keep.bel)
  clear hsp hg
  simp only [frameOf,Nat.reduceAdd]
  generalize sp 2=y2,sp 3=y3,sp 4=y4 at *
  go_simp
  go_wp2
  go_ret
  exact ⟨rfl,HB7.out⟩
theorem iskey_fit {w:World} {Q e A:Nat} {g0 v:Value} (h:QAt Q g0 w) (hv:Fit e A v w) (he:e <= 30000) :
  Calls Tryz.prog 96 #[g0,v] w fun en w'=>en=.returned (.bool (decide (0 < A /\ A < Q))) /\ Below w.heap.size w w':=by
 obtain ⟨pa,na,ca,rfl,h1,h2⟩:=fit_cases hv
 have hb1:=NatBox.made w (.slice pa na ca)
 have hbel:Below w.heap.size w (w.alloc (.cells #[.slice pa na ca] 36)):=bal
 obtain ⟨wa,hwa⟩:∃ wa,w.alloc (.cells #[.slice pa na ca] 36)=wa:=⟨_,rfl⟩
 rw [hwa] at hb1 hbel
 have HA:=hol ((Fit.of h1 h2).below hbel)
 have HBX:=hol hb1
 have HB:=hol hbel
 have HQ:=hol (h.below hbel)
 have c0:=hb1.cell
 clear h1 h2 hb1 hbel h hv
 by_cases h0:A=0
 ·have HANS:Hold (decide (0 < A /\ A < Q)=false):=⟨decide_eq_false (by omega)⟩
  have HZ:=hol h0
  clear h0
  go_enter Tryz.func96,Tryz.ntmps96
  go_wp2_with fail
  refine (zero_fitB HA.out (decide_eq_true HZ.out)).mono ?_
  rintro en w1 ⟨_,rfl,rfl,hb2⟩
  have HB2:=hol (bstep HB.out hb2)
  clear hb2
  go_wp2
  go_ret
  exact ⟨by rw [HANS.out]; rfl,HB2.out⟩
 ·obtain ⟨ANS,hANS⟩:∃ X,decide (A < Q)=X:=⟨_,rfl⟩
  have HANS:Hold (decide (0 < A /\ A < Q)=ANS):=⟨by rw [<- hANS]; exact decide_eq_decide.2 ⟨fun h=>h.2,fun h=>⟨by omega,h⟩⟩⟩
  have HI:=hol hANS
  have HZ:=hol h0
  clear h0 hANS
  go_enter Tryz.func96,Tryz.ntmps96
  go_wp2_with fail
  refine (zero_fitB HA.out (decide_eq_false HZ.out)).mono ?_
  rintro en w1 ⟨_,rfl,rfl,hb2⟩
  have HA2:=hol (HA.out.below hb2)
  have HQ2:=hol (HQ.out.below hb2)
  have HB2:=hol (bstep HB.out hb2)
  have c1:=(HBX.out.below hb2 HBX.out.lt).cell
  clear hb2 c0
  go_wp2_with fail
  refine (isin_fit HQ2.out HA2.out he).mono ?_
  rintro en w2 ⟨rfl,hb3⟩
  rw [HI.out]
  have HB3:=hol (bstep HB2.out hb3)
  clear hb3 c1
  go_wp2
  go_ret
  exact ⟨by rw [HANS.out]; rfl,HB3.out⟩
theorem public_ok {w:World} {b P Q G H e A:Nat} {v:Value} (h:GroupAt w b P Q G H) (hv:Fit e A v w) (he:e <= 30000) (hk:0 < A /\ A < Q) :
  Calls Tryz.prog 48 #[.pointer (some ⟨b,0,none⟩),v] w fun en w'=>∃ x,en=.returned (.tuple #[x,.int .i64 0]) /\ Fit 33 (G ^ A % P) x w' /\ Below w.heap.size w w':=by
 obtain ⟨pa,na,ca,rfl,h1,h2⟩:=fit_cases hv
 have hbx:=NB2.mk2 w (.slice pa na ca) (.slice none 0 0)
 obtain ⟨wa,hwa⟩:∃ wa,(w.alloc (.cells #[.slice pa na ca] 36)).alloc (.cells #[.slice none 0 0] 36)=wa:=⟨_,rfl⟩
 rw [hwa] at hbx
 have HBX:=hol hbx
 have HA0:=hol ((Fit.of h1 h2).below hbx.bel)
 have HGA:=hol h
 have HK:=hol (iskey_fit (QAt.of (h.below hbx.bel)) ((Fit.of h1 h2).below hbx.bel) he)
 have c0:=hbx.b0.cell
 have HANS:=hol (decide_eq_true hk)
 obtain ⟨X,hX⟩:∃ X,G ^ A % P=X:=⟨_,rfl⟩
 have HX:=hol hX
 have HLX:Hold (X < B32 33):=⟨by rw [<- hX]; exact Nat.lt_trans (Nat.mod_lt _ (by have:=h.lims.1; omega)) h.lims.2.1⟩
 rw [hX]
 clear hX
 clear h1 h2 hbx h hv hk
 go_enter Tryz.func48,Tryz.ntmps48
 go_wp2_with fail
 refine HK.out.mono ?_
 rintro en w1 ⟨rfl,hb1⟩
 rw [HANS.out]
 have hx1:=HBX.out.later hb1
 have HX1:=hol hx1
 have HA:=hol (HA0.out.below hb1)
 have HG:=hol (GroupOk.of HGA.out (Nat.le_refl _) hx1.bel)
 have HB0:Hold (w.heap.size <= w.heap.size + 1):=⟨by omega⟩
 have HNE:Hold (∀ x ∈ [((w.heap.size,.cells #[.slice pa na ca] 36 (0,0)):Nat × Obj)],x.1 ≠ w.heap.size + 1):=⟨List.forall_mem_cons.2 ⟨by simp only; omega,fun x hx=>by cases hx⟩⟩
 clear hb1 hx1 c0 HK hwa HBX HA0
 go_wp2
 refine wp_region_dutiesS (by kernel_rfl) (by kernel_rfl)
  [some (.pointer (some ⟨b,0,none⟩)),some (.pointer (some ⟨b,0,none⟩)),none,some (.agg #[.slice pa na ca]),none,none,some (.int .i64 0)]
  [false,false,true,false,true,true,false] rfl
  (fun wA wB=>Keep (w.heap.size) wA wB)
  (fun D sp w'=>RG (w.heap.size) w1 [(w.heap.size,.cells #[.slice pa na ca] 36 (0,0))] w' /\ StB (D 5) (w.heap.size + 1) (X) w')
  (fun i v w'=>match i with
   | 2=>Fit 33 G v w'
   | 4=>Fit 33 (X) v w'
   | _=>True)
  ?_ ⟨RG.start HX1.out.bel.size (List.forall_mem_cons.2 ⟨HX1.out.b0,fun x hx=>by cases hx⟩),StB.fresh HX1.out.b1⟩ ?_ ?_
 ·intro i v wA wB hf hb
  split at hf
  ·exact hf.keep hb
  ·exact hf.keep hb
  ·trivial
 ·simp only [DutiesS,Nat.reduceAdd]
  refine ⟨?_,?_,?_,?_,?_,?_,?_,trivial⟩
  all_goals intro D sp w' hD hW hdp hg
  case refine_3 =>
   (with_reducible refine asked_call (w1:=w') (f := 40) (args:=#[.pointer (some ⟨b,0,none⟩)]) ?_ ?_ ?_)
   ·simp [Region.wanted,yielded,Act.put,go_sem]
   ·simp [Act.eval,Act.put,go_sem]
   ·refine (gG_fit (HG.out.keep hg.1.keep)).mono ?_
    rintro en w9 ⟨u,rfl,hu,hb⟩
    exact ⟨u,rfl,Keep.of hb hg.1.base,hu,hg.1.later hb,by simpa [upd] using hg.2.later hb⟩
  case refine_4 =>
   have c0:w'.cell? ⟨w.heap.size,0,none⟩=some (.slice pa na ca):=NatBox.cell (hg.1.of List.mem_cons_self)
   with_reducible refine asked_pl ?_ ?_
   all_goals simp [Region.wanted,yielded,execOp,Act.eval,Act.put,go_sem,c0]
  case refine_5 =>
   have k2:Fit 33 G (sp 2) w':=(hdp 2 (mq (by kernel_rfl))).2
   (with_reducible refine asked_call (w1:=w') (f := 39) (args:=#[.pointer (some ⟨b,0,none⟩),sp 2,.agg #[.slice pa na ca]]) ?_ ?_ ?_)
   ·simp [Region.wanted,yielded,Act.put,go_sem]
   ·simp [Act.eval,Act.put,go_sem]
   ·refine (gexp_fit (HG.out.keep hg.1.keep) k2 (HA.out.keep hg.1.keep) (by decide) (by omega)).mono ?_
    rintro en w9 ⟨u,rfl,hu,hb⟩
    rw [HX.out] at hu
    exact ⟨u,rfl,Keep.of hb hg.1.base,hu,hg.1.later hb,by simpa [upd] using hg.2.later hb⟩
  case refine_6 =>
   have hx:∃ p n c,sp 4=.agg #[.slice p n c] /\ NatAt w' p n c (X) /\ X < B32 (33):=(hdp 4 (mq (by kernel_rfl))).2
   (with_reducible refine Exists.elim hx fun p hx1=>Exists.elim hx1 fun n hx2=>Exists.elim hx2 fun c hx3=>?_)
   have h1:=hx3.1
   have hp:=hg.2.put (hx3.2.1)
   (with_reducible refine Exists.elim hp fun q hy1=>Exists.elim hy1 fun m hy2=>Exists.elim hy2 fun k hy3=>?_)
   have h6:=hy3.1.cell
   have h7:=hy3.1.free
   (with_reducible refine asked_skip (w1:=w'.setCell ⟨w.heap.size + 1,0,none⟩ (.slice p n c)) ?_ ?_ ?_)
   ·simp [Region.wanted,yielded,Act.put,go_sem]
   ·simp [execOp,Act.eval,Act.put,go_sem,h1,h6,h7]
   ·refine ⟨Keep.store hy3.1 HB0.out _,trivial,hg.1.store hy3.1 HB0.out HNE.out _,?_⟩
    have h8:=hy3.2
    simpa [upd] using h8
  all_goals ((with_reducible refine asked_pl ?_ ?_); all_goals first | (simp only [Region.wanted]; done) | simp [Region.wanted,yielded,execOp,Act.eval,Act.put,go_sem])
 ·intro sp w7 hsp hg
  obtain ⟨hg1,pz,nz,cz,hz1,hz2⟩:=hg
  have kz:=hz1.cell
  have HZ:=hol (hz2 rfl)
  have HB7:=hol (HX1.out.bel.trans hg1.keep.bel)
  clear hsp hg1 hz1 hz2
  simp only [frameOf,Nat.reduceAdd]
  generalize sp 2=y2,sp 4=y4,sp 5=y5 at *
  go_simp
  go_wp2
  exact bodyPost_ret (v:=.tuple #[.agg #[.slice pz nz cz],.int .i64 0]) (by simp [results,Tryz.results48,go_sem,kz]) rfl ⟨_,rfl,Fit.of HZ.out HLX.out,HB7.out⟩
theorem public_err {w:World} {b P Q G H e A:Nat} {v:Value} (h:GroupAt w b P Q G H) (hv:Fit e A v w) (he:e <= 30000) (hk:¬ (0 < A /\ A < Q)) :
  Calls Tryz.prog 48 #[.pointer (some ⟨b,0,none⟩),v] w fun en w'=>en=.returned (.tuple #[.agg #[.slice none 0 0],.int .i64 1]) /\ Below w.heap.size w w':=by
 obtain ⟨pa,na,ca,rfl,h1,h2⟩:=fit_cases hv
 have hbx:=NB2.mk2 w (.slice pa na ca) (.slice none 0 0)
 obtain ⟨wa,hwa⟩:∃ wa,(w.alloc (.cells #[.slice pa na ca] 36)).alloc (.cells #[.slice none 0 0] 36)=wa:=⟨_,rfl⟩
 rw [hwa] at hbx
 have HBX:=hol hbx
 have HA0:=hol ((Fit.of h1 h2).below hbx.bel)
 have HGA:=hol h
 have HK:=hol (iskey_fit (QAt.of (h.below hbx.bel)) ((Fit.of h1 h2).below hbx.bel) he)
 have c0:=hbx.b0.cell
 have HANS:=hol (decide_eq_false hk)
 clear h1 h2 hbx h hv hk
 go_enter Tryz.func48,Tryz.ntmps48
 go_wp2_with fail
 refine HK.out.mono ?_
 rintro en w1 ⟨rfl,hb1⟩
 rw [HANS.out]
 have hx1:=HBX.out.later hb1
 have HX1:=hol hx1
 have hz:=hx1.b1
 have kz:=hz.cell
 have fz:=hz.free
 have ks:=(hz.set (.slice none 0 0)).cell
 have HB2:Hold (Below w.heap.size w (w1.setCell ⟨w.heap.size + 1,0,none⟩ (.slice none 0 0))):=⟨hx1.bel.setCell (by simp) _⟩
 clear hb1 hx1 c0 hz HK
 go_wp2
 exact bodyPost_ret (v:=.tuple #[.agg #[.slice none 0 0],.int .i64 1]) (by simp [results,Tryz.results48,go_sem,ks]) rfl ⟨rfl,HB2.out⟩
end Go.Proofs.YtdebccghjbfgdaaGreatDoor
