/- The three groups of the laws, over numbers: their primes' chains hold, their bases are members, their second bases. -/
import Derived.Laws.CopyOwn
import Derived.WalkSmall
import Derived.Test.YtdebccghjbfgdaaGreatDoorRing
import Derived.Laws.OwnMore
import Derived.Lib.AppendZeros
import Derived.ArgAppend
import Derived.Deep.Cut
import Derived.KernelRfl
set_option maxRecDepth 1000000
set_option maxHeartbeats 16000000
set_option linter.unusedSimpArgs false
set_option linter.unusedVariables false
namespace Go.Proofs.YtdebccghjbfgdaaGreatDoor
open Go Go.RowKit
structure Hold (p:Prop):Prop where
 out:p
theorem hol {p:Prop} (h:p):Hold p:=⟨h⟩
structure Paused (p:Prop):Prop where
 out:p
theorem wpList_at {P:Program} {ops:Array Oper} {rest:List Oper} {a:Act} {Q:Exit -> Act -> World -> Prop} {w w':World} (h:w=w') (k:wpList P ops Q rest a w'):wpList P ops Q rest a w:=h ▸ k
structure But (g:Nat) (w w':World):Prop where
 os:w'.os=w.os
 tape:w'.tape=w.tape
 output:w'.output=w.output
 size:w.heap.size <= w'.heap.size
 block:∀ k,k < w.heap.size -> k ≠ g -> w'.heap[k]? = w.heap[k]?
theorem But.refl (g:Nat) (w:World):But g w w:=⟨rfl,rfl,rfl,Nat.le_refl _,fun _ _ _=>rfl⟩
theorem But.trans {g:Nat} {a b c:World} (h:But g a b) (k:But g b c):But g a c :=
 ⟨k.os.trans h.os,k.tape.trans h.tape,k.output.trans h.output,Nat.le_trans h.size k.size,fun i hi hn=>(k.block i (Nat.lt_of_lt_of_le hi h.size) hn).trans (h.block i hi hn)⟩
theorem But.of {g:Nat} {w w':World} (h:Below w.heap.size w w'):But g w w':=⟨h.os,h.tape,h.output,h.size,fun k hk _=>h.block k hk⟩
theorem But.below {g:Nat} {w w':World} (h:But g w w') {B:Nat} (hg:B <= g) (hB:B <= w.heap.size):Below B w w' :=
 ⟨h.os,h.tape,h.output,h.size,fun k hk=>h.block k (by omega) (by omega)⟩
theorem But.setRow {g:Nat} (w:World) (cs:Array Value):But g w (w.setRow g cs):=⟨rfl,rfl,rfl,by simp [World.setRow],fun k _ hn=>setRow_other w g k cs hn⟩
theorem But.setCell {g:Nat} (w:World) (o:Nat) (u:Value):But g w (w.setCell ⟨g,o,none⟩ u):=⟨rfl,rfl,rfl,by simp [World.setCell],fun k _ hn=>Below.heap_setCell _ _ _ _ hn⟩
theorem But.drew {g:Nat} {w w':World} (h:But g w w'):But g w w'.drew:=⟨h.os,h.tape,h.output,h.size,h.block⟩
theorem But.cell {g:Nat} {w w':World} (h:But g w w') {p:Addr} (hp:p.block < w.heap.size) (hn:p.block ≠ g):w'.cell? p=w.cell? p:=World.cell?_of_block (w:=w) (h.block p.block hp hn)
theorem calls_at {P:Program} {f:FuncId} {args:Array Value} {w w1:World} {Q:Ending -> World -> Prop} (h:w=w1) (k:Calls P f args w1 Q):Calls P f args w Q:=h ▸ k
theorem bstepS {a b c:World} (h:Below a.heap.size a b) (k:Below b.heap.size b c):Below a.heap.size a c:=h.trans (k.mono h.size)
open Go Go.RowKit Go.Proofs.YtdebccghjbfgdaaGreatDoor.Flow
theorem dpow_step (A E M i:Nat) (b:Bool) (hb:bit E i=b):A ^ (E / 2 ^ i) % M=if b then ((A ^ (E / 2 ^ (i + 1)) % M * (A ^ (E / 2 ^ (i + 1)) % M)) % M * (A % M)) % M else (A ^ (E / 2 ^ (i + 1)) % M * (A ^ (E / 2 ^ (i + 1)) % M)) % M:=by
 rw [bit_div E i,hb]
 generalize E / 2 ^ (i + 1)=q
 have e:A ^ (2 * q)=A ^ q * A ^ q:=by rw [<- Nat.pow_add]; congr 1; omega
 cases b with
 | false=>simp only [Bool.toNat_false,Nat.add_zero,Bool.false_eq_true,if_false,e,<- Nat.mul_mod]
 | true=>simp only [Bool.toNat_true,if_true,Nat.pow_succ,e,<- Nat.mul_mod]
theorem dexp_fit {w:World} {v u t:Value} {A E M:Nat} (h:RBits A v w) (k:RBits E u w) (l:RBits M t w) (hA:blen A <= 100000) (hE:blen E <= 100000) (hM:blen M <= 100000) (hM0:0 < M) :
  Calls Tryz.prog 123 #[v,u,t] w fun en w'=>∃ x,en=.returned x /\ RBits (A ^ E % M) x w' /\ Below w.heap.size w w':=by
 obtain ⟨p,n,c,rfl,h⟩:=h
 obtain ⟨q,m,d,rfl,k⟩:=k
 obtain ⟨r,s,e,rfl,l⟩:=l
 have hm:=bits_len k
 have HM:Hold (m=blen E):=⟨hm⟩
 have HA:Hold _:=⟨h⟩
 have HE:Hold _:=⟨k⟩
 have HL:Hold _:=⟨l⟩
 have hmm:m <= 100000:=by omega
 have hblm:Hold (∀ x,blen (x % M) <= 100000):=⟨fun x=>Nat.le_trans (blen_mono (Nat.le_of_lt (Nat.mod_lt x hM0))) hM⟩
 clear h k l hm
 go_enter Tryz.func123,Tryz.ntmps123
 go_wp2_with fail
 refine (small_calls 1 w (by decide)).mono ?_
 rintro en w1 ⟨p1,n1,c1,rfl,hn1,hb1,_⟩
 have HL1:Hold _:=⟨HL.out.below hb1⟩
 go_wp2_with fail
 refine (dof_fit (RBits.of hn1) (RBits.of HL1.out) (by have:blen 1 <= 1:=(blen_le 1 1).2 (by decide); omega) (by omega) hM0).mono ?_
 rintro en w2 ⟨x2,rfl,hx2,hb2⟩
 have HX2:Hold _:=⟨hx2⟩
 have HB2:Hold _:=⟨bstep hb1 hb2⟩
 clear hn1 hb1 hx2 hb2
 go_wp2_with fail
 refine (dof_fit (RBits.of (HA.out.below HB2.out)) (RBits.of (HL.out.below HB2.out)) (by omega) (by omega) hM0).mono ?_
 rintro en w3 ⟨x3,rfl,hx3,hb3⟩
 have HX3:Hold _:=⟨hx3⟩
 have HX2':Hold _:=⟨HX2.out.below hb3⟩
 have HB3:Hold _:=⟨bstep HB2.out hb3⟩
 clear hx3 hb3
 go_wp2
 go_loopw [7,8] (fun rv iv wr=>∃ j:Nat,j <= m /\ iv=.int .i64 ((j:Int) - 1) /\ Hold (RBits (A ^ (E / 2 ^ j) % M) rv wr) /\ Hold (Below w3.heap.size w3 wr)) (fun _ iv _=>(intOf iv + 1).toNat)
 case atStart =>
  refine ⟨m,Nat.le_refl _,rfl,⟨?_⟩,⟨Below.refl _ _⟩⟩
  rw [HM.out,Nat.div_eq_of_lt (blen_lt E),Nat.pow_zero]
  exact HX2'.out
 case round =>
  obtain ⟨j,hj,rfl,HR,HBr⟩:=hrel
  cases j with
  | zero =>
   have HR0:Hold (RBits (A ^ E % M) u7 wr):=⟨by have:=HR.out; rwa [Nat.pow_zero,Nat.div_one] at this⟩
   go_wp2
   go_ret
   exact ⟨_,rfl,HR0.out,bstep HB3.out HBr.out⟩
  | succ j =>
   have e1:(((j + 1:Nat):Int) - 1)=(j:Int):=by omega
   simp only [e1]
   have HBr3:Hold _:=⟨bstep HB3.out HBr.out⟩
   have HEr:Hold _:=⟨HE.out.below HBr3.out⟩
   have HLr:Hold _:=⟨HL.out.below HBr3.out⟩
   have HS:Hold _:=⟨fun b hb=>dpow_step A E M j b hb⟩
   clear e1
   go_wp2_with fail
   refine (dmul_fit HR.out HR.out (RBits.of HLr.out) (hblm.out _) (hblm.out _) (by omega) hM0).mono ?_
   rintro en w4 ⟨x4,rfl,hx4,hb4⟩
   have HE4:Hold _:=⟨HEr.out.below hb4⟩
   obtain ⟨b,off,rfl,hbs,hc⟩:=BRow.pos HE4.out (by omega)
   obtain ⟨B,hB⟩:∃ B,bit E j=B:=⟨_,rfl⟩
   have hcj:=hc j B (by rw [<- hB]; exact bitsOf_get (by rw [<- HM.out]; omega))
   have HX4:Hold _:=⟨hx4⟩
   have HB4:Hold _:=⟨HBr.out.trans (hb4.mono HBr.out.size)⟩
   have HPS:=HS.out B hB
   have HX34:Hold _:=⟨(HX3.out.below HBr.out).below hb4⟩
   have HL4:Hold _:=⟨HLr.out.below hb4⟩
   have HP:Hold _:=⟨HPS⟩
   clear hx4 hb4 hc hB HPS
   cases B with
   | false =>
    go_wp2
    go_roundw
    case rel=>exact ⟨j,by omega,rfl,⟨by rw [HP.out,if_neg (by simp)]; exact HX4.out⟩,HB4⟩
    case measure=>simp [intOf]
   | true =>
    go_wp2_with fail
    refine (dmul_fit HX4.out HX34.out (RBits.of HL4.out) (hblm.out _) (hblm.out _) (by omega) hM0).mono ?_
    rintro en w5 ⟨x5,rfl,hx5,hb5⟩
    have HX5:Hold _:=⟨hx5⟩
    have HB5:Hold _:=⟨HB4.out.trans (hb5.mono HB4.out.size)⟩
    clear hx5 hb5
    go_wp2
    go_roundw
    case rel=>exact ⟨j,by omega,rfl,⟨by rw [HP.out,if_pos trivial]; exact HX5.out⟩,HB5⟩
    case measure=>simp [intOf]
def pm (a n:Nat):Nat -> Nat -> Nat
 | 0,_=>1 % n
 | f + 1,e=>if e=0 then 1 % n else
  let h:=pm a n f (e / 2)
  if e % 2=1 then h * h % n * a % n else h * h % n
theorem pm_eq (a n:Nat):∀ f e,e < 2 ^ f -> pm a n f e=a ^ e % n
 | 0,e,h=>by
  have:e=0:=by simp at h; omega
  subst this
  rw [pm,Nat.pow_zero]
 | f + 1,e,h=>by
  unfold pm
  split
  ·rename_i h0; rw [h0,Nat.pow_zero]
  ·have ih:=pm_eq a n f (e / 2) (by rw [Nat.pow_succ] at h; omega)
   have e2:a ^ (2 * (e / 2))=a ^ (e / 2) * a ^ (e / 2):=by rw [<- Nat.pow_add]; congr 1; omega
   simp only [ih]
   split
   ·rename_i h1
    have:e=2 * (e / 2) + 1:=by omega
    conv=>rhs; rw [this,Nat.pow_succ,e2]
    simp [Nat.mul_mod]
   ·rename_i h1
    have:e=2 * (e / 2):=by omega
    conv=>rhs; rw [this,e2]
    rw [<- Nat.mul_mod]
theorem asked_not {P:Program} {o:Oper} {ops:Array Oper} {a:Act} {w:World} {K:Value -> World -> Prop}
  (hw:Region.wanted o (yielded ops a.tmps)=false) (hk:K undef w):asked P o ops a w K:=by
 unfold asked
 rw [if_neg (by rw [hw]; exact Bool.false_ne_true)]
 exact hk
structure PList (w:World) (e:Nat) (p:Option Addr) (n c:Nat) (Ns:List Nat):Prop where
 len:n=Ns.length
 cap:n <= c
 max:c <= 9223372036854775807
 nil:p=none -> c=0
 at_:0 < n -> ∃ b off,p=some ⟨b,off,none⟩ /\ b < w.heap.size /\ ∀ i N,Ns[i]? = some N -> ∃ q m d,w.cell? ⟨b,off + i,none⟩=some (.slice q m d) /\ NatAt w q m d N /\ N < B32 e
theorem PList.below {w w':World} {e:Nat} {p:Option Addr} {n c:Nat} {Ns:List Nat} (h:PList w e p n c Ns) (hb:Below w.heap.size w w'):PList w' e p n c Ns:=by
 refine ⟨h.len,h.cap,h.max,h.nil,fun h0=>?_⟩
 obtain ⟨b,off,h1,h2,h3⟩:=h.at_ h0
 refine ⟨b,off,h1,Nat.lt_of_lt_of_le h2 hb.size,fun i N hN=>?_⟩
 obtain ⟨q,m,d,h4,h5,h6⟩:=h3 i N hN
 exact ⟨q,m,d,by rw [hb.cell (p:=⟨b,off + i,none⟩) h2]; exact h4,h5.below hb,h6⟩
structure PSteps (w:World) (e:Nat) (p:Option Addr) (n c:Nat) (l:List StepN):Prop where
 len:n=l.length
 cap:n <= c
 max:c <= 9223372036854775807
 nil:p=none -> c=0
 at_:0 < n -> ∃ b off,p=some ⟨b,off,none⟩ /\ b < w.heap.size /\ ∀ i s,l[i]? = some s -> ∃ q0 m0 d0 q1 m1 d1 q2 m2 d2,
  w.cell? ⟨b,off + i * 3,none⟩=some (.slice q0 m0 d0) /\ w.cell? ⟨b,off + i * 3 + 1,none⟩=some (.slice q1 m1 d1) /\ w.cell? ⟨b,off + i * 3 + 2,none⟩=some (.slice q2 m2 d2) /\
  NatAt w q0 m0 d0 s.n /\ s.n < B32 e /\ NatAt w q1 m1 d1 s.base /\ s.base < B32 e /\ PList w e q2 m2 d2 s.ps
theorem PSteps.below {w w':World} {e:Nat} {p:Option Addr} {n c:Nat} {l:List StepN} (h:PSteps w e p n c l) (hb:Below w.heap.size w w'):PSteps w' e p n c l:=by
 refine ⟨h.len,h.cap,h.max,h.nil,fun h0=>?_⟩
 obtain ⟨b,off,h1,h2,h3⟩:=h.at_ h0
 refine ⟨b,off,h1,Nat.lt_of_lt_of_le h2 hb.size,fun i s hs=>?_⟩
 obtain ⟨q0,m0,d0,q1,m1,d1,q2,m2,d2,k0,k1,k2,k3,k4,k5,k6,k7⟩:=h3 i s hs
 have hc:∀ o,w'.cell? ⟨b,o,none⟩=w.cell? ⟨b,o,none⟩:=fun o=>hb.cell (p:=⟨b,o,none⟩) h2
 exact ⟨q0,m0,d0,q1,m1,d1,q2,m2,d2,by rw [hc]; exact k0,by rw [hc]; exact k1,by rw [hc]; exact k2,k3.below hb,k4,k5.below hb,k6,k7.below hb⟩
def TooLong (s:StepN):Prop:=1024 < blen s.n ∨ 1024 < blen s.base ∨ ∃ p ∈ s.ps,1024 < blen p
open Classical in
def SmallDoes:Prop:=∀ (w:World) (N e:Nat) (v:Value),Fit e N v w -> e <= 200 ->
 Calls Tryz.prog 156 #[v] w fun en w'=>en=.returned (.bool (decide (SmallP N))) /\ Below w.heap.size w w'
open Classical in
theorem small_does:SmallDoes:=by
 intro w N e v hv he
 obtain ⟨p,n,c,rfl,h1,h2⟩:=hv
 have hn:n < 1000000:=by have:=h1.len_le h2; omega
 have hbx:=Box1.mk1 w (.slice p n c) 36
 have H1:Hold _:=⟨h1.below hbx.bel⟩
 have HBX:Hold _:=⟨hbx.bel⟩
 clear h1 h2 hbx
 by_cases hb:blen N <= 64
 ·by_cases hlow:N < 2
  ·have hno:Hold (decide (SmallP N)=false):=⟨decide_eq_false fun hs=>by have:=hs.1; omega⟩
   have hlow':(N:Int) < 2:=by omega
   have HB:Hold _:=⟨hb⟩
   clear hb hlow
   go_enter Tryz.func156,Tryz.ntmps156
   go_wp2_with fail
   refine (uint_calls _ p n c N H1.out hn).mono ?_
   rintro en w1 ⟨rfl,hb1⟩
   rw [if_pos HB.out,decide_eq_true HB.out]
   have HB1:Hold _:=⟨bstep HBX.out hb1⟩
   clear hb1
   go_wp2
   go_ret
   exact ⟨by rw [hno.out]; rfl,HB1.out⟩
  ·by_cases hhigh:65536 <= N
   ·have hno:Hold (decide (SmallP N)=false):=⟨decide_eq_false fun hs=>by have:=hs.2.1; omega⟩
    have hlow':¬ (N:Int) < 2:=by omega
    have hhigh':(65536:Int) <= N:=by omega
    obtain ⟨K,hgK⟩:∃ K:Int,(65536:Int)=K:=⟨_,rfl⟩
    rw [hgK] at hhigh'
    have HB:Hold _:=⟨hb⟩
    clear hb hlow hhigh
    go_enter Tryz.func156,Tryz.ntmps156
    go_wp2_with fail
    refine (uint_calls _ p n c N H1.out hn).mono ?_
    rintro en w1 ⟨rfl,hb1⟩
    rw [if_pos HB.out,decide_eq_true HB.out]
    have HB1:Hold _:=⟨bstep HBX.out hb1⟩
    clear hb1
    go_upto_region 2 with fail
    rw [hgK]
    clear hgK
    go_wp2
    go_ret
    exact ⟨by rw [hno.out]; rfl,HB1.out⟩
   ·have hlow':¬ (N:Int) < 2:=by omega
    have hhigh':¬ (65536:Int) <= N:=by omega
    have HLT:Hold (N < 65536):=⟨by omega⟩
    have H2:Hold (2 <= N):=⟨by omega⟩
    obtain ⟨K,hgK⟩:∃ K:Int,(65536:Int)=K:=⟨_,rfl⟩
    rw [hgK] at hhigh'
    have HB:Hold _:=⟨hb⟩
    clear hb hlow hhigh
    go_enter Tryz.func156,Tryz.ntmps156
    go_wp2_with fail
    refine (uint_calls _ p n c N H1.out hn).mono ?_
    rintro en w1 ⟨rfl,hb1⟩
    rw [if_pos HB.out,decide_eq_true HB.out]
    have HB1:Hold _:=⟨bstep HBX.out hb1⟩
    clear hb1
    go_upto_region 2 with fail
    rw [hgK]
    clear hgK
    go_wp2
    go_loopw [5] (fun dv wr=>w1=wr /\ ∃ d:Nat,2 <= d /\ d <= 256 /\ dv=.int .u64 d /\ Hold (∀ e,2 <= e -> e < d -> N % e ≠ 0)) (fun dv _=>300 - (intOf dv).toNat)
    case atStart=>exact ⟨rfl,2,by omega,by omega,rfl,⟨fun e h1 h2=>by omega⟩⟩
    case round =>
     obtain ⟨rfl,d,hd2,hd,rfl,HD⟩:=hrel
     obtain ⟨S,hS⟩:∃ S,d * d=S:=⟨_,rfl⟩
     have hS':(d:Int) * d=(S:Nat):=by rw [<- hS]; simp
     have hSl:S <= 65536:=by rw [<- hS]; exact Nat.mul_le_mul hd hd
     have HSl:Hold _:=⟨hSl⟩
     have hSw:IntKind.u64.wrap ((S:Nat):Int)=S:=IntWalk.u64_in _ ⟨by omega,by omega⟩
     clear hSl
     by_cases hdd:S <= N
     ·have hdlt:d < 256:=Nat.lt_of_not_le fun hge=>by
       have:=Nat.mul_le_mul hge hge
       have:=HLT.out
       omega
      have hmod:(N:Int).tmod d=((N % d:Nat):Int):=by rw [Int.tmod_eq_emod_of_nonneg (by omega)]; simp
      obtain ⟨R,hR⟩:∃ R,N % d=R:=⟨_,rfl⟩
      rw [hR] at hmod
      have hd0:¬ (d:Int)=0:=by omega
      have hdd':(S:Int) <= N:=by omega
      rcases Nat.eq_zero_or_pos R with h0 | h0
      ·have hno:Hold (decide (SmallP N)=false):=⟨decide_eq_false fun hs=>hs.2.2 d hd2 (by omega) (by omega)⟩
       subst h0
       have hS2:=Lib.hid hS
       have hR2:=Lib.hid hR
       clear hS hR
       go_wp2
       go_ret
       exact ⟨by rw [hno.out]; rfl,HB1.out⟩
      ·have hR0:((R:Int) == 0)=false:=by rw [beq_eq_false_iff_ne]; omega
       have HD':Hold (∀ e,2 <= e -> e < d + 1 -> N % e ≠ 0):=⟨fun e h1 h2=>by
        rcases (by omega:e < d ∨ e=d) with h3 | rfl
        ·exact HD.out e h1 h3
        ·omega⟩
       have hS2:=Lib.hid hS
       have hR2:=Lib.hid hR
       clear hS hR
       go_wp2
       go_roundw
       case rel=>exact ⟨trivial,d + 1,by omega,by omega,by go_num,HD'⟩
       case measure=>simp [intOf]; omega
     ·have hdd':¬ (S:Int) <= N:=by omega
      have hyes:Hold (decide (SmallP N)=true):=⟨decide_eq_true ⟨H2.out,HLT.out,fun e h1 h2=>HD.out e h1 (Nat.lt_of_not_le fun hge=>by
       have:=Nat.mul_le_mul hge hge
       omega)⟩⟩
      have hS2:=Lib.hid hS
      clear hS
      go_wp2
      go_ret
      exact ⟨by rw [hyes.out]; rfl,HB1.out⟩
 ·have hno:Hold (decide (SmallP N)=false):=⟨decide_eq_false fun hs=>hb ((blen_le N 64).2 (Nat.lt_trans hs.2.1 (by decide)))⟩
  have HB:Hold _:=⟨hb⟩
  clear hb
  go_enter Tryz.func156,Tryz.ntmps156
  go_wp2_with fail
  refine (uint_calls _ p n c N H1.out hn).mono ?_
  rintro en w1 ⟨rfl,hb1⟩
  rw [if_neg HB.out,decide_eq_false HB.out]
  have HB1:Hold _:=⟨bstep HBX.out hb1⟩
  clear hb1
  go_wp2
  go_ret
  exact ⟨by rw [hno.out]; rfl,HB1.out⟩
open Go
def rr (x n:Nat):Nat:=x * 2 ^ (32 - n) % 4294967296 ||| x / 2 ^ n
def add32 (x y:Nat):Nat:=(x + y) % 4294967296
def sm0 (x:Nat):Nat:=rr x 7 ^^^ rr x 18 ^^^ x / 8
def sm1 (x:Nat):Nat:=rr x 17 ^^^ rr x 19 ^^^ x / 1024
def bs0 (x:Nat):Nat:=rr x 2 ^^^ rr x 13 ^^^ rr x 22
def bs1 (x:Nat):Nat:=rr x 6 ^^^ rr x 11 ^^^ rr x 25
def ch (e f g:Nat):Nat:=e &&& f ^^^ (4294967295 - e) &&& g
def maj (a b c:Nat):Nat:=a &&& b ^^^ a &&& c ^^^ b &&& c
theorem rr_lt {x n:Nat} (hx:x < 4294967296):rr x n < 4294967296:=by
 unfold rr
 exact Nat.or_lt_two_pow (n:=32) (Nat.mod_lt _ (by omega)) (Nat.lt_of_le_of_lt (Nat.div_le_self _ _) hx)
theorem add32_lt (x y:Nat):add32 x y < 4294967296:=Nat.mod_lt _ (by omega)
theorem xor_lt32 {x y:Nat} (hx:x < 4294967296) (hy:y < 4294967296):x ^^^ y < 4294967296:=Nat.xor_lt_two_pow (n:=32) hx hy
theorem and_lt32 {x y:Nat} (hy:y < 4294967296):x &&& y < 4294967296:=Nat.and_lt_two_pow (n:=32) _ hy
theorem or_lt32 {x y:Nat} (hx:x < 4294967296) (hy:y < 4294967296):x ||| y < 4294967296:=Nat.or_lt_two_pow (n:=32) hx hy
def wnext (ws:List Nat) (t:Nat):Nat:=add32 (add32 (add32 (sm1 (ws.getD (t - 2) 0)) (ws.getD (t - 7) 0)) (sm0 (ws.getD (t - 15) 0))) (ws.getD (t - 16) 0)
def wfirst (m:List Nat) (t:Nat):Nat:=m.getD (4 * t) 0 * 16777216 ||| m.getD (4 * t + 1) 0 * 65536 ||| m.getD (4 * t + 2) 0 * 256 ||| m.getD (4 * t + 3) 0
def wlist (m:List Nat):Nat -> List Nat
 | 0=>[]
 | t + 1=>wlist m t ++ [if t < 16 then wfirst m t else wnext (wlist m t) t]
theorem wlist_length (m:List Nat) (t:Nat):(wlist m t).length=t:=by
 induction t with
 | zero=>rfl
 | succ t ih=>simp [wlist,ih]
theorem wfirst_lt {m:List Nat} (hm:Bytes8 m) (t:Nat):wfirst m t < 4294967296:=by
 have h0:=hm.get (4 * t); have h1:=hm.get (4 * t + 1); have h2:=hm.get (4 * t + 2); have h3:=hm.get (4 * t + 3)
 unfold wfirst
 exact or_lt32 (or_lt32 (or_lt32 (by omega) (by omega)) (by omega)) (by omega)
theorem wlist_words {m:List Nat} (hm:Bytes8 m) (t:Nat):Words (wlist m t):=by
 induction t with
 | zero=>exact Words.nil
 | succ t ih =>
  refine ih.snoc ?_
  split
  ·exact wfirst_lt hm t
  ·exact add32_lt _ _
structure St where
 a:Nat
 b:Nat
 c:Nat
 d:Nat
 e:Nat
 f:Nat
 g:Nat
 h:Nat
def St.ok (s:St):Prop:=s.a < 4294967296 /\ s.b < 4294967296 /\ s.c < 4294967296 /\ s.d < 4294967296 /\ s.e < 4294967296 /\ s.f < 4294967296 /\ s.g < 4294967296 /\ s.h < 4294967296
def St.list (s:St):List Nat:=[s.a,s.b,s.c,s.d,s.e,s.f,s.g,s.h]
def St.of (l:List Nat):St:=⟨l.getD 0 0,l.getD 1 0,l.getD 2 0,l.getD 3 0,l.getD 4 0,l.getD 5 0,l.getD 6 0,l.getD 7 0⟩
def tone (s:St) (k w:Nat):Nat:=add32 (add32 (add32 (add32 s.h (bs1 s.e)) (ch s.e s.f s.g)) k) w
def ttwo (s:St):Nat:=add32 (bs0 s.a) (maj s.a s.b s.c)
def rnd (s:St) (k w:Nat):St:=⟨add32 (tone s k w) (ttwo s),s.a,s.b,s.c,add32 s.d (tone s k w),s.e,s.f,s.g⟩
def rnds (K W:List Nat) (s:St):Nat -> St
 | 0=>s
 | t + 1=>rnd (rnds K W s t) (K.getD t 0) (W.getD t 0)
theorem rnd_ok {s:St} (h:s.ok) (k w:Nat):(rnd s k w).ok:=by
 obtain ⟨h1,h2,h3,h4,h5,h6,h7,h8⟩:=h
 exact ⟨add32_lt _ _,h1,h2,h3,add32_lt _ _,h5,h6,h7⟩
theorem rnds_ok {K W:List Nat} {s:St} (h:s.ok):∀ t,(rnds K W s t).ok
 | 0=>h
 | t + 1=>rnd_ok (rnds_ok h t) _ _
theorem St.of_ok {l:List Nat} (h:Words l):(St.of l).ok:=⟨h.get _,h.get _,h.get _,h.get _,h.get _,h.get _,h.get _,h.get _⟩
theorem St.list_of {l:List Nat} (h:l.length=8):(St.of l).list=l:=by
 match l,h with
 | [a,b,c,d,e,f,g,x],_=>rfl
theorem St.list_words {s:St} (h:s.ok):Words s.list:=by
 obtain ⟨h1,h2,h3,h4,h5,h6,h7,h8⟩:=h
 intro x hx
 simp only [St.list,List.mem_cons,List.not_mem_nil,or_false] at hx
 rcases hx with rfl | rfl | rfl | rfl | rfl | rfl | rfl | rfl <;> assumption
def sadd (H G:List Nat):List Nat:=List.zipWith add32 H G
def kays:List Nat:=[1116352408,1899447441,3049323471,3921009573,961987163,1508970993,2453635748,2870763221,3624381080,310598401,607225278,1426881987,1925078388,2162078206,2614888103,3248222580,3835390401,4022224774,264347078,604807628,770255983,1249150122,1555081692,1996064986,2554220882,2821834349,2952996808,3210313671,3336571891,3584528711,113926993,338241895,666307205,773529912,1294757372,1396182291,1695183700,1986661051,2177026350,2456956037,2730485921,2820302411,3259730800,3345764771,3516065817,3600352804,4094571909,275423344,430227734,506948616,659060556,883997877,958139571,1322822218,1537002063,1747873779,1955562222,2024104815,2227730452,2361852424,2428436474,2756734187,3204031479,3329325298]
def hnull:List Nat:=[1779033703,3144134277,1013904242,2773480762,1359893119,2600822924,528734635,1541459225]
theorem kays_length:kays.length=64:=by kernel_rfl
theorem hnull_length:hnull.length=8:=rfl
theorem hnull_words:Words hnull:=by
 have:hnull.all (fun x=>decide (x < 4294967296))=true:=by kernel_rfl
 intro x hx
 exact of_decide_eq_true (List.all_eq_true.1 this x hx)
theorem kays_words:Words kays:=by
 have:kays.all (fun x=>decide (x < 4294967296))=true:=by kernel_rfl
 intro x hx
 exact of_decide_eq_true (List.all_eq_true.1 this x hx)
def comp (H m:List Nat):List Nat:=sadd H (rnds kays (wlist m 64) (St.of H) 64).list
theorem comp_length {H m:List Nat} (h:H.length=8):(comp H m).length=8:=by simp [comp,sadd,St.list,h]
theorem comp_words (H m:List Nat):Words (comp H m):=by
 intro x hx
 unfold comp sadd at hx
 rw [List.mem_iff_getElem] at hx
 obtain ⟨i,hi,rfl⟩:=hx
 rw [List.getElem_zipWith]
 exact add32_lt _ _
def blocks (m:List Nat):Nat -> List Nat
 | 0=>hnull
 | n + 1=>comp (blocks m n) ((m.drop (64 * n)).take 64)
theorem blocks_length (m:List Nat):∀ n,(blocks m n).length=8
 | 0=>rfl
 | n + 1=>comp_length (blocks_length m n)
theorem blocks_words (m:List Nat):∀ n,Words (blocks m n)
 | 0=>hnull_words
 | _ + 1=>comp_words _ _
theorem blocks_append {m b:List Nat}:∀ {n:Nat},64 * n <= m.length -> blocks (m ++ b) n=blocks m n
 | 0,_=>rfl
 | n + 1,h=>by
  rw [blocks,blocks,blocks_append (by omega),List.drop_append_of_le_length (by omega),List.take_append_of_le_length (by simp; omega)]
def be8 (N:Nat):List Nat:=(List.range 8).map fun i=>N / 2 ^ (8 * (7 - i)) % 256
def noughts (n:Nat):Nat:=(119 - n % 64) % 64
def behind (n:Nat):List Nat:=128 :: (List.replicate (noughts n) 0 ++ be8 (n * 8 % 18446744073709551616))
def wbytes (x:Nat):List Nat:=[x / 16777216 % 256,x / 65536 % 256,x / 256 % 256,x % 256]
def sha (m:List Nat):List Nat:=(blocks (m ++ behind m.length) ((m.length + (behind m.length).length) / 64)).flatMap wbytes
theorem be8_length (N:Nat):(be8 N).length=8:=by simp [be8]
theorem behind_length (n:Nat):(behind n).length=noughts n + 9:=by simp [behind,be8_length]
theorem behind_all (n:Nat):(n + (behind n).length) % 64=0:=by rw [behind_length]; unfold noughts; omega
theorem be8_bytes (N:Nat):Bytes8 (be8 N):=by
 intro x hx
 simp only [be8,List.mem_map] at hx
 obtain ⟨i,_,rfl⟩:=hx
 exact Nat.mod_lt _ (by omega)
theorem behind_bytes (n:Nat):Bytes8 (behind n):=by
 intro x hx
 simp only [behind,List.mem_cons,List.mem_append,List.mem_replicate] at hx
 rcases hx with rfl | ⟨_,rfl⟩ | hx
 ·omega
 ·omega
 ·exact be8_bytes _ x hx
theorem sha_length (m:List Nat):(sha m).length=32:=by
 have h:=blocks_length (m ++ behind m.length) ((m.length + (behind m.length).length) / 64)
 unfold sha
 generalize blocks (m ++ behind m.length) ((m.length + (behind m.length).length) / 64)=l at h
 match l,h with
 | [a,b,c,d,e,f,g,x],_=>rfl
theorem sha_bytes (m:List Nat):Bytes8 (sha m):=by
 intro x hx
 unfold sha at hx
 rw [List.mem_flatMap] at hx
 obtain ⟨y,_,hy⟩:=hx
 simp only [wbytes,List.mem_cons,List.not_mem_nil,or_false] at hy
 omega
def kkey (key:List Nat):List Nat:=if 64 < key.length then sha key else key
def kblock (key:List Nat):List Nat:=kkey key ++ List.replicate (64 - (kkey key).length) 0
def masked (b:List Nat) (x:Nat):List Nat:=b.map (· ^^^ x)
def ipad (key:List Nat):List Nat:=masked (kblock key) 54
def opad (key:List Nat):List Nat:=masked (kblock key) 92
def tagged (key m:List Nat):List Nat:=opad key ++ sha (ipad key ++ m)
def hmac (key m:List Nat):List Nat:=sha (tagged key m)
theorem kkey_length (key:List Nat):(kkey key).length <= 64:=by
 unfold kkey
 split
 ·rw [sha_length]; omega
 ·omega
theorem kblock_length (key:List Nat):(kblock key).length=64:=by have:=kkey_length key; simp [kblock]; omega
theorem kkey_bytes {key:List Nat} (h:Bytes8 key):Bytes8 (kkey key):=by
 unfold kkey
 split
 ·exact sha_bytes _
 ·exact h
theorem kblock_bytes {key:List Nat} (h:Bytes8 key):Bytes8 (kblock key):=by
 intro x hx
 rcases List.mem_append.1 hx with h1 | h1
 ·exact kkey_bytes h x h1
 ·have:=(List.mem_replicate.1 h1).2; omega
theorem masked_length (b:List Nat) (x:Nat):(masked b x).length=b.length:=by simp [masked]
theorem masked_bytes {b:List Nat} (h:Bytes8 b) {x:Nat} (hx:x < 256):Bytes8 (masked b x):=by
 intro y hy
 obtain ⟨z,hz,rfl⟩:=List.mem_map.1 hy
 exact Nat.xor_lt_two_pow (n:=8) (h z hz) hx
theorem hmac_length (key m:List Nat):(hmac key m).length=32:=sha_length _
theorem hmac_bytes (key m:List Nat):Bytes8 (hmac key m):=sha_bytes _
def smallB (p:Nat):Bool:=decide (2 <= p) && decide (p < 65536) && (List.range 256).all fun d=>decide (d < 2) || decide (p < d * d) || !(p % d == 0)
theorem smallB_spec {p:Nat} (h:smallB p=true):SmallP p:=by
 simp only [smallB,Bool.and_eq_true,decide_eq_true_eq,List.all_eq_true,Bool.or_eq_true,Bool.not_eq_true',beq_eq_false_iff_ne] at h
 obtain ⟨⟨h2,hlt⟩,h⟩:=h
 refine ⟨h2,hlt,fun d h3 h4=>?_⟩
 have hd:d < 256:=Nat.lt_of_not_le fun hle=>by have:=Nat.mul_le_mul hle hle; omega
 rcases h d (List.mem_range.2 hd) with (h5 | h5) | h5
 ·omega
 ·omega
 ·exact h5
theorem pw_fuel {p:Nat} (hp:2 <= p):∀ (f n:Nat),0 < n -> n < 2 ^ f -> pw p f n=pw p n n
 | 0,n,h0,h=>by simp at h; omega
 | f + 1,n,h0,h=>by
  rw [pw_step hp h0,pw]
  split
  ·rename_i hm
   have h4:0 < n / p:=Nat.div_pos (Nat.le_of_dvd h0 (Nat.dvd_of_mod_eq_zero hm)) (by omega)
   have h5:n / p < 2 ^ f:=by
    have:n / p <= n / 2:=Nat.div_le_div_left hp (by omega)
    rw [Nat.pow_succ] at h
    omega
   rw [pw_fuel hp f (n / p) h4 h5]
  ·rfl
def okB (f N base:Nat) (behind ps:List Nat) (i p:Nat):Bool :=
 !(ps.take i).contains p && (smallB p || behind.contains p) && decide (2 <= p) && (N - 1) % p == 0 && Nat.gcd ((pm base N f ((N - 1) / p) + N - 1) % N) N == 1
def holdsB (f N base:Nat) (ps behind:List Nat):Bool :=
 decide (2 <= N) && !ps.isEmpty && decide (ps.length <= 32) && decide (N <= 2 ^ f) && (List.range ps.length).all (fun i=>okB f N base behind ps i (ps.getD i 0)) && pm base N f (N - 1) == 1 &&
  decide (N < ps.foldl (fun a p=>a * pw p f (N - 1)) 1 * ps.foldl (fun a p=>a * pw p f (N - 1)) 1)
theorem foldl_pw {f n:Nat} (h0:0 < n) (h:n < 2 ^ f):∀ (ps:List Nat) (a:Nat),(∀ p ∈ ps,2 <= p) -> ps.foldl (fun a p=>a * pw p f n) a=ps.foldl (fun a p=>a * pw p n n) a
 | [],_,_=>rfl
 | p :: ps,a,hp=>by
  rw [List.foldl_cons,List.foldl_cons,pw_fuel (hp p (by simp)) f n h0 h]
  exact foldl_pw h0 h ps _ fun q hq=>hp q (by simp [hq])
theorem holdsB_spec {f N base:Nat} {ps behind:List Nat} (h:holdsB f N base ps behind=true):HoldsP N base ps behind:=by
 simp only [holdsB,Bool.and_eq_true,decide_eq_true_eq,List.all_eq_true,Bool.not_eq_true',beq_iff_eq] at h
 obtain ⟨⟨⟨⟨⟨⟨h2,hne⟩,h32⟩,hf⟩,hall⟩,hone⟩,hgr⟩:=h
 have hlt:N - 1 < 2 ^ f:=by omega
 have each:∀ i p,ps[i]? = .some p -> OneOk N base behind ps i p:=fun i p hp=>by
  have hi:=(List.getElem?_eq_some_iff.1 hp).1
  have h3:=hall i (List.mem_range.2 hi)
  rw [List.getD_eq_getElem?_getD,hp,Option.getD_some] at h3
  simp only [okB,Bool.and_eq_true,decide_eq_true_eq,Bool.not_eq_true',beq_iff_eq,Bool.or_eq_true,List.contains_iff_mem] at h3
  obtain ⟨⟨⟨⟨k1,k2⟩,k3⟩,k4⟩,k5⟩:=h3
  refine ⟨(fun hm=>by rw [List.contains_iff_mem.2 hm] at k1; cases k1),k2.imp smallB_spec id,k3,k4,?_⟩
  rw [<- pm_eq base N f _ (Nat.lt_of_le_of_lt (Nat.div_le_self _ _) hlt)]
  exact k5
 have hps:∀ p ∈ ps,2 <= p:=fun p hp=>by
  obtain ⟨i,hi,e⟩:=List.getElem_of_mem hp
  exact (each i p (by rw [List.getElem?_eq_getElem hi,e])).2.2.1
 refine ⟨h2,(fun e=>by rw [e] at hne; cases hne),h32,each,?_,?_⟩
 ·rw [<- pm_eq base N f _ hlt]; exact hone
 ·have:=foldl_pw (f:=f) (n:=N - 1) (by omega) hlt ps 1 hps
  unfold pwl
  rw [<- this]
  exact hgr
def gP:Nat -> Nat
 | 0=>607
 | 1=>655211
 | _=>20752587082923246163
def gQ:Nat -> Nat
 | 0=>101
 | 1=>65521
 | _=>1152921504606847009
def gG:Nat -> Nat
 | 0=>64
 | 1=>1024
 | _=>262144
def gH:Nat -> Nat
 | 0=>597
 | 1=>96520
 | _=>12833098634328171918
def gSize:Nat -> Nat
 | 0=>2
 | 1=>3
 | _=>9
def gTimes:Nat -> Nat
 | 0=>6
 | 1=>10
 | _=>18
def gChain:Nat -> List StepN
 | 0=>[]
 | 1=>[⟨655211,2,[65521]⟩]
 | _=>[⟨1152921504606847009,13,[2,3,11,683,2971]⟩,⟨20752587082923246163,2,[1152921504606847009]⟩]
theorem g1_holds:HoldsP 655211 2 [65521] []:=holdsB_spec (f:=20) (by kernel_rfl)
theorem g2_holds1:HoldsP 1152921504606847009 13 [2,3,11,683,2971] []:=holdsB_spec (f:=61) (by kernel_rfl)
theorem g2_holds2:HoldsP 20752587082923246163 2 [1152921504606847009] [1152921504606847009]:=holdsB_spec (f:=65) (by kernel_rfl)
theorem small607:SmallP 607:=smallB_spec (by kernel_rfl)
theorem small101:SmallP 101:=smallB_spec (by kernel_rfl)
theorem small65521:SmallP 65521:=smallB_spec (by kernel_rfl)
def Told (N:Nat) (l:List StepN):Prop:=SmallP N ∨ (ChainP [] l /\ ∃ s ∈ l,s.n=N)
theorem gChain_ok:∀ i,i < 3 -> ChainP [] (gChain i)
 | 0,_=>trivial
 | 1,_=>⟨g1_holds,trivial⟩
 | 2,_=>⟨g2_holds1,g2_holds2,trivial⟩
 | _ + 3,h=>by omega
theorem gP_told:∀ i,i < 3 -> Told (gP i) (gChain i)
 | 0,_=>.inl small607
 | 1,_=>.inr ⟨gChain_ok 1 (by omega),_,List.mem_singleton.2 rfl,rfl⟩
 | 2,_=>.inr ⟨gChain_ok 2 (by omega),_,List.mem_cons_of_mem _ (List.mem_singleton.2 rfl),rfl⟩
 | _ + 3,h=>by omega
theorem gQ_told:∀ i,i < 3 -> Told (gQ i) (gChain i)
 | 0,_=>.inl small101
 | 1,_=>.inl small65521
 | 2,_=>.inr ⟨gChain_ok 2 (by omega),_,List.mem_cons_self,rfl⟩
 | _ + 3,h=>by omega
theorem gTimes_eq:∀ i,i < 3 -> gP i - 1=gQ i * gTimes i
 | 0,_=>rfl
 | 1,_=>rfl
 | 2,_=>rfl
 | _ + 3,h=>by omega
theorem g_bounds:∀ i,i < 3 -> 64 < gQ i /\ 1 < gG i /\ gG i < gP i /\ 1 < gH i /\ gH i < gP i /\ gP i < 2 ^ 65
 | 0,_=>by decide
 | 1,_=>by decide
 | 2,_=>by decide
 | _ + 3,h=>by omega
theorem gG_member:∀ i,i < 3 -> gG i ^ gQ i % gP i=1
 | 0,_=>by rw [<- pm_eq (gG 0) (gP 0) 65 (gQ 0) (by decide)]; kernel_rfl
 | 1,_=>by rw [<- pm_eq (gG 1) (gP 1) 65 (gQ 1) (by decide)]; kernel_rfl
 | 2,_=>by rw [<- pm_eq (gG 2) (gP 2) 65 (gQ 2) (by decide)]; kernel_rfl
 | _ + 3,h=>by omega
theorem key_nil:hmac [] []=[182,19,103,154,8,20,217,236,119,47,149,215,120,195,95,197,255,22,151,196,147,113,86,83,198,199,18,20,66,146,197,173]:=by kernel_rfl
theorem tk_nil:hmac [182,19,103,154,8,20,217,236,119,47,149,215,120,195,95,197,255,22,151,196,147,113,86,83,198,199,18,20,66,146,197,173] [104,0,1] =
  [22,9,94,96,137,201,132,135,12,215,97,165,119,173,84,193,49] ++ (hmac [182,19,103,154,8,20,217,236,119,47,149,215,120,195,95,197,255,22,151,196,147,113,86,83,198,199,18,20,66,146,197,173] [104,0,1]).drop 17:=by kernel_rfl
def numB (bs:List Nat):Nat:=bs.foldl (fun n x=>n * 256 + x) 0
def gBytes:Nat -> List Nat
 | 0=>[22,9,94,96,137,201,132,135,12,215]
 | 1=>[22,9,94,96,137,201,132,135,12,215,97]
 | _=>[22,9,94,96,137,201,132,135,12,215,97,165,119,173,84,193,49]
theorem gH_eq:∀ i,i < 3 -> numB (gBytes i) ^ gTimes i % gP i=gH i
 | 0,_=>by rw [<- pm_eq (numB (gBytes 0)) (gP 0) 65 (gTimes 0) (by decide)]; kernel_rfl
 | 1,_=>by rw [<- pm_eq (numB (gBytes 1)) (gP 1) 65 (gTimes 1) (by decide)]; kernel_rfl
 | 2,_=>by rw [<- pm_eq (numB (gBytes 2)) (gP 2) 65 (gTimes 2) (by decide)]; kernel_rfl
 | _ + 3,h=>by omega
end Go.Proofs.YtdebccghjbfgdaaGreatDoor
