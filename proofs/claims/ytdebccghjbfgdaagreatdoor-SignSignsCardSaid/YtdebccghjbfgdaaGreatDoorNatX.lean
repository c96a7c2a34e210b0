/- The document's sums and differences. -/
import Derived.Test.YtdebccghjbfgdaaGreatDoorDocW
set_option maxRecDepth 1000000
set_option maxHeartbeats 16000000
set_option linter.unusedSimpArgs false
set_option linter.unusedVariables false
namespace Go.Proofs.YtdebccghjbfgdaaGreatDoor
open Go Go.RowKit Go.Proofs.YtdebccghjbfgdaaGreatDoor.Flow
def carry (N M k:Nat):Nat:=(N % 2 ^ k + M % 2 ^ k) / 2 ^ k
theorem mod_bit' (N k:Nat):N % 2 ^ (k + 1)=N % 2 ^ k + 2 ^ k * (bit N k).toNat:=by
 rw [mod_bit]; cases bit N k <;> simp
theorem carry_le (N M k:Nat):carry N M k <= 1:=by
 have hp:0 < 2 ^ k:=Nat.pow_pos (by omega)
 have h1:=Nat.mod_lt N hp
 have h2:=Nat.mod_lt M hp
 unfold carry
 have:(N % 2 ^ k + M % 2 ^ k) / 2 ^ k < 2:=by rw [Nat.div_lt_iff_lt_mul hp]; omega
 omega
theorem carry_zero (N M:Nat):carry N M 0=0:=by simp [carry,Nat.mod_one]
theorem carry_succ (N M k:Nat):carry N M (k + 1)=((bit N k).toNat + (bit M k).toNat + carry N M k) / 2:=by
 have hp:0 < 2 ^ k:=Nat.pow_pos (by omega)
 unfold carry
 rw [mod_bit',mod_bit',Nat.pow_succ,<- Nat.div_div_eq_div_mul]
 congr 1
 rw [show N % 2 ^ k + 2 ^ k * (bit N k).toNat + (M % 2 ^ k + 2 ^ k * (bit M k).toNat)=2 ^ k * ((bit N k).toNat + (bit M k).toNat) + (N % 2 ^ k + M % 2 ^ k) by rw [Nat.mul_add]; omega]
 rw [Nat.mul_add_div hp]
theorem bit_add (N M k:Nat):bit (N + M) k=decide (((bit N k).toNat + (bit M k).toNat + carry N M k) % 2=1):=by
 have hp:0 < 2 ^ k:=Nat.pow_pos (by omega)
 have e:(N + M) / 2 ^ k=N / 2 ^ k + M / 2 ^ k + carry N M k:=by
  unfold carry
  conv=>lhs; rw [<- Nat.div_add_mod N (2 ^ k),<- Nat.div_add_mod M (2 ^ k)]
  rw [show 2 ^ k * (N / 2 ^ k) + N % 2 ^ k + (2 ^ k * (M / 2 ^ k) + M % 2 ^ k)=2 ^ k * (N / 2 ^ k + M / 2 ^ k) + (N % 2 ^ k + M % 2 ^ k) by rw [Nat.mul_add]; omega]
  rw [Nat.mul_add_div hp]
 have e1:=bit_div N k
 have e2:=bit_div M k
 show decide ((N + M) / 2 ^ k % 2=1)=_
 rw [e,decide_eq_decide]
 omega
theorem carry_pos {N M k:Nat} (h:0 < carry N M k):k <= blen N + blen M:=by
 have hp:0 < 2 ^ k:=Nat.pow_pos (by omega)
 unfold carry at h
 have h1:=Nat.mod_le N (2 ^ k)
 have h2:=Nat.mod_le M (2 ^ k)
 have h3:2 ^ k <= N % 2 ^ k + M % 2 ^ k:=by
  rcases Nat.lt_or_ge (N % 2 ^ k + M % 2 ^ k) (2 ^ k) with h4 | h4
  ·rw [Nat.div_eq_of_lt h4] at h; omega
  ·exact h4
 have h4:=blen_lt N
 have h5:=blen_lt M
 have h6:2 ^ blen N <= 2 ^ (blen N + blen M):=Nat.pow_le_pow_right (by omega) (by omega)
 have h7:2 ^ blen M <= 2 ^ (blen N + blen M):=Nat.pow_le_pow_right (by omega) (by omega)
 have h8:2 ^ k < 2 ^ (blen N + blen M + 1):=by rw [Nat.pow_succ]; omega
 have:=(Nat.pow_lt_pow_iff_right (show 1 < 2 by omega)).1 h8
 omega
theorem sum_lt {N M k:Nat} (h1:blen N <= k) (h2:blen M <= k) (h3:carry N M k=0):N + M < 2 ^ k:=by
 have hp:0 < 2 ^ k:=Nat.pow_pos (by omega)
 have h4:=(blen_le N k).1 h1
 have h5:=(blen_le M k).1 h2
 unfold carry at h3
 rw [Nat.mod_eq_of_lt h4,Nat.mod_eq_of_lt h5] at h3
 exact (Nat.div_eq_zero_iff.1 h3).resolve_left (by omega)
theorem radd_calls (w:World) (p:Option Addr) (n c N:Nat) (q:Option Addr) (m d M:Nat) (hA:BitsAt w p n c N) (hB:BitsAt w q m d M) (hn:n <= 1000000) (hm:m <= 1000000) :
  Calls Tryz.prog 121 #[.slice p n c,.slice q m d] w (GivesBits (N + M) w):=by
 obtain ⟨i0,hi,hz0,hz1,hz2⟩:=info_parts Tryz.info_bool
 have hl:n=blen N:=by have:=hA.len; rwa [bitsOf_length] at this
 have hk:m=blen M:=by have:=hB.len; rwa [bitsOf_length] at this
 have HN:=Lib.hid hl
 have HM:=Lib.hid hk
 clear hl hk
 have hown:=World.ownsRow_made w (base:=w.heap.size) (e := 4) (size:=1) #[] 0 (Nat.le_refl _) (by simp [maxLen]) (by simp)
 go_enter Tryz.func121,Tryz.ntmps121
 go_wp2
 go_loopw [5,6,7,8] (fun v cy i _ wr=>∃ k x:Nat,k <= n + m + 1 /\ i=.int .i64 k /\ cy=.int .i64 x /\ x <= 1 /\ Hid (carry N M k=x) /\ wr.ownsRow w.heap.size 4 1 v k ((bitsUp (N + M) k).map Value.bool) /\ Below w.heap.size w wr) (fun _ _ i _ _=>n + m + 2 - (intOf i).toNat)
 case atStart =>
  refine ⟨0,0,by omega,rfl,rfl,by omega,Lib.hid (carry_zero _ _),?_,(Below.refl _ _).alloc (Nat.le_refl _) _⟩
  simpa [bitsUp] using hown
 case round =>
  obtain ⟨k,x,hk,rfl,rfl,hx1,hcy,ho,hbw⟩:=hrel
  have hgo:(k < n ∨ k < m ∨ 0 < x) -> k <= n + m:=by
   rintro (h1 | h1 | h1)
   ·omega
   ·omega
   ·have:=carry_pos (N:=N) (M:=M) (k:=k) (by rw [hcy.out]; exact h1)
    rw [<- HN.out,<- HM.out] at this; exact this
  have hstep:(k <= n + m) -> True:=fun _=>trivial
  obtain ⟨a,ha⟩:∃ a,(bit N k).toNat=a:=⟨_,rfl⟩
  obtain ⟨b,hb⟩:∃ b,(bit M k).toNat=b:=⟨_,rfl⟩
  have ha1:a <= 1:=by rw [<- ha]; exact Bool.toNat_le _
  have hb1:b <= 1:=by rw [<- hb]; exact Bool.toNat_le _
  have hs:=bit_add N M k
  have hc':=carry_succ N M k
  rw [ha,hb,hcy.out] at hs hc'
  have HS:=Lib.hid hs
  have HC:=Lib.hid hc'
  have HA:=Lib.hid ha
  have HB:=Lib.hid hb
  have HE:Hid (¬ (k < n ∨ k < m ∨ 0 < x) -> N + M < 2 ^ k):=Lib.hid (fun h=>sum_lt (by rw [<- HN.out]; omega) (by rw [<- HM.out]; omega) (by rw [hcy.out]; omega))
  have HG:=Lib.hid hgo
  clear hs hc' ha hb hgo hstep
  have hin:BitsAt wr p n c N:=hA.below hbw
  have hin2:BitsAt wr q m d M:=hB.below hbw
  have HSI:Hid (bit (N + M) k=(((a:Int) + b + x) % 2 == 1)):=Lib.hid (by
   rw [HS.out,Bool.eq_iff_iff]
   simp only [decide_eq_true_eq,beq_iff_eq]
   omega)
  by_cases h1:k < n
  ·have hkl:k <= n + m:=HG.out (.inl h1)
   go_wp2_with fail
   refine (at_calls wr p n c N k hin (by omega)).mono ?_
   rintro e w1 ⟨rfl,rfl⟩
   rw [HA.out]
   go_wp2_with fail
   refine (at_calls wr q m d M k hin2 (by omega)).mono ?_
   rintro e w1 ⟨rfl,rfl⟩
   rw [HB.out]
   go_wp2_with (at_builtin; refine wpList_append_own _ rfl _ _ 28 rfl w.heap.size 4 i0 (.bool false) 1 1 Tryz.underlying28 hi hz0 hz1 hz2 rfl (by decide) _ _ _ rfl (ho.alloc _) ⟨wr.heap.size,0,none⟩ 1 1 [.bool (((a:Int) + b + x) % 2 == 1)] rfl rfl ?c1 ?c2 ?c3 ?c4 ?c5 ?_)
   case c1 =>
    intro jj u hj
    match jj,hj with
    | 0,hj=>simp at hj; subst hj; simp [Addr.add]
   case c2=>intro u hu; simp at hu; subst hu; rfl
   case c3=>unfold maxLen; omega
   case c4=>omega
   case c5=>have:=hbw.size; simp; omega
   intro v' w1 ho' hg _
   have hbw1:Below w.heap.size w w1:=(hbw.alloc hbw.size _).grown hg (by have:=hbw.size; simp; omega) (fun j hj=>(ho.lt j hj).1)
   have ho1:w1.ownsRow w.heap.size 4 1 v' (k + 1) ((bitsUp (N + M) (k + 1)).map Value.bool):=by
    rw [bitsUp_succ,List.map_append,HSI.out]; exact ho'
   clear ho' hg ho
   go_wp2
   go_roundw
   case rel=>exact ⟨k + 1,(a + b + x) / 2,by omega,by go_num,by go_num,by omega,HC,ho1,hbw1⟩
   case measure=>simp [intOf]; omega
  by_cases h2:k < m
  ·have hkl:k <= n + m:=HG.out (.inr (.inl h2))
   go_wp2_with fail
   refine (at_calls wr p n c N k hin (by omega)).mono ?_
   rintro e w1 ⟨rfl,rfl⟩
   rw [HA.out]
   go_wp2_with fail
   refine (at_calls wr q m d M k hin2 (by omega)).mono ?_
   rintro e w1 ⟨rfl,rfl⟩
   rw [HB.out]
   go_wp2_with (at_builtin; refine wpList_append_own _ rfl _ _ 28 rfl w.heap.size 4 i0 (.bool false) 1 1 Tryz.underlying28 hi hz0 hz1 hz2 rfl (by decide) _ _ _ rfl (ho.alloc _) ⟨wr.heap.size,0,none⟩ 1 1 [.bool (((a:Int) + b + x) % 2 == 1)] rfl rfl ?c1 ?c2 ?c3 ?c4 ?c5 ?_)
   case c1 =>
    intro jj u hj
    match jj,hj with
    | 0,hj=>simp at hj; subst hj; simp [Addr.add]
   case c2=>intro u hu; simp at hu; subst hu; rfl
   case c3=>unfold maxLen; omega
   case c4=>omega
   case c5=>have:=hbw.size; simp; omega
   intro v' w1 ho' hg _
   have hbw1:Below w.heap.size w w1:=(hbw.alloc hbw.size _).grown hg (by have:=hbw.size; simp; omega) (fun j hj=>(ho.lt j hj).1)
   have ho1:w1.ownsRow w.heap.size 4 1 v' (k + 1) ((bitsUp (N + M) (k + 1)).map Value.bool):=by
    rw [bitsUp_succ,List.map_append,HSI.out]; exact ho'
   clear ho' hg ho
   go_wp2
   go_roundw
   case rel=>exact ⟨k + 1,(a + b + x) / 2,by omega,by go_num,by go_num,by omega,HC,ho1,hbw1⟩
   case measure=>simp [intOf]; omega
  by_cases h3:0 < x
  ·have hkl:k <= n + m:=HG.out (.inr (.inr h3))
   go_wp2_with fail
   refine (at_calls wr p n c N k hin (by omega)).mono ?_
   rintro e w1 ⟨rfl,rfl⟩
   rw [HA.out]
   go_wp2_with fail
   refine (at_calls wr q m d M k hin2 (by omega)).mono ?_
   rintro e w1 ⟨rfl,rfl⟩
   rw [HB.out]
   go_wp2_with (at_builtin; refine wpList_append_own _ rfl _ _ 28 rfl w.heap.size 4 i0 (.bool false) 1 1 Tryz.underlying28 hi hz0 hz1 hz2 rfl (by decide) _ _ _ rfl (ho.alloc _) ⟨wr.heap.size,0,none⟩ 1 1 [.bool (((a:Int) + b + x) % 2 == 1)] rfl rfl ?c1 ?c2 ?c3 ?c4 ?c5 ?_)
   case c1 =>
    intro jj u hj
    match jj,hj with
    | 0,hj=>simp at hj; subst hj; simp [Addr.add]
   case c2=>intro u hu; simp at hu; subst hu; rfl
   case c3=>unfold maxLen; omega
   case c4=>omega
   case c5=>have:=hbw.size; simp; omega
   intro v' w1 ho' hg _
   have hbw1:Below w.heap.size w w1:=(hbw.alloc hbw.size _).grown hg (by have:=hbw.size; simp; omega) (fun j hj=>(ho.lt j hj).1)
   have ho1:w1.ownsRow w.heap.size 4 1 v' (k + 1) ((bitsUp (N + M) (k + 1)).map Value.bool):=by
    rw [bitsUp_succ,List.map_append,HSI.out]; exact ho'
   clear ho' hg ho
   go_wp2
   go_roundw
   case rel=>exact ⟨k + 1,(a + b + x) / 2,by omega,by go_num,by go_num,by omega,HC,ho1,hbw1⟩
   case measure=>simp [intOf]; omega
  have hlt:=Lib.hid (HE.out (by omega))
  obtain ⟨q,d,rfl,hrow,hnew⟩:=BRow.of_owns ho
  go_wp2_with fail
  refine (trimB_calls wr q k d (N + M) hrow hlt.out).mono ?_
  rintro e w1 ⟨l,rfl,hm,rfl⟩
  go_wp2
  go_ret
  exact ⟨q,l,d,rfl,hm,hbw,hnew⟩
def borrow (N M k:Nat):Nat:=if N % 2 ^ k < M % 2 ^ k then 1 else 0
theorem borrow_zero (N M:Nat):borrow N M 0=0:=by simp [borrow,Nat.mod_one]
theorem borrow_succ (N M k:Nat):borrow N M (k + 1)=if (bit N k).toNat < (bit M k).toNat + borrow N M k then 1 else 0:=by
 have hp:0 < 2 ^ k:=Nat.pow_pos (by omega)
 have h1:=Nat.mod_lt N hp
 have h2:=Nat.mod_lt M hp
 unfold borrow
 rw [mod_bit',mod_bit']
 generalize N % 2 ^ k=n at *
 generalize M % 2 ^ k=m at *
 generalize 2 ^ k=P at *
 by_cases hlt:n < m
 ·rw [if_pos hlt]
  cases bit N k <;> cases bit M k <;> simp only [Bool.toNat_true,Bool.toNat_false,Nat.mul_zero,Nat.mul_one]
  ·rw [if_pos (by omega),if_pos (by omega)]
  ·rw [if_pos (by omega),if_pos (by omega)]
  ·rw [if_neg (by omega),if_neg (by omega)]
  ·rw [if_pos (by omega),if_pos (by omega)]
 ·rw [if_neg hlt]
  cases bit N k <;> cases bit M k <;> simp only [Bool.toNat_true,Bool.toNat_false,Nat.mul_zero,Nat.mul_one]
  ·rw [if_neg (by omega),if_neg (by omega)]
  ·rw [if_pos (by omega),if_pos (by omega)]
  ·rw [if_neg (by omega),if_neg (by omega)]
  ·rw [if_neg (by omega),if_neg (by omega)]
theorem div_sub {N M k:Nat} (h:M <= N):(N - M) / 2 ^ k + M / 2 ^ k + borrow N M k=N / 2 ^ k:=by
 have hp:0 < 2 ^ k:=Nat.pow_pos (by omega)
 have h1:=Nat.mod_lt N hp
 have h2:=Nat.mod_lt M hp
 have e1:=Nat.div_add_mod N (2 ^ k)
 have e2:=Nat.div_add_mod M (2 ^ k)
 unfold borrow
 generalize N / 2 ^ k=A at *
 generalize M / 2 ^ k=B at *
 generalize N % 2 ^ k=n at *
 generalize M % 2 ^ k=m at *
 generalize 2 ^ k=P at *
 split
 ·rename_i hlt
  have hAB:B + 1 <= A:=by
   rcases Nat.lt_or_ge B A with h3 | h3
   ·exact h3
   ·have:=Nat.mul_le_mul_left P h3
    omega
  obtain ⟨E,rfl⟩:∃ E,A=B + 1 + E:=⟨A - (B + 1),by omega⟩
  have e3:N - M=P * E + (n + P - m):=by
   rw [Nat.mul_add,Nat.mul_add,Nat.mul_one] at e1
   omega
  rw [e3,Nat.mul_add_div hp,Nat.div_eq_of_lt (by omega)]
  omega
 ·rename_i hlt
  have hAB:B <= A:=by
   rcases Nat.lt_or_ge A B with h3 | h3
   ·have:=Nat.mul_le_mul_left P (Nat.succ_le_of_lt h3)
    rw [Nat.succ_eq_add_one,Nat.mul_add,Nat.mul_one] at this
    omega
   ·exact h3
  obtain ⟨E,rfl⟩:∃ E,A=B + E:=⟨A - B,by omega⟩
  have e3:N - M=P * E + (n - m):=by
   rw [Nat.mul_add] at e1
   omega
  rw [e3,Nat.mul_add_div hp,Nat.div_eq_of_lt (by omega)]
  omega
theorem bit_sub {N M k:Nat} (h:M <= N):bit (N - M) k=decide (((bit N k).toNat + (bit M k).toNat + borrow N M k) % 2=1):=by
 have e:=div_sub (k:=k) h
 have e1:=bit_div N k
 have e2:=bit_div M k
 show decide ((N - M) / 2 ^ k % 2=1)=_
 rw [decide_eq_decide]
 omega
theorem rsub_calls (w:World) (p:Option Addr) (n c N:Nat) (q:Option Addr) (m d M:Nat) (hA:BitsAt w p n c N) (hB:BitsAt w q m d M) (hn:n <= 1000000) (hle:M <= N) :
  Calls Tryz.prog 125 #[.slice p n c,.slice q m d] w (GivesBits (N - M) w):=by
 obtain ⟨i0,hi,hz0,hz1,hz2⟩:=info_parts Tryz.info_bool
 have hl:n=blen N:=by have:=hA.len; rwa [bitsOf_length] at this
 have HN:=Lib.hid hl
 clear hl
 have hown:=World.ownsRow_made w (base:=w.heap.size) (e := 4) (size:=1) #[] 0 (Nat.le_refl _) (by simp [maxLen]) (by simp)
 go_enter Tryz.func125,Tryz.ntmps125
 go_wp2
 go_loopw [5,6,7,8] (fun v cy i _ wr=>∃ k x:Nat,k <= n /\ i=.int .i64 k /\ cy=.int .i64 x /\ x <= 1 /\ Hid (borrow N M k=x) /\ wr.ownsRow w.heap.size 4 1 v k ((bitsUp (N - M) k).map Value.bool) /\ Below w.heap.size w wr) (fun _ _ i _ _=>n - (intOf i).toNat)
 case atStart =>
  refine ⟨0,0,by omega,rfl,rfl,by omega,Lib.hid (borrow_zero _ _),?_,(Below.refl _ _).alloc (Nat.le_refl _) _⟩
  simpa [bitsUp] using hown
 case round =>
  obtain ⟨k,x,hk,rfl,rfl,hx1,hcy,ho,hbw⟩:=hrel
  by_cases h1:k < n
  ·obtain ⟨a,ha⟩:∃ a,(bit N k).toNat=a:=⟨_,rfl⟩
   obtain ⟨b,hb⟩:∃ b,(bit M k).toNat=b:=⟨_,rfl⟩
   have ha1:a <= 1:=by rw [<- ha]; exact Bool.toNat_le _
   have hb1:b <= 1:=by rw [<- hb]; exact Bool.toNat_le _
   have hs:=bit_sub (k:=k) hle
   have hc':=borrow_succ N M k
   rw [ha,hb,hcy.out] at hs hc'
   have HS:=Lib.hid hs
   have HA:=Lib.hid ha
   have HB:=Lib.hid hb
   have HC':=Lib.hid hc'
   clear hs ha hb hc'
   have hin:BitsAt wr p n c N:=hA.below hbw
   have hin2:BitsAt wr q m d M:=hB.below hbw
   by_cases hlt:a < b + x
   ·have HC:Hid (borrow N M (k + 1)=1):=Lib.hid (by rw [HC'.out,if_pos hlt])
    have HSI:Hid (bit (N - M) k=(((a:Int) - b - x + 2) == 1)):=Lib.hid (by
     rw [HS.out,Bool.eq_iff_iff]
     simp only [decide_eq_true_eq,beq_iff_eq]
     omega)
    go_wp2_with fail
    refine (at_calls wr p n c N k hin (by omega)).mono ?_
    rintro e w1 ⟨rfl,rfl⟩
    rw [HA.out]
    go_wp2_with fail
    refine (at_calls wr q m d M k hin2 (by omega)).mono ?_
    rintro e w1 ⟨rfl,rfl⟩
    rw [HB.out]
    go_wp2_with (at_builtin; refine wpList_append_own _ rfl _ _ 28 rfl w.heap.size 4 i0 (.bool false) 1 1 Tryz.underlying28 hi hz0 hz1 hz2 rfl (by decide) _ _ _ rfl (ho.alloc _) ⟨wr.heap.size,0,none⟩ 1 1 [.bool (((a:Int) - b - x + 2) == 1)] rfl rfl ?c1 ?c2 ?c3 ?c4 ?c5 ?_)
    case c1 =>
     intro jj u hj
     match jj,hj with
     | 0,hj=>simp at hj; subst hj; simp [Addr.add]
    case c2=>intro u hu; simp at hu; subst hu; rfl
    case c3=>unfold maxLen; omega
    case c4=>omega
    case c5=>have:=hbw.size; simp; omega
    intro v' w1 ho' hg _
    have hbw1:Below w.heap.size w w1:=(hbw.alloc hbw.size _).grown hg (by have:=hbw.size; simp; omega) (fun j hj=>(ho.lt j hj).1)
    have ho1:w1.ownsRow w.heap.size 4 1 v' (k + 1) ((bitsUp (N - M) (k + 1)).map Value.bool):=by
     rw [bitsUp_succ,List.map_append,HSI.out]; exact ho'
    clear ho' hg ho
    go_wp2
    go_roundw
    case rel=>exact ⟨k + 1,1,by omega,rfl,rfl,by omega,HC,ho1,hbw1⟩
    case measure=>simp [intOf]; omega
   ·have HC:Hid (borrow N M (k + 1)=0):=Lib.hid (by rw [HC'.out,if_neg hlt])
    have HSI:Hid (bit (N - M) k=(((a:Int) - b - x) == 1)):=Lib.hid (by
     rw [HS.out,Bool.eq_iff_iff]
     simp only [decide_eq_true_eq,beq_iff_eq]
     omega)
    go_wp2_with fail
    refine (at_calls wr p n c N k hin (by omega)).mono ?_
    rintro e w1 ⟨rfl,rfl⟩
    rw [HA.out]
    go_wp2_with fail
    refine (at_calls wr q m d M k hin2 (by omega)).mono ?_
    rintro e w1 ⟨rfl,rfl⟩
    rw [HB.out]
    go_wp2_with (at_builtin; refine wpList_append_own _ rfl _ _ 28 rfl w.heap.size 4 i0 (.bool false) 1 1 Tryz.underlying28 hi hz0 hz1 hz2 rfl (by decide) _ _ _ rfl (ho.alloc _) ⟨wr.heap.size,0,none⟩ 1 1 [.bool (((a:Int) - b - x) == 1)] rfl rfl ?c1 ?c2 ?c3 ?c4 ?c5 ?_)
    case c1 =>
     intro jj u hj
     match jj,hj with
     | 0,hj=>simp at hj; subst hj; simp [Addr.add]
    case c2=>intro u hu; simp at hu; subst hu; rfl
    case c3=>unfold maxLen; omega
    case c4=>omega
    case c5=>have:=hbw.size; simp; omega
    intro v' w1 ho' hg _
    have hbw1:Below w.heap.size w w1:=(hbw.alloc hbw.size _).grown hg (by have:=hbw.size; simp; omega) (fun j hj=>(ho.lt j hj).1)
    have ho1:w1.ownsRow w.heap.size 4 1 v' (k + 1) ((bitsUp (N - M) (k + 1)).map Value.bool):=by
     rw [bitsUp_succ,List.map_append,HSI.out]; exact ho'
    clear ho' hg ho
    go_wp2
    go_roundw
    case rel=>exact ⟨k + 1,0,by omega,rfl,rfl,by omega,HC,ho1,hbw1⟩
    case measure=>simp [intOf]; omega
  ·have HK:Hid (k=n):=Lib.hid (by omega)
   have hlt:Hid (N - M < 2 ^ k):=Lib.hid (by
    have:=(blen_le N k).1 (by rw [<- HN.out]; exact Nat.le_of_eq HK.out.symm)
    omega)
   obtain ⟨q,d,rfl,hrow,hnew⟩:=BRow.of_owns ho
   go_wp2_with fail
   refine (trimB_calls wr q k d (N - M) hrow hlt.out).mono ?_
   rintro e w1 ⟨l,rfl,hm,rfl⟩
   go_wp2
   go_ret
   exact ⟨q,l,d,rfl,hm,hbw,hnew⟩
end Go.Proofs.YtdebccghjbfgdaaGreatDoor
