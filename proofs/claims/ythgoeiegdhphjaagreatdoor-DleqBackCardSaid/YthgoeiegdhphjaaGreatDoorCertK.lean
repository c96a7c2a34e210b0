/- Rows of numbers that a call has laid, and that grow: the program's and the document's; where a grown row lies. -/
import Derived.Test.YthgoeiegdhphjaaGreatDoorRing
import Derived.Laws.OwnMore
import Derived.Lib.AppendZeros
import Derived.ArgAppend
import Derived.Deep.Cut
import Derived.Laws.CopyOwn
set_option maxRecDepth 1000000
set_option maxHeartbeats 16000000
set_option linter.unusedSimpArgs false
set_option linter.unusedVariables false
namespace Go.Proofs.YthgoeiegdhphjaaGreatDoor
def pm (a n : Nat) : Nat -> Nat -> Nat
 | 0, _ => 1 % n
 | f + 1, e => if e = 0 then 1 % n else
  let h := pm a n f (e / 2)
  if e % 2 = 1 then h * h % n * a % n else h * h % n
theorem pm_eq (a n : Nat) : ∀ f e, e < 2 ^ f -> pm a n f e = a ^ e % n
 | 0, e, h => by
  have : e = 0 := by simp at h; omega
  subst this
  rw [pm, Nat.pow_zero]
 | f + 1, e, h => by
  unfold pm
  split
  ·rename_i h0; rw [h0, Nat.pow_zero]
  ·have ih := pm_eq a n f (e / 2) (by rw [Nat.pow_succ] at h; omega)
   have e2 : a ^ (2 * (e / 2)) = a ^ (e / 2) * a ^ (e / 2) := by rw [<- Nat.pow_add]; congr 1; omega
   simp only [ih]
   split
   ·rename_i h1
    have : e = 2 * (e / 2) + 1 := by omega
    conv => rhs; rw [this, Nat.pow_succ, e2]
    simp [Nat.mul_mod]
   ·rename_i h1
    have : e = 2 * (e / 2) := by omega
    conv => rhs; rw [this, e2]
    rw [<- Nat.mul_mod]
open Go Go.RowKit Go.Proofs.YthgoeiegdhphjaaGreatDoor.Flow
theorem asked_not {P : Program} {o : Oper} {ops : Array Oper} {a : Act} {w : World} {K : Value -> World -> Prop}
  (hw : Region.wanted o (yielded ops a.tmps) = false) (hk : K undef w) : asked P o ops a w K := by
 unfold asked
 rw [if_neg (by rw [hw]; exact Bool.false_ne_true)]
 exact hk
structure PList (w : World) (e : Nat) (p : Option Addr) (n c : Nat) (Ns : List Nat) : Prop where
 len : n = Ns.length
 cap : n <= c
 max : c <= 9223372036854775807
 nil : p = none -> c = 0
 at_ : 0 < n -> ∃ b off, p = some ⟨b, off, none⟩ /\ b < w.heap.size /\ ∀ i N, Ns[i]? = some N -> ∃ q m d, w.cell? ⟨b, off + i, none⟩ = some (.slice q m d) /\ NatAt w q m d N /\ N < B32 e
theorem PList.below {w w' : World} {e : Nat} {p : Option Addr} {n c : Nat} {Ns : List Nat} (h : PList w e p n c Ns) (hb : Below w.heap.size w w') : PList w' e p n c Ns := by
 refine ⟨h.len, h.cap, h.max, h.nil, fun h0 => ?_⟩
 obtain ⟨b, off, h1, h2, h3⟩ := h.at_ h0
 refine ⟨b, off, h1, Nat.lt_of_lt_of_le h2 hb.size, fun i N hN => ?_⟩
 obtain ⟨q, m, d, h4, h5, h6⟩ := h3 i N hN
 exact ⟨q, m, d, by rw [hb.cell (p := ⟨b, off + i, none⟩) h2]; exact h4, h5.below hb, h6⟩
structure PSteps (w : World) (e : Nat) (p : Option Addr) (n c : Nat) (l : List StepN) : Prop where
 len : n = l.length
 cap : n <= c
 max : c <= 9223372036854775807
 nil : p = none -> c = 0
 at_ : 0 < n -> ∃ b off, p = some ⟨b, off, none⟩ /\ b < w.heap.size /\ ∀ i s, l[i]? = some s -> ∃ q0 m0 d0 q1 m1 d1 q2 m2 d2,
  w.cell? ⟨b, off + i * 3, none⟩ = some (.slice q0 m0 d0) /\ w.cell? ⟨b, off + i * 3 + 1, none⟩ = some (.slice q1 m1 d1) /\ w.cell? ⟨b, off + i * 3 + 2, none⟩ = some (.slice q2 m2 d2) /\
  NatAt w q0 m0 d0 s.n /\ s.n < B32 e /\ NatAt w q1 m1 d1 s.base /\ s.base < B32 e /\ PList w e q2 m2 d2 s.ps
theorem PSteps.below {w w' : World} {e : Nat} {p : Option Addr} {n c : Nat} {l : List StepN} (h : PSteps w e p n c l) (hb : Below w.heap.size w w') : PSteps w' e p n c l := by
 refine ⟨h.len, h.cap, h.max, h.nil, fun h0 => ?_⟩
 obtain ⟨b, off, h1, h2, h3⟩ := h.at_ h0
 refine ⟨b, off, h1, Nat.lt_of_lt_of_le h2 hb.size, fun i s hs => ?_⟩
 obtain ⟨q0, m0, d0, q1, m1, d1, q2, m2, d2, k0, k1, k2, k3, k4, k5, k6, k7⟩ := h3 i s hs
 have hc : ∀ o, w'.cell? ⟨b, o, none⟩ = w.cell? ⟨b, o, none⟩ := fun o => hb.cell (p := ⟨b, o, none⟩) h2
 exact ⟨q0, m0, d0, q1, m1, d1, q2, m2, d2, by rw [hc]; exact k0, by rw [hc]; exact k1, by rw [hc]; exact k2, k3.below hb, k4, k5.below hb, k6, k7.below hb⟩
def TooLong (s : StepN) : Prop := 1024 < blen s.n ∨ 1024 < blen s.base ∨ ∃ p ∈ s.ps, 1024 < blen p
open Classical in
def SmallDoes : Prop := ∀ (w : World) (N e : Nat) (v : Value), Fit e N v w -> e <= 200 ->
 Calls Tryz.prog 168 #[v] w fun en w' => en = .returned (.bool (decide (SmallP N))) /\ Below w.heap.size w w'
open Classical in
theorem small_does : SmallDoes := by
 intro w N e v hv he
 obtain ⟨p, n, c, rfl, h1, h2⟩ := hv
 have hn : n < 1000000 := by have := h1.len_le h2; omega
 have hbx := Box1.mk1 w (.slice p n c) 36
 have H1 := hol (h1.below hbx.bel)
 have HBX := hol hbx.bel
 clear h1 h2 hbx
 by_cases hb : blen N <= 64
 ·by_cases hlow : N < 2
  ·have hno : Hold (decide (SmallP N) = false) := ⟨decide_eq_false fun hs => by have := hs.1; omega⟩
   have hlow' : (N : Int) < 2 := by omega
   have HB := hol hb
   clear hb hlow
   go_enter Tryz.func168, Tryz.ntmps168
   go_wp2_with fail
   refine (uint_calls _ p n c N H1.out hn).mono ?_
   rintro en w1 ⟨rfl, hb1⟩
   rw [if_pos HB.out, decide_eq_true HB.out]
   have HB1 := hol (bstep HBX.out hb1)
   clear hb1
   go_wp2
   go_ret
   exact ⟨by rw [hno.out]; rfl, HB1.out⟩
  ·by_cases hhigh : 65536 <= N
   ·have hno : Hold (decide (SmallP N) = false) := ⟨decide_eq_false fun hs => by have := hs.2.1; omega⟩
    have hlow' : ¬ (N : Int) < 2 := by omega
    have hhigh' : (65536 : Int) <= N := by omega
    obtain ⟨K, hgK⟩ : ∃ K : Int, (65536 : Int) = K := ⟨_, rfl⟩
    rw [hgK] at hhigh'
    have HB := hol hb
    clear hb hlow hhigh
    go_enter Tryz.func168, Tryz.ntmps168
    go_wp2_with fail
    refine (uint_calls _ p n c N H1.out hn).mono ?_
    rintro en w1 ⟨rfl, hb1⟩
    rw [if_pos HB.out, decide_eq_true HB.out]
    have HB1 := hol (bstep HBX.out hb1)
    clear hb1
    go_upto_region 2 with fail
    rw [hgK]
    clear hgK
    go_wp2
    go_ret
    exact ⟨by rw [hno.out]; rfl, HB1.out⟩
   ·have hlow' : ¬ (N : Int) < 2 := by omega
    have hhigh' : ¬ (65536 : Int) <= N := by omega
    have HLT : Hold (N < 65536) := ⟨by omega⟩
    have H2 : Hold (2 <= N) := ⟨by omega⟩
    obtain ⟨K, hgK⟩ : ∃ K : Int, (65536 : Int) = K := ⟨_, rfl⟩
    rw [hgK] at hhigh'
    have HB := hol hb
    clear hb hlow hhigh
    go_enter Tryz.func168, Tryz.ntmps168
    go_wp2_with fail
    refine (uint_calls _ p n c N H1.out hn).mono ?_
    rintro en w1 ⟨rfl, hb1⟩
    rw [if_pos HB.out, decide_eq_true HB.out]
    have HB1 := hol (bstep HBX.out hb1)
    clear hb1
    go_upto_region 2 with fail
    rw [hgK]
    clear hgK
    go_wp2
    go_loopw [5] (fun dv wr => w1 = wr /\ ∃ d : Nat, 2 <= d /\ d <= 256 /\ dv = .int .u64 d /\ Hold (∀ e, 2 <= e -> e < d -> N % e ≠ 0)) (fun dv _ => 300 - (intOf dv).toNat)
    case atStart => exact ⟨rfl, 2, by omega, by omega, rfl, ⟨fun e h1 h2 => by omega⟩⟩
    case round =>
     obtain ⟨rfl, d, hd2, hd, rfl, HD⟩ := hrel
     obtain ⟨S, hS⟩ : ∃ S, d * d = S := ⟨_, rfl⟩
     have hS' : (d : Int) * d = (S : Nat) := by rw [<- hS]; simp
     have hSl : S <= 65536 := by rw [<- hS]; exact Nat.mul_le_mul hd hd
     have HSl := hol hSl
     have hSw : IntKind.u64.wrap ((S : Nat) : Int) = S := IntWalk.u64_in _ ⟨by omega, by omega⟩
     clear hSl
     by_cases hdd : S <= N
     ·have hdlt : d < 256 := Nat.lt_of_not_le fun hge => by
       have := Nat.mul_le_mul hge hge
       have := HLT.out
       omega
      have hmod : (N : Int).tmod d = ((N % d : Nat) : Int) := by rw [Int.tmod_eq_emod_of_nonneg (by omega)]; simp
      obtain ⟨R, hR⟩ : ∃ R, N % d = R := ⟨_, rfl⟩
      rw [hR] at hmod
      have hd0 : ¬ (d : Int) = 0 := by omega
      have hdd' : (S : Int) <= N := by omega
      rcases Nat.eq_zero_or_pos R with h0 | h0
      ·have hno : Hold (decide (SmallP N) = false) := ⟨decide_eq_false fun hs => hs.2.2 d hd2 (by omega) (by omega)⟩
       subst h0
       have hS2 := Lib.hid hS
       have hR2 := Lib.hid hR
       clear hS hR
       go_wp2
       go_ret
       exact ⟨by rw [hno.out]; rfl, HB1.out⟩
      ·have hR0 : ((R : Int) == 0) = false := by rw [beq_eq_false_iff_ne]; omega
       have HD' : Hold (∀ e, 2 <= e -> e < d + 1 -> N % e ≠ 0) := ⟨fun e h1 h2 => by
        rcases (by omega : e < d ∨ e = d) with h3 | rfl
        ·exact HD.out e h1 h3
        ·omega⟩
       have hS2 := Lib.hid hS
       have hR2 := Lib.hid hR
       clear hS hR
       go_wp2
       go_roundw
       case rel => exact ⟨trivial, d + 1, by omega, by omega, by go_num, HD'⟩
       case measure => simp [intOf]; omega
     ·have hdd' : ¬ (S : Int) <= N := by omega
      have hyes : Hold (decide (SmallP N) = true) := ⟨decide_eq_true ⟨H2.out, HLT.out, fun e h1 h2 => HD.out e h1 (Nat.lt_of_not_le fun hge => by
       have := Nat.mul_le_mul hge hge
       omega)⟩⟩
      have hS2 := Lib.hid hS
      clear hS
      go_wp2
      go_ret
      exact ⟨by rw [hyes.out]; rfl, HB1.out⟩
 ·have hno : Hold (decide (SmallP N) = false) := ⟨decide_eq_false fun hs => hb ((blen_le N 64).2 (Nat.lt_trans hs.2.1 (by decide)))⟩
  have HB := hol hb
  clear hb
  go_enter Tryz.func168, Tryz.ntmps168
  go_wp2_with fail
  refine (uint_calls _ p n c N H1.out hn).mono ?_
  rintro en w1 ⟨rfl, hb1⟩
  rw [if_neg HB.out, decide_eq_false HB.out]
  have HB1 := hol (bstep HBX.out hb1)
  clear hb1
  go_wp2
  go_ret
  exact ⟨by rw [hno.out]; rfl, HB1.out⟩
def U64 (n : Nat) : Prop := n < 18446744073709551616
structure Box3 (t : TypeId) (w : World) (b : Nat) (v0 v1 v2 : Value) : Prop where
 at_ : w.heap[b]? = some (.cells #[v0, v1, v2] t (0, 0))
theorem Box3.lt {t : TypeId} {w : World} {b : Nat} {v0 v1 v2 : Value} (h : Box3 t w b v0 v1 v2) : b < w.heap.size := (Array.getElem?_eq_some_iff.1 h.at_).1
theorem Box3.below {t : TypeId} {w w' : World} {B b : Nat} {v0 v1 v2 : Value} (h : Box3 t w b v0 v1 v2) (hb : Below B w w') (hB : b < B) : Box3 t w' b v0 v1 v2 := ⟨by rw [hb.block b hB]; exact h.at_⟩
theorem Box3.cells {t : TypeId} {w : World} {b : Nat} {v0 v1 v2 : Value} (h : Box3 t w b v0 v1 v2) : w.cell? ⟨b, 0, none⟩ = some v0 /\ w.cell? ⟨b, 1, none⟩ = some v1 /\ w.cell? ⟨b, 2, none⟩ = some v2 := by
 have := h.at_
 simp [World.cell?, this]
theorem Box3.made (t : TypeId) (w : World) (v0 v1 v2 : Value) : Box3 t (w.alloc (.cells #[v0, v1, v2] t)) w.heap.size v0 v1 v2 := ⟨heap_alloc_new w _⟩
section
variable {At : World -> Option Addr -> Nat -> Nat -> Nat -> Prop} {mk : Option Addr -> Nat -> Nat -> Value} {t : TypeId} {w0 : World} {N B : Nat} {d2 d5 d6 d7 : Bool} {v2 v5 v6 v7 : Value} {w : World}
end
def MovedV (w : World) (v v' : Value) : Prop := v'.ownBlock = v.ownBlock ∨ ∀ g, v'.ownBlock = some g -> w.heap.size <= g
theorem run_appV {w : World} {B n size bytes : Nat} {st e : TypeId} {i : TypeInfo} {z : Value} (hu : Tryz.prog.underlying st = some (.slice e)) (hi : Tryz.prog.info? e = some i) (hz : i.zero = some z)
  (hs : i.size = size) (hb : i.bytes = bytes) (hzs : z.cells.size = size) (h0 : 0 < size) {v : Value} {us : List Value} (h : w.ownsRow B e size v n us) {a : Addr} {m c : Nat} {news : List Value} (hl : news.length = m * size)
  (hcell : ∀ j u, news[j]? = some u -> w.cell? (a.add j) = some u) (hone : ∀ u ∈ news, u.oneCell' = true) (hmax : n + m <= maxLen) (hbytes : (n + m) * bytes <= 140737488355328) (hB : B <= w.heap.size) (ty : TypeId) :
  ∃ v' w', (Builtin.append_ #[st, st] ty #[v, .slice (some a) m c]).run Tryz.prog w = .ok v' w' /\ w'.ownsRow B e size v' (n + m) (us ++ news) /\ w.grownBy w' v.ownBlock /\ MovedV w v v' := by
 obtain ⟨v', w', h1, h2, h3, _⟩ := run_append_own (P := Tryz.prog) w B st ty e i z size bytes hu hi hz hs hb hzs h0 v n us h a m c news hl hcell hone hmax hbytes hB
 refine ⟨v', w', h1, h2, h3, ?_⟩
 rcases h.2 with ⟨rfl, hn0⟩ | ⟨g, cap, cur, rfl, hbg, hg, hnc, hcm, hcs, ht⟩
 ·obtain ⟨v2, w2, k1, k2, _, _⟩ := run_append_own (P := Tryz.prog) w w.heap.size st ty e i z size bytes hu hi hz hs hb hzs h0 (.slice none 0 0) 0 [] (World.ownsRow_nil w _ _ _) a m c news hl hcell hone (by omega) (Nat.le_trans (Nat.mul_le_mul_right _ (by omega)) hbytes) (Nat.le_refl _)
  rw [h1] at k1
  injection k1 with k3 k4
  subst k3
  refine .inr fun g hg => ?_
  rcases k2.2 with ⟨e', _⟩ | ⟨g', cap, cur, e', hb', _⟩
  ·rw [e'] at hg; cases hg
  ·rw [e'] at hg
   obtain rfl : g' = g := by simpa [Value.ownBlock] using hg
   exact hb'
 ·by_cases hroom : n + m <= cap
  ·have hfit : n * i.size + news.length <= cur.size := by rw [hs, hcs, hl, <- Nat.add_mul]; exact Nat.mul_le_mul_right _ hroom
   have k1 := run_append_room (P := Tryz.prog) w st ty e i hu hi g n cap cur hg a m c news (by rw [hs]; exact hl) hcell hone hroom hfit
   rw [h1] at k1
   injection k1 with k2 _
   exact .inl (by rw [k2]; rfl)
  ·obtain ⟨v2, w2, k1, k2, _⟩ := run_append_arg_grows (P := Tryz.prog) w st ty e i z size bytes hu hi hz hs hb hzs h0 ⟨g, 0, none⟩ n cap us h.1
    (fun j u hj => World.ownsRow.cells h rfl j u hj) a m c news hl hcell (by omega) hmax hbytes
   rw [h1] at k1
   injection k1 with k3 k4
   subst k3
   refine .inr fun g hg => ?_
   rcases k2.2 with ⟨e', _⟩ | ⟨g', cap, cur, e', hb', _⟩
   ·rw [e'] at hg; cases hg
   ·rw [e'] at hg
    obtain rfl : g' = g := by simpa [Value.ownBlock] using hg
    exact hb'
structure Agree (bad : Nat -> Prop) (w w' : World) : Prop where
 size : w.heap.size <= w'.heap.size
 block : ∀ b, b < w.heap.size -> ¬ bad b -> w'.heap[b]? = w.heap[b]?
theorem Agree.trans {bad : Nat -> Prop} {a b c : World} (h : Agree bad a b) (k : Agree bad b c) : Agree bad a c :=
 ⟨Nat.le_trans h.size k.size, fun x hx hn => by rw [k.block x (Nat.lt_of_lt_of_le hx h.size) hn, h.block x hx hn]⟩
theorem Agree.of {bad : Nat -> Prop} {w w' : World} (h : Below w.heap.size w w') : Agree bad w w' := ⟨h.size, fun b hb _ => h.block b hb⟩
theorem Agree.grown {bad : Nat -> Prop} {w w' : World} {row : Option Nat} (h : w.grownBy w' row) (hr : ∀ g, row = some g -> bad g) : Agree bad w w' :=
 ⟨h.size, fun b hb hn => h.block b hb fun e => hn (hr b e.symm)⟩
theorem Agree.set {bad : Nat -> Prop} (w : World) (g o : Nat) (u : Value) (hg : bad g) : Agree bad w (w.setCell ⟨g, o, none⟩ u) :=
 ⟨by simp, fun b _ hn => Below.heap_setCell _ _ _ _ fun e => hn (by rw [show b = g from e]; exact hg)⟩
def Firm (F : World -> Prop) (bad : Nat -> Prop) (w : World) : Prop := ∀ w', Agree bad w w' -> F w'
theorem Firm.out {F : World -> Prop} {bad : Nat -> Prop} {w : World} (h : Firm F bad w) : F w := h w ⟨Nat.le_refl _, fun _ _ _ => rfl⟩
theorem Firm.step {F : World -> Prop} {bad : Nat -> Prop} {w w' : World} (h : Firm F bad w) (a : Agree bad w w') : Firm F bad w' := fun w2 k => h w2 (a.trans k)
structure NumStands (At : World -> Option Addr -> Nat -> Nat -> Nat -> Prop) : Prop where
 stay : ∀ {w w' p n c N}, At w p n c N -> w.heap.size <= w'.heap.size -> (∀ q, p = some q -> ∀ o, w'.cell? ⟨q.block, o, none⟩ = w.cell? ⟨q.block, o, none⟩) -> At w' p n c N
 lt : ∀ {w p n c N}, At w p n c N -> ∀ q, p = some q -> q.block < w.heap.size
theorem natStands : NumStands NatAt := ⟨fun {w w' p n c N} h hz hc => by
 obtain ⟨ws, r1, r2, r3, r4⟩ := h.ex
 refine ⟨ws, ⟨r1.len, r1.cap, r1.max, ?_⟩, r2, r3, r4⟩
 rcases r1.at_ with k | ⟨b, off, k1, k2, k3⟩
 ·exact .inl k
 ·exact .inr ⟨b, off, k1, Nat.lt_of_lt_of_le k2 hz, fun i x hx => by rw [hc _ k1]; exact k3 i x hx⟩, fun {w p n c N} h q hq => by
 obtain ⟨ws, r1, _⟩ := h.ex
 rcases r1.at_ with k | ⟨b, off, k1, k2, k3⟩
 ·rw [k.1] at hq; cases hq
 ·rw [k1] at hq; cases hq; exact k2⟩
theorem NumStands.firm {At : World -> Option Addr -> Nat -> Nat -> Nat -> Prop} (S : NumStands At) {w : World} {p : Option Addr} {n c N : Nat} (h : At w p n c N) {bad : Nat -> Prop} (hb : ∀ q, p = some q -> ¬ bad q.block) : Firm (fun w => At w p n c N) bad w :=
 fun _ k => S.stay h k.size fun q hq o => World.cell?_of_block (a := ⟨q.block, o, none⟩) (k.block q.block (S.lt h q hq) (hb q hq))
theorem NumStands.fresh {At : World -> Option Addr -> Nat -> Nat -> Nat -> Prop} (S : NumStands At) {w : World} {p : Option Addr} {n c N B : Nat} (h : At w p n c N) (hn : New B p) {bad : Nat -> Prop} (hb : ∀ b, bad b -> b < B) : Firm (fun w => At w p n c N) bad w :=
 S.firm h fun q hq e => by have := hb _ e; have := hn q hq; omega
structure OwnV (At : World -> Option Addr -> Nat -> Nat -> Nat -> Prop) (e : TypeId) (B : Nat) (bad : Nat -> Prop) (w : World) (v : Value) (Ns : List Nat) : Prop where
 ex : ∃ vs : List Value, w.ownsRow B e 1 v Ns.length vs /\ vs.length = Ns.length /\ ∀ (i N : Nat), Ns[i]? = some N -> ∃ x : Option Addr × Nat × Nat, vs[i]? = some (.slice x.1 x.2.1 x.2.2) /\ Firm (fun w => At w x.1 x.2.1 x.2.2 N) bad w
section
variable {At : World -> Option Addr -> Nat -> Nat -> Nat -> Prop} {e : TypeId} {B : Nat} {bad : Nat -> Prop} {w : World} {v : Value} {Ns : List Nat}
theorem ownsRow_keep {w' : World} {n size : Nat} {us : List Value} (h : w.ownsRow B e size v n us) (hk : ∀ g, v.ownBlock = some g -> w'.heap[g]? = w.heap[g]?) : w'.ownsRow B e size v n us := by
 refine ⟨h.1, ?_⟩
 rcases h.2 with h4 | ⟨g, cap, cur, e', hbg, hg, h5⟩
 ·exact .inl h4
 ·exact .inr ⟨g, cap, cur, e', hbg, by rw [hk g (by rw [e']; rfl)]; exact hg, h5⟩
theorem ownsRow_block {n size : Nat} {us : List Value} (h : w.ownsRow B e size v n us) : ∀ g, v.ownBlock = some g -> B <= g /\ g < w.heap.size := by
 intro g hg
 rcases h.2 with ⟨rfl, _⟩ | ⟨g', cap, cur, rfl, hbg, hg', _⟩
 ·cases hg
 ·obtain rfl : g' = g := by simpa [Value.ownBlock] using hg
  exact ⟨hbg, (Array.getElem?_eq_some_iff.1 hg').1⟩
theorem OwnV.block (h : OwnV At e B bad w v Ns) : ∀ g, v.ownBlock = some g -> B <= g /\ g < w.heap.size := by obtain ⟨_, h1, _⟩ := h.ex; exact ownsRow_block h1
theorem OwnV.step {w' : World} (h : OwnV At e B bad w v Ns) (a : Agree bad w w') (hk : ∀ g, v.ownBlock = some g -> w'.heap[g]? = w.heap[g]?) : OwnV At e B bad w' v Ns := by
 obtain ⟨vs, h1, h2, h3⟩ := h.ex
 refine ⟨vs, ownsRow_keep h1 hk, h2, fun i N hN => ?_⟩
 obtain ⟨x, k1, k2⟩ := h3 i N hN
 exact ⟨x, k1, k2.step a⟩
theorem OwnV.below {w' : World} (h : OwnV At e B bad w v Ns) (hb : Below w.heap.size w w') : OwnV At e B bad w' v Ns := h.step (.of hb) fun g hg => hb.block g (h.block g hg).2
theorem OwnV.app {st : TypeId} {bytes : Nat} {i : TypeInfo} (hu : Tryz.prog.underlying st = some (.slice e)) (hi : Tryz.prog.info? e = some i)
  {z : Value} (hz : i.zero = some z) (hs : i.size = 1) (hb : i.bytes = bytes) (hzs : z.cells.size = 1) (hby : bytes <= 1000) (h : OwnV At e B bad w v Ns) (hB : B <= w.heap.size) {a : Addr} {c N : Nat} {x : Option Addr × Nat × Nat} (hc : w.cell? a = some (.slice x.1 x.2.1 x.2.2))
  (hN : Firm (fun w => At w x.1 x.2.1 x.2.2 N) bad w) (hv : ∀ g, v.ownBlock = some g -> bad g) (hl : Ns.length <= 1000000) (ty : TypeId) :
  ∃ v' w', (Builtin.append_ #[st, st] ty #[v, .slice (some a) 1 c]).run Tryz.prog w = .ok v' w' /\ OwnV At e B bad w' v' (Ns ++ [N]) /\ w.grownBy w' v.ownBlock /\ MovedV w v v' := by
 obtain ⟨vs, h1, h2, h3⟩ := h.ex
 have ha0 : a.add 0 = a := by obtain ⟨b, o, s⟩ := a; simp [Addr.add]
 obtain ⟨v', w', k1, k2, k3, k4⟩ := run_appV hu hi hz hs hb hzs (by decide) h1 (a := a) (m := 1) (c := c) (news := [.slice x.1 x.2.1 x.2.2]) rfl
  (fun j u hj => by
   cases j with
   | zero => simp at hj; subst hj; rw [ha0]; exact hc
   | succ j => simp at hj)
  (fun u hj => by simp at hj; subst hj; rfl) (by simp only [maxLen]; omega) (Nat.le_trans (Nat.mul_le_mul (Nat.add_le_add_right hl 1) hby) (by decide)) hB ty
 have ag : Agree bad w w' := .grown k3 hv
 refine ⟨v', w', k1, ⟨vs ++ [.slice x.1 x.2.1 x.2.2], by rw [List.length_append]; exact k2, by simp [h2], fun j M hM => ?_⟩, k3, k4⟩
 rcases Nat.lt_or_ge j Ns.length with hj | hj
 ·rw [List.getElem?_append_left hj] at hM
  obtain ⟨y, g1, g2⟩ := h3 j M hM
  exact ⟨y, by rw [List.getElem?_append_left (by omega)]; exact g1, g2.step ag⟩
 ·rw [List.getElem?_append_right hj] at hM
  obtain ⟨t, ht⟩ : ∃ t, j - Ns.length = t := ⟨_, rfl⟩
  rw [ht] at hM
  cases t with
  | zero =>
   simp at hM
   subst hM
   exact ⟨x, by rw [List.getElem?_append_right (by omega), h2, ht]; rfl, hN.step ag⟩
  | succ t => simp at hM
theorem OwnV.elim (h : OwnV At e B bad w v Ns) : ∃ p c, v = .slice p Ns.length c /\ Ns.length <= c /\ c <= 9223372036854775807 /\ (p = none -> c = 0) /\
  (0 < Ns.length -> ∃ b off, p = some ⟨b, off, none⟩ /\ b < w.heap.size /\ ∀ (i N : Nat), Ns[i]? = some N -> ∃ q m d, w.cell? ⟨b, off + i, none⟩ = some (.slice q m d) /\ At w q m d N) := by
 obtain ⟨vs, h1, h2, h3⟩ := h.ex
 rcases h1.2 with ⟨rfl, h0⟩ | ⟨g, cap, cur, rfl, hb, hg, hnc, hcm, hcs, ht⟩
 ·exact ⟨none, 0, by rw [h0], by omega, by omega, fun _ => rfl, fun h => by omega⟩
 ·have hlt : g < w.heap.size := (Array.getElem?_eq_some_iff.1 hg).1
  refine ⟨some ⟨g, 0, none⟩, cap, rfl, hnc, by simpa [maxLen] using hcm, (fun h => by cases h), fun _ => ⟨g, 0, rfl, hlt, fun i N hN => ?_⟩⟩
  obtain ⟨x, h4, h5⟩ := h3 i N hN
  refine ⟨x.1, x.2.1, x.2.2, ?_, h5.out⟩
  have hi : i < Ns.length := (List.getElem?_eq_some_iff.1 hN).1
  have h6 : (cur.toList.take (Ns.length * 1))[i]? = some (.slice x.1 x.2.1 x.2.2) := by rw [ht]; exact h4
  rw [List.getElem?_take, if_pos (by omega)] at h6
  unfold World.cell?
  dsimp only
  rw [hg]
  simp only [Nat.zero_add]
  rw [Array.getElem?_toList] at h6
  exact h6
end
theorem OwnV.plist {t : TypeId} {B e : Nat} {bad : Nat -> Prop} {w : World} {v : Value} {Ns : List Nat} (h : OwnV NatAt t B bad w v Ns) (hl : ∀ N ∈ Ns, N < B32 e) : ∃ p c, v = .slice p Ns.length c /\ PList w e p Ns.length c Ns := by
 obtain ⟨p, c, h1, h2, h3, h4, h5⟩ := h.elim
 refine ⟨p, c, h1, rfl, h2, h3, h4, fun h0 => ?_⟩
 obtain ⟨b, off, g1, g2, g3⟩ := h5 h0
 exact ⟨b, off, g1, g2, fun i N hN => let ⟨q, m, d, k1, k2⟩ := g3 i N hN; ⟨q, m, d, k1, k2, hl N (List.mem_of_getElem? hN)⟩⟩
end Go.Proofs.YthgoeiegdhphjaaGreatDoor
