/- A group's plain calls: its numbers, its field, its size; of no group. -/
import Derived.Test.YthgoeiegdhphjaaGreatDoorMacE
import Derived.Test.YthgoeiegdhphjaaGreatDoorGrpN
import Derived.Laws.OwnMore
import Derived.Lib.AppendZeros
import Derived.ArgAppend
import Derived.Test.YthgoeiegdhphjaaGreatDoorExp
import Derived.Test.YthgoeiegdhphjaaGreatDoorCpD
set_option maxRecDepth 1000000
set_option maxHeartbeats 16000000
set_option linter.unusedSimpArgs false
set_option linter.unusedVariables false
namespace Go.Proofs.YthgoeiegdhphjaaGreatDoor
open Go Go.RowKit Go.Proofs.YthgoeiegdhphjaaGreatDoor.Flow
theorem extract_calls (w : World) (pk : Option Addr) (nk ck : Nat) (salt : List Nat) (ps : Option Addr) (ns cs : Nat) (secret : List Nat) (hT : Tabs w) (hK : PartOk w ⟨pk, nk, ck, salt⟩) (hS : PartOk w ⟨ps, ns, cs, secret⟩) :
  Calls Tryz.prog 224 #[.slice pk nk ck, .slice ps ns cs] w (GivesSum (tagged salt secret) w) := by
 have hb : Below w.heap.size w (w.alloc (.cells #[.slice ps ns cs] 60)) := bal
 have hz := hb.size
 have HC := hol (macTag_calls (w.alloc (.cells #[.slice ps ns cs] 60)) pk nk ck salt _ _ _ [⟨ps, ns, cs, secret⟩] (hT.below hb hT.size) (hK.below hb).row hK.bytes (parts1 w ⟨ps, ns, cs, secret⟩ hS))
 have HB := hol hb
 clear hT hK hS hb
 go_enter Tryz.func224, Tryz.ntmps224
 go_wp2_with fail
 refine HC.out.mono ?_
 rintro e w1 ⟨q, rfl, hq, hb1, hk⟩
 rw [whole_one] at hk
 go_wp2
 go_ret
 exact ⟨q, rfl, by omega, bstepS HB.out hb1, hk⟩
theorem derive_calls (w : World) (pk : Option Addr) (nk ck : Nat) (salt : List Nat) (ps : Option Addr) (ns cs : Nat) (secret : List Nat) (pi : Option Addr) (ni ci : Nat) (info : List Nat) (n : Nat) (hT : Tabs w) (hK : PartOk w ⟨pk, nk, ck, salt⟩) (hS : PartOk w ⟨ps, ns, cs, secret⟩) (hI : PartOk w ⟨pi, ni, ci, info⟩) (hn : n <= 8160) :
  Calls Tryz.prog 205 #[.slice pk nk ck, .slice ps ns cs, .slice pi ni ci, .int .i64 n] w (GivesExp n ((exps (hmac salt secret) info ((n + 31) / 32)).take n) w) := by
 have HC := hol (extract_calls w pk nk ck salt ps ns cs secret hT hK hS)
 have HI : Hold (PartOk w ⟨pi, ni, ci, info⟩) := ⟨hI⟩
 have HT : Hold (Tabs w) := ⟨hT⟩
 clear hT hK hS hI
 go_enter Tryz.func205, Tryz.ntmps205
 go_wp2_with fail
 refine HC.out.mono ?_
 rintro e w1 ⟨q, rfl, hq, hb1, hk⟩
 have hr : RowIn w1 .u8 (some ⟨q, 0, none⟩) 32 32 (hmac salt secret) := ⟨(hmac_length _ _).symm, Nat.le_refl _, by omega, fun _ => hk.row (hmac_length _ _).symm (Nat.le_refl _) (by omega)⟩
 go_wp2_with fail
 refine (expand_calls w1 _ _ _ (hmac salt secret) pi ni ci info n (HT.out.below hb1 HT.out.size) hr (hmac_bytes _ _) (HI.out.below hb1) hn).mono ?_
 rintro e w2 ⟨p, rfl, hr2, hn2, hb2, hz2⟩
 have hz := hb1.size
 have HE := hol hr2
 have HN : Hold (New w.heap.size p /\ (p = none -> n = 0)) := ⟨hn2.mono hz, hz2⟩
 clear hr2 hn2 hz2 hr hk
 go_wp2
 exact bodyPost_ret (v := .tuple #[.slice p n n, .int .i64 0]) (by simp [results, Tryz.results205, go_sem]) rfl ⟨p, rfl, HE.out, HN.out.1, bstepS hb1 hb2, HN.out.2⟩
def le8 (n : Nat) : List Nat := (List.range 8).map fun i => n / 256 ^ i % 256
theorem le8_length (n : Nat) : (le8 n).length = 8 := by simp [le8]
theorem le8_bytes (n : Nat) : Bytes8 (le8 n) := fun x hx => by
 simp only [le8, List.mem_map] at hx
 obtain ⟨i, _, rfl⟩ := hx
 exact Nat.mod_lt _ (by decide)
def saidOf : List (List Nat) -> List Nat
 | [] => []
 | p :: L => le8 p.length ++ p ++ saidOf L
theorem saidOf_snoc : ∀ (L : List (List Nat)) (p : List Nat), saidOf (L ++ [p]) = saidOf L ++ (le8 p.length ++ p)
 | [], p => by simp [saidOf]
 | a :: L, p => by simp [saidOf, saidOf_snoc L p]
def mprod (P : Nat) : Nat -> List (Nat × Nat) -> Nat
 | x, [] => x
 | x, (b, e) :: l => mprod P (x * (b ^ e % P) % P) l
theorem mprod_lt {P : Nat} (hP : 2 <= P) : ∀ (l : List (Nat × Nat)) (x : Nat), x < P -> mprod P x l < P
 | [], _, h => h
 | (_, _) :: l, _, _ => mprod_lt hP l _ (Nat.mod_lt _ (by omega))
theorem NatAt.grown {w w' : World} {p : Option Addr} {n c N g : Nat} (h : NatAt w p n c N) (hg : w.grownBy w' (some g)) (hp : ∀ q, p = some q -> q.block ≠ g) : NatAt w' p n c N :=
 let ⟨ws, h1, h2, h3, h4⟩ := h.ex
 ⟨ws, h1.grown hg hp, h2, h3, h4⟩
theorem told_prime {N : Nat} {l : List StepN} (h : Told N l) : Prime N := by
 rcases h with h | ⟨h, s, hs, rfl⟩
 ·exact h.prime
 ·exact chain_prime l [] (fun x hx => by cases hx) h s hs
def hNum (seed : List Nat) (P c : Nat) : Nat := be ((exps (hmac [] seed) [104, c] ((bsize P + 8 + 31) / 32)).take (bsize P + 8))
def firstH (f : Nat -> Nat) : Nat -> Nat -> Option Nat
 | 0, _ => none
 | k + 1, c => if 1 < f c then some (f c) else firstH f k (c + 1)
def RightG (P Q G : Nat) : Prop := (P - 1) % Q = 0 /\ 64 < Q /\ 1 < G /\ G < P /\ G ^ Q % P = 1
open Classical in
noncomputable def newSpec (P Q G : Nat) (seed : List Nat) (l : List StepN) : Nat × Nat :=
 if Told P l /\ Told Q l then
  if RightG P Q G then
   match firstH (fun c => hNum seed P c ^ ((P - 1) / Q) % P) 256 0 with
   | some h => (0, h)
   | none => (6, 0)
  else (1, 0)
 else (8, 0)
theorem be_append (xs ys : List Nat) : be (xs ++ ys) = be xs * B8 ys.length + be ys := by
 unfold be
 rw [List.reverse_append, le_append, List.length_reverse, Nat.mul_comm (B8 _), Nat.add_comm]
theorem foldl_be : ∀ (bs : List Nat) (a : Nat), bs.foldl (fun n x => n * 256 + x) a = a * B8 bs.length + be bs
 | [], a => by simp [be, le, B8_zero]
 | x :: xs, a => by
  rw [List.foldl_cons, foldl_be xs, show x :: xs = [x] ++ xs from rfl, be_append, List.length_append, List.length_singleton, Nat.add_comm 1, B8_succ]
  have h1 : be [x] = x := by simp [be, le]
  rw [h1, Nat.add_mul, Nat.mul_assoc, Nat.add_assoc]
theorem numB_be (bs : List Nat) : numB bs = be bs := by
 unfold numB; rw [foldl_be]; simp
def prodN : List (Nat × Nat) -> Nat
 | [] => 1
 | (b, e) :: l => b ^ e * prodN l
theorem mprod_mod (P : Nat) : ∀ (l : List (Nat × Nat)) (x : Nat), mprod P x l % P = x * prodN l % P
 | [], x => by simp [mprod, prodN]
 | (b, e) :: l, x => by
  rw [mprod, mprod_mod P l, prodN, Nat.mod_mul_mod, Nat.mul_assoc x (b ^ e % P), <- Nat.mul_mod_mod x (b ^ e % P * prodN l), Nat.mod_mul_mod, Nat.mul_mod_mod]
theorem mprod_val {P : Nat} (hP : 2 <= P) (l : List (Nat × Nat)) : mprod P 1 l = prodN l % P := by
 have := mprod_mod P l 1
 rw [Nat.mod_eq_of_lt (mprod_lt hP l 1 (by omega)), Nat.one_mul] at this
 exact this
theorem prodN_snoc : ∀ (l : List (Nat × Nat)) (b e : Nat), prodN (l ++ [(b, e)]) = prodN l * b ^ e
 | [], b, e => by simp [prodN]
 | (c, d) :: l, b, e => by rw [List.cons_append, prodN, prodN_snoc l, prodN, Nat.mul_assoc]
def cutE (i : Nat) (l : List (Nat × Nat)) : List (Nat × Nat) := l.map fun p => (p.1, p.2 / 2 ^ i)
def bitE (i : Nat) (l : List (Nat × Nat)) : List (Nat × Nat) := l.map fun p => (p.1, p.2 / 2 ^ i % 2)
theorem cutE_zero (l : List (Nat × Nat)) : cutE 0 l = l := by simp [cutE]
theorem prod_cut (i : Nat) : ∀ l : List (Nat × Nat), prodN (cutE i l) = prodN (cutE (i + 1) l) * prodN (cutE (i + 1) l) * prodN (bitE i l)
 | [] => rfl
 | (b, e) :: l => by
  have h1 : e / 2 ^ i = e / 2 ^ (i + 1) + e / 2 ^ (i + 1) + e / 2 ^ i % 2 := by
   rw [Nat.pow_succ, <- Nat.div_div_eq_div_mul]; omega
  have h2 : b ^ (e / 2 ^ i) = b ^ (e / 2 ^ (i + 1)) * b ^ (e / 2 ^ (i + 1)) * b ^ (e / 2 ^ i % 2) := by
   rw [<- Nat.pow_add, <- Nat.pow_add, <- h1]
  show b ^ (e / 2 ^ i) * prodN (cutE i l) = (b ^ (e / 2 ^ (i + 1)) * prodN (cutE (i + 1) l)) * (b ^ (e / 2 ^ (i + 1)) * prodN (cutE (i + 1) l)) * (b ^ (e / 2 ^ i % 2) * prodN (bitE i l))
  rw [h2, prod_cut i l]
  ac_rfl
theorem prod_top (i : Nat) : ∀ l : List (Nat × Nat), (∀ p ∈ l, p.2 < 2 ^ i) -> prodN (cutE i l) = 1
 | [], _ => rfl
 | (b, e) :: l, h => by
  show b ^ (e / 2 ^ i) * prodN (cutE i l) = 1
  rw [prod_top i l fun p hp => h p (List.mem_cons_of_mem _ hp), Nat.div_eq_of_lt (h (b, e) List.mem_cons_self)]
  simp
theorem bitE_take {i : Nat} {l : List (Nat × Nat)} {k b e : Nat} (h : l[k]? = some (b, e)) : bitE i (l.take (k + 1)) = bitE i (l.take k) ++ [(b, e / 2 ^ i % 2)] := by
 unfold bitE
 rw [snoc_take h, List.map_append]
 rfl
def mostN : List Nat -> Nat
 | [] => 0
 | x :: l => max (blen x) (mostN l)
theorem mostN_snoc : ∀ (l : List Nat) (x : Nat), mostN (l ++ [x]) = max (mostN l) (blen x)
 | [], x => by simp [mostN]
 | y :: l, x => by rw [List.cons_append, mostN, mostN_snoc l, mostN]; omega
theorem mostN_lt : ∀ (l : List Nat) (x : Nat), x ∈ l -> x < 2 ^ mostN l
 | y :: l, x, h => by
  rcases List.mem_cons.1 h with rfl | h
  ·exact Nat.lt_of_lt_of_le (blen_lt x) (Nat.pow_le_pow_right (by omega) (Nat.le_max_left _ _))
  ·exact Nat.lt_of_lt_of_le (mostN_lt l x h) (Nat.pow_le_pow_right (by omega) (Nat.le_max_right _ _))
theorem mostN_le {m : Nat} : ∀ (l : List Nat), (∀ x ∈ l, blen x <= m) -> mostN l <= m
 | [], _ => Nat.zero_le _
 | y :: l, h => Nat.max_le.2 ⟨h y List.mem_cons_self, mostN_le l fun x hx => h x (List.mem_cons_of_mem _ hx)⟩
theorem der_val {P X Y s : Nat} : ((X * (256 ^ s % P)) % P + Y) % P = (X * 256 ^ s + Y) % P := by
 rw [Nat.mul_mod_mod, Nat.mod_add_mod]
theorem hNum_cut (seed : List Nat) (P c : Nat) : ∃ bs : List Nat, (exps (hmac [] seed) [104, c] ((8 + bsize P + 31) / 32)).take (8 + bsize P) = bs /\ bs.length = 8 + bsize P /\ Bytes8 bs /\ be (bs.take 8) * 256 ^ bsize P + be (bs.drop 8) = hNum seed P c := by
 have hl : ((exps (hmac [] seed) [104, c] ((8 + bsize P + 31) / 32)).take (8 + bsize P)).length = 8 + bsize P := by
  rw [List.length_take, exps_length]; omega
 refine ⟨_, rfl, hl, (exps_bytes _ _ _).take _, ?_⟩
 obtain ⟨bs, hb⟩ : ∃ x, (exps (hmac [] seed) [104, c] ((8 + bsize P + 31) / 32)).take (8 + bsize P) = x := ⟨_, rfl⟩
 have hh : hNum seed P c = be bs := by rw [<- hb]; unfold hNum; rw [Nat.add_comm (bsize P) 8]
 rw [hb] at hl ⊢
 have h2 := be_append (bs.take 8) (bs.drop 8)
 rw [List.take_append_drop, List.length_drop, hl, show 8 + bsize P - 8 = bsize P by omega] at h2
 rw [hh, h2]
 rfl
theorem pow_cut (A t P : Nat) : (A % P) ^ t % P = A ^ t % P := (Nat.pow_mod A t P).symm
theorem firstH_hit {f : Nat -> Nat} {k c : Nat} (h : 1 < f c) : firstH f (k + 1) c = some (f c) := by rw [firstH, if_pos h]
theorem gSize_eq : ∀ i, i < 3 -> bsize (gP i) = gSize i
 | 0, _ => by kernel_rfl
 | 1, _ => by kernel_rfl
 | 2, _ => by kernel_rfl
 | _ + 3, h => by omega
theorem exps_one (key info : List Nat) : exps key info 1 = hmac key (info ++ [1]) := by
 simp [exps, tks]
theorem hNum_nil : ∀ i, i < 3 -> hNum [] (gP i) 0 = numB (gBytes i)
 | 0, h => by
  rw [numB_be]; unfold hNum; rw [gSize_eq 0 h, key_nil]
  show be ((exps _ _ 1).take 10) = _
  rw [exps_one]
  show be ((hmac _ [104, 0, 1]).take 10) = _
  rw [tk_nil]; rfl
 | 1, h => by
  rw [numB_be]; unfold hNum; rw [gSize_eq 1 h, key_nil]
  show be ((exps _ _ 1).take 11) = _
  rw [exps_one]
  show be ((hmac _ [104, 0, 1]).take 11) = _
  rw [tk_nil]; rfl
 | 2, h => by
  rw [numB_be]; unfold hNum; rw [gSize_eq 2 h, key_nil]
  show be ((exps _ _ 1).take 17) = _
  rw [exps_one]
  show be ((hmac _ [104, 0, 1]).take 17) = _
  rw [tk_nil]; rfl
 | _ + 3, h => by omega
theorem gTimes_div : ∀ i, i < 3 -> (gP i - 1) / gQ i = gTimes i
 | 0, _ => by decide
 | 1, _ => by decide
 | 2, _ => by decide
 | _ + 3, h => by omega
theorem gRight (i : Nat) (hi : i < 3) : RightG (gP i) (gQ i) (gG i) := by
 obtain ⟨h1, h2, h3, _⟩ := g_bounds i hi
 exact ⟨by rw [gTimes_eq i hi]; exact Nat.mul_mod_right _ _, h1, h2, h3, gG_member i hi⟩
theorem newSpec_g (i : Nat) (hi : i < 3) : newSpec (gP i) (gQ i) (gG i) [] (gChain i) = (0, gH i) := by
 have h1 : hNum [] (gP i) 0 ^ ((gP i - 1) / gQ i) % gP i = gH i := by rw [hNum_nil i hi, gTimes_div i hi, gH_eq i hi]
 have h2 := (g_bounds i hi).2.2.2.1
 unfold newSpec
 rw [if_pos ⟨gP_told i hi, gQ_told i hi⟩, if_pos (gRight i hi)]
 have h3 : firstH (fun c => hNum [] (gP i) c ^ ((gP i - 1) / gQ i) % gP i) 256 0 = some (gH i) := by
  rw [firstH_hit (by show 1 < _; rw [h1]; exact h2)]
  show some (hNum [] (gP i) 0 ^ ((gP i - 1) / gQ i) % gP i) = _
  rw [h1]
 rw [h3]
theorem gChain_few : ∀ i, i < 3 -> ∀ s ∈ gChain i, s.ps.length <= 1000
 | 0, _ => by intro s hs; cases hs
 | 1, _ => by intro s hs; rcases List.mem_singleton.1 hs with rfl; simp
 | 2, _ => by
  intro s hs
  rcases List.mem_cons.1 hs with rfl | hs
  ·simp
  ·rcases List.mem_singleton.1 hs with rfl; simp
 | _ + 3, h => by omega
theorem fit_nil (w : World) : Fit 0 0 (.agg #[.slice none 0 0]) w := Fit.of (NatAt.nil w) (by decide)
theorem modulus_nil (w : World) :
  Calls Tryz.prog 56 #[.pointer none] w fun en w' => en = .returned (.agg #[.slice none 0 0]) /\ Below w.heap.size w w' := by
 have hb1 := NatBox.made w (.slice none 0 0)
 have c1 := hb1.cell
 have f1 := hb1.free
 have hbel : Below w.heap.size w (w.alloc (.cells #[.slice none 0 0] 36)) := bal
 go_enter Tryz.func56, Tryz.ntmps56
 go_wp2
 exact bodyPost_ret (v := .agg #[.slice none 0 0]) (by simp [results, Tryz.results56, go_sem, c1]) rfl ⟨rfl, hbel⟩
theorem Keep.trans {B : Nat} {w1 w2 w3 : World} (h : Keep B w1 w2) (k : Keep B w2 w3) : Keep B w1 w3 := ⟨h.bel.trans k.bel, fun p n c N x => k.nat p n c N (h.nat p n c N x)⟩
theorem Keep.drew (B : Nat) (w : World) : Keep B w w.drew := ⟨(Below.refl _ _).drew, fun _ _ _ _ k => k.below ((Below.refl _ _).drew)⟩
structure RG (B : Nat) (wx : World) (l : List (Nat × Obj)) (w : World) : Prop where
 keep : Keep B wx w
 base : B <= w.heap.size
 blk : ∀ x ∈ l, w.heap[x.1]? = some x.2
theorem RG.start {B : Nat} {wx : World} {l : List (Nat × Obj)} (hB : B <= wx.heap.size) (hl : ∀ x ∈ l, wx.heap[x.1]? = some x.2) : RG B wx l wx.drew := ⟨Keep.drew _ _, hB, hl⟩
theorem RG.later {B : Nat} {wx : World} {l : List (Nat × Obj)} {w w' : World} (h : RG B wx l w) (hb : Below w.heap.size w w') : RG B wx l w' :=
 ⟨h.keep.trans (Keep.of hb h.base), Nat.le_trans h.base hb.size, fun x hx => by rw [hb.block x.1 (Array.getElem?_eq_some_iff.1 (h.blk x hx)).1]; exact h.blk x hx⟩
theorem RG.store {B : Nat} {wx : World} {l : List (Nat × Obj)} {w : World} {b m d : Nat} {q : Option Addr} (h : RG B wx l w) (hb : NatBox w b (.slice q m d)) (hB : B <= b) (hn : ∀ x ∈ l, x.1 ≠ b) (v : Value) : RG B wx l (w.setCell ⟨b, 0, none⟩ v) :=
 ⟨h.keep.trans (Keep.store hb hB v), by simpa using h.base, fun x hx => by
  have := hn x hx
  simp [World.setCell, Array.getElem?_modify, this.symm]
  exact h.blk x hx⟩
theorem RG.of {B : Nat} {wx : World} {l : List (Nat × Obj)} {w : World} (h : RG B wx l w) {b : Nat} {o : Obj} (hm : (b, o) ∈ l) : w.heap[b]? = some o := h.blk _ hm
def StB (d : Bool) (b N : Nat) (w : World) : Prop := ∃ p n c, NatBox w b (.slice p n c) /\ (d = true -> NatAt w p n c N)
theorem StB.fresh {w : World} {b N : Nat} {p : Option Addr} {n c : Nat} (h : NatBox w b (.slice p n c)) : StB false b N w := ⟨p, n, c, h, fun e => by cases e⟩
theorem StB.later {d : Bool} {b N : Nat} {w w' : World} (h : StB d b N w) (hb : Below w.heap.size w w') : StB d b N w' :=
 let ⟨p, n, c, h1, h2⟩ := h
 ⟨p, n, c, h1.below hb h1.lt, fun e => (h2 e).below hb⟩
theorem StB.other {d : Bool} {b N b' m k : Nat} {q : Option Addr} {w : World} (h : StB d b N w) (hb : NatBox w b' (.slice q m k)) (hne : b ≠ b') (v : Value) : StB d b N (w.setCell ⟨b', 0, none⟩ v) :=
 let ⟨p, n, c, h1, h2⟩ := h
 ⟨p, n, c, h1.other hne v, fun e => (h2 e).store hb v⟩
theorem StB.put {d : Bool} {b N : Nat} {w : World} (h : StB d b N w) {p : Option Addr} {n c : Nat} (hx : NatAt w p n c N) : ∃ q m k, NatBox w b (.slice q m k) /\ StB true b N (w.setCell ⟨b, 0, none⟩ (.slice p n c)) :=
 let ⟨q, m, k, h1, _⟩ := h
 ⟨q, m, k, h1, p, n, c, h1.set _, fun _ => hx.store h1 _⟩
def MkB (d f : Bool) (v : Value) (B N : Nat) (w : World) : Prop := B <= w.heap.size /\ (d = true -> ∃ b, v = .pointer (some ⟨b, 0, none⟩) /\ B <= b /\ StB f b N w)
theorem MkB.start {v : Value} {B N : Nat} {w : World} (h : B <= w.heap.size) : MkB false false v B N w := ⟨h, fun e => by cases e⟩
theorem MkB.later {d f : Bool} {v : Value} {B N : Nat} {w w' : World} (h : MkB d f v B N w) (hb : Below w.heap.size w w') : MkB d f v B N w' :=
 ⟨Nat.le_trans h.1 hb.size, fun e => let ⟨b, h1, h2, h3⟩ := h.2 e; ⟨b, h1, h2, h3.later hb⟩⟩
theorem MkB.made {v : Value} {B N : Nat} {w : World} (h : MkB false false v B N w) : MkB true false (.pointer (some ⟨w.heap.size, 0, none⟩)) B N (w.alloc (.cells #[.slice none 0 0] 36)) :=
 ⟨by simp; have := h.1; omega, fun _ => ⟨_, rfl, h.1, StB.fresh (NatBox.made _ _)⟩⟩
theorem MkB.put {f : Bool} {v : Value} {B N : Nat} {w : World} (h : MkB true f v B N w) {p : Option Addr} {n c : Nat} (hx : NatAt w p n c N) :
  ∃ b q m k, v = .pointer (some ⟨b, 0, none⟩) /\ B <= b /\ NatBox w b (.slice q m k) /\ MkB true true v B N (w.setCell ⟨b, 0, none⟩ (.slice p n c)) :=
 let ⟨b, h1, h2, h3⟩ := h.2 rfl
 let ⟨q, m, k, h4, h5⟩ := h3.put hx
 ⟨b, q, m, k, h1, h2, h4, by simpa using h.1, fun _ => ⟨b, h1, h2, h5⟩⟩
theorem RG.store_over {B B2 : Nat} {wx : World} {l : List (Nat × Obj)} {w : World} {b m d : Nat} {q : Option Addr} (h : RG B wx l w) (hb : NatBox w b (.slice q m d)) (hB : B <= B2) (hB2 : B2 <= b) (hl : ∀ x ∈ l, x.1 < B2) (v : Value) : RG B wx l (w.setCell ⟨b, 0, none⟩ v) :=
 h.store hb (Nat.le_trans hB hB2) (fun x hx => by have := hl x hx; omega) v
def TupFit (e N : Nat) (t v : Value) (w : World) : Prop := ∃ p n c, v = .tuple #[.agg #[.slice p n c], t] /\ NatAt w p n c N /\ N < B32 e
theorem TupFit.keep {e N B : Nat} {t v : Value} {w w' : World} (h : TupFit e N t v w) (k : Keep B w w') : TupFit e N t v w' :=
 let ⟨p, n, c, h1, h2, h3⟩ := h
 ⟨p, n, c, h1, k.nat _ _ _ _ h2, h3⟩
theorem Ring.keep {B r M f : Nat} {w w' : World} (h : Ring w r M f) (hr : r < B) (k : Keep B w w') : Ring w' r M f := by
 obtain ⟨p, n, c, h1, h2, h3⟩ := h.at_.ex
 exact ⟨⟨p, n, c, by rw [k.bel.block r hr]; exact h1, k.nat _ _ _ _ h2, h3⟩, h.two, h.lim, h.few⟩
structure GroupAt (w : World) (b P Q G H : Nat) : Prop where
 ex : ∃ rp rq pg ng cg ph nh ch, w.heap[b]? = some (.cells #[.pointer (some ⟨rp, 0, none⟩), .pointer (some ⟨rq, 0, none⟩), .slice pg ng cg, .slice ph nh ch] 114 (0, 0)) /\ Ring w rp P 33 /\ Ring w rq Q 33 /\ NatAt w pg ng cg G /\ G < B32 33 /\ NatAt w ph nh ch H /\ H < B32 33
theorem GroupAt.lt {w : World} {b P Q G H : Nat} (h : GroupAt w b P Q G H) : b < w.heap.size := by
 obtain ⟨_, _, _, _, _, _, _, _, h1, _⟩ := h.ex
 exact (Array.getElem?_eq_some_iff.1 h1).1
theorem GroupAt.below {w w' : World} {b P Q G H : Nat} (h : GroupAt w b P Q G H) (hb : Below w.heap.size w w') : GroupAt w' b P Q G H := by
 have hl := h.lt
 obtain ⟨rp, rq, pg, ng, cg, ph, nh, ch, h1, h2, h3, h4, h5, h6, h7⟩ := h.ex
 exact ⟨rp, rq, pg, ng, cg, ph, nh, ch, by rw [hb.block b hl]; exact h1, h2.below hb, h3.below hb, h4.below hb, h5, h6.below hb, h7⟩
theorem GroupAt.keep {B : Nat} {w w' : World} {b P Q G H : Nat} (h : GroupAt w b P Q G H) (hB : w.heap.size <= B) (k : Keep B w w') : GroupAt w' b P Q G H := by
 have hl := h.lt
 obtain ⟨rp, rq, pg, ng, cg, ph, nh, ch, h1, h2, h3, h4, h5, h6, h7⟩ := h.ex
 exact ⟨rp, rq, pg, ng, cg, ph, nh, ch, by rw [k.bel.block b (by omega)]; exact h1, h2.keep (by have := h2.at_.lt; omega) k, h3.keep (by have := h3.at_.lt; omega) k, k.nat _ _ _ _ h4, h5, k.nat _ _ _ _ h6, h7⟩
theorem GroupAt.lims {w : World} {b P Q G H : Nat} (h : GroupAt w b P Q G H) : 2 <= P /\ P < B32 33 /\ 2 <= Q /\ Q < B32 33 := by
 obtain ⟨_, _, _, _, _, _, _, _, _, h2, h3, _⟩ := h.ex
 exact ⟨h2.two, h2.lim, h3.two, h3.lim⟩
structure GroupOk (B : Nat) (w : World) (b P Q G H : Nat) : Prop where
 ex : ∃ w0, GroupAt w0 b P Q G H /\ w0.heap.size <= B /\ Keep B w0 w
theorem GroupOk.of {B : Nat} {w w' : World} {b P Q G H : Nat} (h : GroupAt w b P Q G H) (hB : w.heap.size <= B) (k : Below w.heap.size w w') (hB2 : B <= w.heap.size := by exact Nat.le_refl _) : GroupOk B w' b P Q G H := ⟨w, h, hB, Keep.of k hB2⟩
theorem GroupOk.keep {B : Nat} {w w' : World} {b P Q G H : Nat} (h : GroupOk B w b P Q G H) (k : Keep B w w') : GroupAt w' b P Q G H :=
 let ⟨_, h1, h2, h3⟩ := h.ex
 h1.keep h2 (h3.trans k)
theorem group_cells {w : World} {b : Nat} {v0 v1 v2 v3 : Value} (h : w.heap[b]? = some (.cells #[v0, v1, v2, v3] 114 (0, 0))) :
  w.cell? ⟨b, 0, none⟩ = some v0 /\ w.cell? ⟨b, 1, none⟩ = some v1 /\ w.cell? ⟨b, 2, none⟩ = some v2 /\ w.cell? ⟨b, 3, none⟩ = some v3 := by
 simp [World.cell?, h]
theorem orNone_ptr (w : World) (b : Nat) : Calls Tryz.prog 72 #[.pointer (some ⟨b, 0, none⟩)] w fun e w' => e = .returned (.pointer (some ⟨b, 0, none⟩)) /\ w' = w := by
 go_enter Tryz.func72, Tryz.ntmps72
 go_wp2
 go_ret
 exact ⟨rfl, rfl⟩
def NoneAt (w : World) (b : Nat) : Prop := w.heap[b]? = some (.cells #[.pointer none, .pointer none, .slice none 0 0, .slice none 0 0] 114 (0, 0))
theorem NoneAt.cells {w : World} {b : Nat} (h : NoneAt w b) : w.cell? ⟨b, 0, none⟩ = some (.pointer none) /\ w.cell? ⟨b, 1, none⟩ = some (.pointer none) := by
 obtain ⟨h0, h1, _⟩ := group_cells h
 exact ⟨h0, h1⟩
theorem orNone_nil (w : World) : Calls Tryz.prog 72 #[.pointer none] w fun e w' => ∃ b, e = .returned (.pointer (some ⟨b, 0, none⟩)) /\ NoneAt w' b /\ Below w.heap.size w w' := by
 have hn : NoneAt (w.alloc (.cells #[.pointer none, .pointer none, .slice none 0 0, .slice none 0 0] 114)) w.heap.size := heap_alloc_new w _
 have hb : Below w.heap.size w (w.alloc (.cells #[.pointer none, .pointer none, .slice none 0 0, .slice none 0 0] 114)) := bal
 have HN := hol hn
 have HB := hol hb
 clear hn hb
 go_enter Tryz.func72, Tryz.ntmps72
 go_wp2
 go_ret
 exact ⟨_, rfl, HN.out, HB.out⟩
theorem gcopied_fit {w : World} {e N : Nat} {v : Value} (h : Fit e N v w) (he : e <= 300000) :
  Calls Tryz.prog 101 #[v] w fun en w' => ∃ x, en = .returned x /\ Fit e N x w' /\ Below w.heap.size w w' := by
 obtain ⟨pa, na, ca, rfl, h1, h2⟩ := fit_cases h
 have hbx := NB2.mk2 w (.slice pa na ca) (.slice none 0 0)
 have hz : ∀ w', Fit 0 0 (.agg #[.slice none 0 0]) w' := fun w' => Fit.of (NatAt.nil w') (by decide)
 have HZ := Lib.hid hz
 clear hz
 go_enter Tryz.func101, Tryz.ntmps101
 go_wp2_with fail
 refine (add_fit (h.below hbx.bel) (HZ.out _) (by omega) (by omega)).mono ?_
 rintro en w1 ⟨x, rfl, hx, hb⟩
 replace hbx := hbx.later hb
 obtain ⟨pc, nc, cc, rfl, y1, _⟩ := hx
 have c1 := hbx.b1.cell
 have f1 := hbx.b1.free
 have z1 := hbx.b1.lt
 go_wp2
 exact bodyPost_ret (v := .agg #[.slice pc nc cc]) (by simp [results, Tryz.results101, go_sem, c1]) rfl ⟨_, rfl, Fit.of (y1.store hbx.b1 _) h2, hbx.bel.setCell (by simp) _⟩
theorem bytesOf_fit {w : World} {e N : Nat} {v : Value} (h : Fit e N v w) (he : e <= 900000) :
  Calls Tryz.prog 167 #[v] w fun en w' => en = .returned (.int .i64 (bsize N : Nat)) /\ Below w.heap.size w w' := by
 obtain ⟨p, n, c, rfl, h1, h2⟩ := h
 have hn : n < 1000000 := by have := h1.len_le h2; omega
 have hl : blen N <= 30000000 := by have := lim_blen h2; omega
 have hbx := Box1.mk1 w (.slice p n c) 36
 have H1 := hol (h1.below hbx.bel)
 have HBX := hol hbx.bel
 have HS : Hold (bsize N = (blen N + 7) / 8) := ⟨rfl⟩
 clear h1 h2 hbx
 go_enter Tryz.func167, Tryz.ntmps167
 go_wp2_with fail
 refine (bits_calls _ p n c N H1.out hn).mono ?_
 rintro en w1 ⟨rfl, hb1⟩
 have HB1 := hol (bstep HBX.out hb1)
 clear hb1
 obtain ⟨L, hL⟩ : ∃ L, blen N = L := ⟨_, rfl⟩
 rw [hL] at hl HS
 simp only [hL]
 clear hL
 go_wp2
 go_ret
 refine ⟨?_, HB1.out⟩
 rw [HS.out]
 exact congrArg (fun z => Ending.returned (.int .i64 z)) (by omega)
theorem gP_fit {w : World} {b P Q G H : Nat} (h : GroupAt w b P Q G H) :
  Calls Tryz.prog 67 #[.pointer (some ⟨b, 0, none⟩)] w fun e w' => ∃ x, e = .returned x /\ Fit 33 P x w' /\ Below w.heap.size w w' := by
 have hb1 := NatBox.made w (.slice none 0 0)
 have hbel : Below w.heap.size w (w.alloc (.cells #[.slice none 0 0] 36)) := bal
 obtain ⟨wa, hwa⟩ : ∃ wa, w.alloc (.cells #[.slice none 0 0] 36) = wa := ⟨_, rfl⟩
 rw [hwa] at hb1 hbel
 obtain ⟨rp, rq, pg, ng, cg, ph, nh, ch, h1, h2, h3, h4, h5, h6, h7⟩ := (h.below hbel).ex
 obtain ⟨c0, cq, c2, c3⟩ := group_cells h1
 have HR := hol h2
 have HBX := hol hb1
 have HB := hol hbel
 clear h h1 h2 h3 h4 h5 h6 h7 hb1 hbel
 go_enter Tryz.func67, Tryz.ntmps67
 go_wp2_with fail
 refine (orNone_ptr wa b).mono ?_
 rintro en w1 ⟨rfl, rfl⟩
 go_wp2_with fail
 refine (modulus_fit HR.out).mono ?_
 rintro en w2 ⟨x, rfl, hx, hb2⟩
 obtain ⟨pc, nc, cc, rfl, y1, y2⟩ := hx
 have hbn := HBX.out.below hb2 HBX.out.lt
 have k1 := hbn.cell
 have f1 := hbn.free
 have z1 := hbn.lt
 clear c0 cq c2 c3
 go_wp2
 exact bodyPost_ret (v := .agg #[.slice pc nc cc]) (by simp [results, Tryz.results67, go_sem, k1]) rfl ⟨_, rfl, Fit.of (y1.store hbn _) y2, (bstep HB.out hb2).setCell (by simp) _⟩
theorem gG_fit {w : World} {b P Q G H : Nat} (h : GroupAt w b P Q G H) :
  Calls Tryz.prog 42 #[.pointer (some ⟨b, 0, none⟩)] w fun e w' => ∃ x, e = .returned x /\ Fit 33 G x w' /\ Below w.heap.size w w' := by
 have hb1 := NatBox.made w (.slice none 0 0)
 have hbel : Below w.heap.size w (w.alloc (.cells #[.slice none 0 0] 36)) := bal
 obtain ⟨wa, hwa⟩ : ∃ wa, w.alloc (.cells #[.slice none 0 0] 36) = wa := ⟨_, rfl⟩
 rw [hwa] at hb1 hbel
 obtain ⟨rp, rq, pg, ng, cg, ph, nh, ch, h1, h2, h3, h4, h5, h6, h7⟩ := (h.below hbel).ex
 obtain ⟨c0, cq, c2, c3⟩ := group_cells h1
 have HR := hol (Fit.of h4 h5)
 have HBX := hol hb1
 have HB := hol hbel
 clear h h1 h2 h3 h4 h5 h6 h7 hb1 hbel
 go_enter Tryz.func42, Tryz.ntmps42
 go_wp2_with fail
 refine (orNone_ptr wa b).mono ?_
 rintro en w1 ⟨rfl, rfl⟩
 go_wp2_with fail
 refine (gcopied_fit HR.out (by decide)).mono ?_
 rintro en w2 ⟨x, rfl, hx, hb2⟩
 obtain ⟨pc, nc, cc, rfl, y1, y2⟩ := hx
 have hbn := HBX.out.below hb2 HBX.out.lt
 have k1 := hbn.cell
 have f1 := hbn.free
 have z1 := hbn.lt
 clear c0 cq c2 c3
 go_wp2
 exact bodyPost_ret (v := .agg #[.slice pc nc cc]) (by simp [results, Tryz.results42, go_sem, k1]) rfl ⟨_, rfl, Fit.of (y1.store hbn _) y2, (bstep HB.out hb2).setCell (by simp) _⟩
theorem gH_fit {w : World} {b P Q G H : Nat} (h : GroupAt w b P Q G H) :
  Calls Tryz.prog 68 #[.pointer (some ⟨b, 0, none⟩)] w fun e w' => ∃ x, e = .returned x /\ Fit 33 H x w' /\ Below w.heap.size w w' := by
 have hb1 := NatBox.made w (.slice none 0 0)
 have hbel : Below w.heap.size w (w.alloc (.cells #[.slice none 0 0] 36)) := bal
 obtain ⟨wa, hwa⟩ : ∃ wa, w.alloc (.cells #[.slice none 0 0] 36) = wa := ⟨_, rfl⟩
 rw [hwa] at hb1 hbel
 obtain ⟨rp, rq, pg, ng, cg, ph, nh, ch, h1, h2, h3, h4, h5, h6, h7⟩ := (h.below hbel).ex
 obtain ⟨c0, cq, c2, c3⟩ := group_cells h1
 have HR := hol (Fit.of h6 h7)
 have HBX := hol hb1
 have HB := hol hbel
 clear h h1 h2 h3 h4 h5 h6 h7 hb1 hbel
 go_enter Tryz.func68, Tryz.ntmps68
 go_wp2_with fail
 refine (orNone_ptr wa b).mono ?_
 rintro en w1 ⟨rfl, rfl⟩
 go_wp2_with fail
 refine (gcopied_fit HR.out (by decide)).mono ?_
 rintro en w2 ⟨x, rfl, hx, hb2⟩
 obtain ⟨pc, nc, cc, rfl, y1, y2⟩ := hx
 have hbn := HBX.out.below hb2 HBX.out.lt
 have k1 := hbn.cell
 have f1 := hbn.free
 have z1 := hbn.lt
 clear c0 cq c2 c3
 go_wp2
 exact bodyPost_ret (v := .agg #[.slice pc nc cc]) (by simp [results, Tryz.results68, go_sem, k1]) rfl ⟨_, rfl, Fit.of (y1.store hbn _) y2, (bstep HB.out hb2).setCell (by simp) _⟩
theorem gfield_fit {w : World} {b P Q G H : Nat} (h : GroupAt w b P Q G H) :
  Calls Tryz.prog 19 #[.pointer (some ⟨b, 0, none⟩)] w fun e w' => ∃ r, e = .returned (.pointer (some ⟨r, 0, none⟩)) /\ Ring w' r Q 33 /\ Below w.heap.size w w' := by
 have hq := h.lims.2.2.1
 obtain ⟨rp, rq, pg, ng, cg, ph, nh, ch, h1, h2, h3, h4, h5, h6, h7⟩ := h.ex
 obtain ⟨c0, cq, c2, c3⟩ := group_cells h1
 have HR := hol h3
 clear h h1 h2 h3 h4 h5 h6 h7
 go_enter Tryz.func19, Tryz.ntmps19
 go_wp2_with fail
 refine (orNone_ptr w b).mono ?_
 rintro en w1 ⟨rfl, rfl⟩
 go_wp2_with fail
 refine (modulus_fit HR.out).mono ?_
 rintro en w2 ⟨x, rfl, hx, hb2⟩
 have HX := hol hx
 have HB2 := hol hb2
 clear hx hb2 c0 cq c2 c3
 go_wp2_with fail
 refine (rngnew_fit HX.out (by decide)).mono ?_
 rintro en w3 ⟨hb3, hh⟩
 rcases hh with ⟨hl, _⟩ | ⟨_, r, rfl, hr, _⟩
 ·omega
 have HR3 := hol hr
 have HB3 := hol (bstep HB2.out hb3)
 clear hr hb3
 go_wp2
 go_ret
 exact ⟨r, rfl, HR3.out, HB3.out⟩
theorem gsize_fit {w : World} {b P Q G H : Nat} (h : GroupAt w b P Q G H) :
  Calls Tryz.prog 193 #[.pointer (some ⟨b, 0, none⟩)] w fun e w' => e = .returned (.int .i64 (bsize P : Nat)) /\ Below w.heap.size w w' := by
 have HG := hol h
 clear h
 go_enter Tryz.func193, Tryz.ntmps193
 go_wp2_with fail
 refine (gP_fit HG.out).mono ?_
 rintro en w1 ⟨x, rfl, hx, hb1⟩
 have HX := hol hx
 have HB1 := hol hb1
 clear hx hb1
 go_wp2_with fail
 refine (bytesOf_fit HX.out (by decide)).mono ?_
 rintro en w2 ⟨rfl, hb2⟩
 have HB2 := hol (bstep HB1.out hb2)
 clear hb2
 go_wp2
 go_ret
 exact ⟨rfl, HB2.out⟩
theorem gfield_nil (w : World) : Calls Tryz.prog 19 #[.pointer none] w fun e w' => e = .returned (.pointer none) /\ Below w.heap.size w w' := by
 go_enter Tryz.func19, Tryz.ntmps19
 go_wp2_with fail
 refine (orNone_nil w).mono ?_
 rintro en w1 ⟨b, rfl, hn, hb1⟩
 obtain ⟨c0, c1⟩ := hn.cells
 have HB1 := hol hb1
 clear hn hb1
 go_wp2_with fail
 refine (modulus_nil w1).mono ?_
 rintro en w2 ⟨rfl, hb2⟩
 have HB2 := hol (bstep HB1.out hb2)
 have HF := hol (fit_nil w2)
 clear hb2 c0 c1
 go_wp2_with fail
 refine (rngnew_fit HF.out (by decide)).mono ?_
 rintro en w3 ⟨hb3, hh⟩
 rcases hh with ⟨_, rfl⟩ | ⟨hl, _⟩
 ·have HB3 : Hold _ := ⟨bstep HB2.out hb3⟩
  clear hb3
  go_wp2
  go_ret
  exact ⟨rfl, HB3.out⟩
 ·omega
end Go.Proofs.YthgoeiegdhphjaaGreatDoor
