/- The three groups of the laws, over numbers: their primes' chains hold, their bases are members, their second bases. -/
import Derived.Test.YtdebccghjbfgdaaGreatDoorPock
import Derived.Test.YtdebccghjbfgdaaGreatDoorCpB
import Derived.KernelRfl
/-! The sum of FIPS 180-4, over numbers. -/
namespace Go.Proofs.YtdebccghjbfgdaaGreatDoor
open Go
set_option maxRecDepth 100000

/-- A word turned n places to the right. -/
def rr (x n : Nat) : Nat := x * 2 ^ (32 - n) % 4294967296 ||| x / 2 ^ n
def add32 (x y : Nat) : Nat := (x + y) % 4294967296
def sm0 (x : Nat) : Nat := rr x 7 ^^^ rr x 18 ^^^ x / 8
def sm1 (x : Nat) : Nat := rr x 17 ^^^ rr x 19 ^^^ x / 1024
def bs0 (x : Nat) : Nat := rr x 2 ^^^ rr x 13 ^^^ rr x 22
def bs1 (x : Nat) : Nat := rr x 6 ^^^ rr x 11 ^^^ rr x 25
def ch (e f g : Nat) : Nat := e &&& f ^^^ (4294967295 - e) &&& g
def maj (a b c : Nat) : Nat := a &&& b ^^^ a &&& c ^^^ b &&& c

theorem rr_lt {x n : Nat} (hx : x < 4294967296) : rr x n < 4294967296 := by
  unfold rr
  exact Nat.or_lt_two_pow (n := 32) (Nat.mod_lt _ (by omega)) (Nat.lt_of_le_of_lt (Nat.div_le_self _ _) hx)
theorem add32_lt (x y : Nat) : add32 x y < 4294967296 := Nat.mod_lt _ (by omega)
theorem xor_lt32 {x y : Nat} (hx : x < 4294967296) (hy : y < 4294967296) : x ^^^ y < 4294967296 := Nat.xor_lt_two_pow (n := 32) hx hy
theorem and_lt32 {x y : Nat} (hy : y < 4294967296) : x &&& y < 4294967296 := Nat.and_lt_two_pow (n := 32) _ hy
theorem or_lt32 {x y : Nat} (hx : x < 4294967296) (hy : y < 4294967296) : x ||| y < 4294967296 := Nat.or_lt_two_pow (n := 32) hx hy

/-- The next word of the sixteen to sixty-four. -/
def wnext (ws : List Nat) (t : Nat) : Nat := add32 (add32 (add32 (sm1 (ws.getD (t - 2) 0)) (ws.getD (t - 7) 0)) (sm0 (ws.getD (t - 15) 0))) (ws.getD (t - 16) 0)
/-- A block's first words. -/
def wfirst (m : List Nat) (t : Nat) : Nat := m.getD (4 * t) 0 * 16777216 ||| m.getD (4 * t + 1) 0 * 65536 ||| m.getD (4 * t + 2) 0 * 256 ||| m.getD (4 * t + 3) 0
/-- The words of a block, so many. -/
def wlist (m : List Nat) : Nat → List Nat
  | 0 => []
  | t + 1 => wlist m t ++ [if t < 16 then wfirst m t else wnext (wlist m t) t]

theorem wlist_length (m : List Nat) (t : Nat) : (wlist m t).length = t := by
  induction t with
  | zero => rfl
  | succ t ih => simp [wlist, ih]

theorem wfirst_lt {m : List Nat} (hm : Bytes8 m) (t : Nat) : wfirst m t < 4294967296 := by
  have h0 := hm.get (4 * t); have h1 := hm.get (4 * t + 1); have h2 := hm.get (4 * t + 2); have h3 := hm.get (4 * t + 3)
  unfold wfirst
  exact or_lt32 (or_lt32 (or_lt32 (by omega) (by omega)) (by omega)) (by omega)

theorem wlist_words {m : List Nat} (hm : Bytes8 m) (t : Nat) : Words (wlist m t) := by
  induction t with
  | zero => exact Words.nil
  | succ t ih =>
    refine ih.snoc ?_
    split
    · exact wfirst_lt hm t
    · exact add32_lt _ _

/-- The words a to h. -/
structure St where
  a : Nat
  b : Nat
  c : Nat
  d : Nat
  e : Nat
  f : Nat
  g : Nat
  h : Nat

def St.ok (s : St) : Prop := s.a < 4294967296 ∧ s.b < 4294967296 ∧ s.c < 4294967296 ∧ s.d < 4294967296 ∧ s.e < 4294967296 ∧ s.f < 4294967296 ∧ s.g < 4294967296 ∧ s.h < 4294967296
def St.list (s : St) : List Nat := [s.a, s.b, s.c, s.d, s.e, s.f, s.g, s.h]
def St.of (l : List Nat) : St := ⟨l.getD 0 0, l.getD 1 0, l.getD 2 0, l.getD 3 0, l.getD 4 0, l.getD 5 0, l.getD 6 0, l.getD 7 0⟩

def tone (s : St) (k w : Nat) : Nat := add32 (add32 (add32 (add32 s.h (bs1 s.e)) (ch s.e s.f s.g)) k) w
def ttwo (s : St) : Nat := add32 (bs0 s.a) (maj s.a s.b s.c)
def rnd (s : St) (k w : Nat) : St := ⟨add32 (tone s k w) (ttwo s), s.a, s.b, s.c, add32 s.d (tone s k w), s.e, s.f, s.g⟩
def rnds (K W : List Nat) (s : St) : Nat → St
  | 0 => s
  | t + 1 => rnd (rnds K W s t) (K.getD t 0) (W.getD t 0)

theorem rnd_ok {s : St} (h : s.ok) (k w : Nat) : (rnd s k w).ok := by
  obtain ⟨h1, h2, h3, h4, h5, h6, h7, h8⟩ := h
  exact ⟨add32_lt _ _, h1, h2, h3, add32_lt _ _, h5, h6, h7⟩
theorem rnds_ok {K W : List Nat} {s : St} (h : s.ok) : ∀ t, (rnds K W s t).ok
  | 0 => h
  | t + 1 => rnd_ok (rnds_ok h t) _ _
theorem St.of_ok {l : List Nat} (h : Words l) : (St.of l).ok := ⟨h.get _, h.get _, h.get _, h.get _, h.get _, h.get _, h.get _, h.get _⟩
theorem St.list_of {l : List Nat} (h : l.length = 8) : (St.of l).list = l := by
  match l, h with
  | [a, b, c, d, e, f, g, x], _ => rfl
theorem St.list_words {s : St} (h : s.ok) : Words s.list := by
  obtain ⟨h1, h2, h3, h4, h5, h6, h7, h8⟩ := h
  intro x hx
  simp only [St.list, List.mem_cons, List.not_mem_nil, or_false] at hx
  rcases hx with rfl | rfl | rfl | rfl | rfl | rfl | rfl | rfl <;> assumption

def sadd (H G : List Nat) : List Nat := List.zipWith add32 H G

/-- The constants, and the first state. -/
def kays : List Nat := [1116352408, 1899447441, 3049323471, 3921009573, 961987163, 1508970993, 2453635748, 2870763221, 3624381080, 310598401, 607225278, 1426881987, 1925078388, 2162078206, 2614888103, 3248222580, 3835390401, 4022224774, 264347078, 604807628, 770255983, 1249150122, 1555081692, 1996064986, 2554220882, 2821834349, 2952996808, 3210313671, 3336571891, 3584528711, 113926993, 338241895, 666307205, 773529912, 1294757372, 1396182291, 1695183700, 1986661051, 2177026350, 2456956037, 2730485921, 2820302411, 3259730800, 3345764771, 3516065817, 3600352804, 4094571909, 275423344, 430227734, 506948616, 659060556, 883997877, 958139571, 1322822218, 1537002063, 1747873779, 1955562222, 2024104815, 2227730452, 2361852424, 2428436474, 2756734187, 3204031479, 3329325298]
def hnull : List Nat := [1779033703, 3144134277, 1013904242, 2773480762, 1359893119, 2600822924, 528734635, 1541459225]

theorem kays_length : kays.length = 64 := by kernel_rfl
theorem hnull_words : Words hnull := by
  have : hnull.all (fun x => decide (x < 4294967296)) = true := by kernel_rfl
  intro x hx
  exact of_decide_eq_true (List.all_eq_true.1 this x hx)
theorem kays_words : Words kays := by
  have : kays.all (fun x => decide (x < 4294967296)) = true := by kernel_rfl
  intro x hx
  exact of_decide_eq_true (List.all_eq_true.1 this x hx)

/-- A block more. -/
def comp (H m : List Nat) : List Nat := sadd H (rnds kays (wlist m 64) (St.of H) 64).list

theorem comp_length {H m : List Nat} (h : H.length = 8) : (comp H m).length = 8 := by simp [comp, sadd, St.list, h]
theorem comp_words (H m : List Nat) : Words (comp H m) := by
  intro x hx
  unfold comp sadd at hx
  rw [List.mem_iff_getElem] at hx
  obtain ⟨i, hi, rfl⟩ := hx
  rw [List.getElem_zipWith]
  exact add32_lt _ _

/-- The state behind so many blocks. -/
def blocks (m : List Nat) : Nat → List Nat
  | 0 => hnull
  | n + 1 => comp (blocks m n) ((m.drop (64 * n)).take 64)

theorem blocks_length (m : List Nat) : ∀ n, (blocks m n).length = 8
  | 0 => rfl
  | n + 1 => comp_length (blocks_length m n)
theorem blocks_words (m : List Nat) : ∀ n, Words (blocks m n)
  | 0 => hnull_words
  | _ + 1 => comp_words _ _
theorem blocks_append {m b : List Nat} : ∀ {n : Nat}, 64 * n ≤ m.length → blocks (m ++ b) n = blocks m n
  | 0, _ => rfl
  | n + 1, h => by
    rw [blocks, blocks, blocks_append (by omega), List.drop_append_of_le_length (by omega), List.take_append_of_le_length (by simp; omega)]

/-- A number's eight bytes, the highest first. -/
def be8 (N : Nat) : List Nat := (List.range 8).map fun i => N / 2 ^ (8 * (7 - i)) % 256
/-- What so many bytes get behind them. -/
def noughts (n : Nat) : Nat := (119 - n % 64) % 64
def behind (n : Nat) : List Nat := 128 :: (List.replicate (noughts n) 0 ++ be8 (n * 8 % 18446744073709551616))
/-- A word's bytes. -/
def wbytes (x : Nat) : List Nat := [x / 16777216 % 256, x / 65536 % 256, x / 256 % 256, x % 256]
def sha (m : List Nat) : List Nat := (blocks (m ++ behind m.length) ((m.length + (behind m.length).length) / 64)).flatMap wbytes

theorem be8_length (N : Nat) : (be8 N).length = 8 := by simp [be8]
theorem behind_length (n : Nat) : (behind n).length = noughts n + 9 := by simp [behind, be8_length]
theorem be8_bytes (N : Nat) : Bytes8 (be8 N) := by
  intro x hx
  simp only [be8, List.mem_map] at hx
  obtain ⟨i, _, rfl⟩ := hx
  exact Nat.mod_lt _ (by omega)
theorem behind_bytes (n : Nat) : Bytes8 (behind n) := by
  intro x hx
  simp only [behind, List.mem_cons, List.mem_append, List.mem_replicate] at hx
  rcases hx with rfl | ⟨_, rfl⟩ | hx
  · omega
  · omega
  · exact be8_bytes _ x hx
theorem sha_length (m : List Nat) : (sha m).length = 32 := by
  have h := blocks_length (m ++ behind m.length) ((m.length + (behind m.length).length) / 64)
  unfold sha
  generalize blocks (m ++ behind m.length) ((m.length + (behind m.length).length) / 64) = l at h
  match l, h with
  | [a, b, c, d, e, f, g, x], _ => rfl
theorem sha_bytes (m : List Nat) : Bytes8 (sha m) := by
  intro x hx
  unfold sha at hx
  rw [List.mem_flatMap] at hx
  obtain ⟨y, _, hy⟩ := hx
  simp only [wbytes, List.mem_cons, List.not_mem_nil, or_false] at hy
  omega

end Go.Proofs.YtdebccghjbfgdaaGreatDoor

/-! Sums with a key, over numbers. -/
namespace Go.Proofs.YtdebccghjbfgdaaGreatDoor
open Go
set_option maxRecDepth 100000

/-- A key, or its sum. -/
def kkey (key : List Nat) : List Nat := if 64 < key.length then sha key else key
/-- A key's block. -/
def kblock (key : List Nat) : List Nat := kkey key ++ List.replicate (64 - (kkey key).length) 0
/-- Each byte exclusive or with one. -/
def masked (b : List Nat) (x : Nat) : List Nat := b.map (· ^^^ x)
/-- What the inner and the outer sum begin with. -/
def ipad (key : List Nat) : List Nat := masked (kblock key) 54
def opad (key : List Nat) : List Nat := masked (kblock key) 92
/-- What the tag is the sum of. -/
def tagged (key m : List Nat) : List Nat := opad key ++ sha (ipad key ++ m)
def hmac (key m : List Nat) : List Nat := sha (tagged key m)

theorem kkey_length (key : List Nat) : (kkey key).length ≤ 64 := by
  unfold kkey
  split
  · rw [sha_length]; omega
  · omega
theorem kblock_length (key : List Nat) : (kblock key).length = 64 := by have := kkey_length key; simp [kblock]; omega
theorem kkey_bytes {key : List Nat} (h : Bytes8 key) : Bytes8 (kkey key) := by
  unfold kkey
  split
  · exact sha_bytes _
  · exact h
theorem kblock_bytes {key : List Nat} (h : Bytes8 key) : Bytes8 (kblock key) := by
  intro x hx
  rcases List.mem_append.1 hx with h1 | h1
  · exact kkey_bytes h x h1
  · have := (List.mem_replicate.1 h1).2; omega
theorem masked_length (b : List Nat) (x : Nat) : (masked b x).length = b.length := by simp [masked]
theorem masked_bytes {b : List Nat} (h : Bytes8 b) {x : Nat} (hx : x < 256) : Bytes8 (masked b x) := by
  intro y hy
  obtain ⟨z, hz, rfl⟩ := List.mem_map.1 hy
  exact Nat.xor_lt_two_pow (n := 8) (h z hz) hx
theorem hmac_length (key m : List Nat) : (hmac key m).length = 32 := sha_length _
theorem hmac_bytes (key m : List Nat) : Bytes8 (hmac key m) := sha_bytes _

end Go.Proofs.YtdebccghjbfgdaaGreatDoor

namespace Go.Proofs.YtdebccghjbfgdaaGreatDoor
set_option maxRecDepth 100000

def smallB (p : Nat) : Bool := decide (2 ≤ p) && decide (p < 65536) && (List.range 256).all fun d => decide (d < 2) || decide (p < d * d) || !(p % d == 0)
theorem smallB_spec {p : Nat} (h : smallB p = true) : SmallP p := by
  simp only [smallB, Bool.and_eq_true, decide_eq_true_eq, List.all_eq_true, Bool.or_eq_true, Bool.not_eq_true', beq_eq_false_iff_ne] at h
  obtain ⟨⟨h2, hlt⟩, h⟩ := h
  refine ⟨h2, hlt, fun d h3 h4 => ?_⟩
  have hd : d < 256 := Nat.lt_of_not_le fun hle => by have := Nat.mul_le_mul hle hle; omega
  rcases h d (List.mem_range.2 hd) with (h5 | h5) | h5
  · omega
  · omega
  · exact h5

theorem pw_fuel {p : Nat} (hp : 2 ≤ p) : ∀ (f n : Nat), 0 < n → n < 2 ^ f → pw p f n = pw p n n
  | 0, n, h0, h => by simp at h; omega
  | f + 1, n, h0, h => by
    rw [pw_step hp h0, pw]
    split
    · rename_i hm
      have h4 : 0 < n / p := Nat.div_pos (Nat.le_of_dvd h0 (Nat.dvd_of_mod_eq_zero hm)) (by omega)
      have h5 : n / p < 2 ^ f := by
        have : n / p ≤ n / 2 := Nat.div_le_div_left hp (by omega)
        rw [Nat.pow_succ] at h
        omega
      rw [pw_fuel hp f (n / p) h4 h5]
    · rfl

def okB (f N base : Nat) (behind ps : List Nat) (i p : Nat) : Bool :=
  !(ps.take i).contains p && (smallB p || behind.contains p) && decide (2 ≤ p) && (N - 1) % p == 0 && Nat.gcd ((pm base N f ((N - 1) / p) + N - 1) % N) N == 1
/-- A step, looked at. -/
def holdsB (f N base : Nat) (ps behind : List Nat) : Bool :=
  decide (2 ≤ N) && !ps.isEmpty && decide (ps.length ≤ 32) && decide (N ≤ 2 ^ f) && (List.range ps.length).all (fun i => okB f N base behind ps i (ps.getD i 0)) && pm base N f (N - 1) == 1 &&
    decide (N < ps.foldl (fun a p => a * pw p f (N - 1)) 1 * ps.foldl (fun a p => a * pw p f (N - 1)) 1)
theorem foldl_pw {f n : Nat} (h0 : 0 < n) (h : n < 2 ^ f) : ∀ (ps : List Nat) (a : Nat), (∀ p ∈ ps, 2 ≤ p) → ps.foldl (fun a p => a * pw p f n) a = ps.foldl (fun a p => a * pw p n n) a
  | [], _, _ => rfl
  | p :: ps, a, hp => by
    rw [List.foldl_cons, List.foldl_cons, pw_fuel (hp p (by simp)) f n h0 h]
    exact foldl_pw h0 h ps _ fun q hq => hp q (by simp [hq])
theorem holdsB_spec {f N base : Nat} {ps behind : List Nat} (h : holdsB f N base ps behind = true) : HoldsP N base ps behind := by
  simp only [holdsB, Bool.and_eq_true, decide_eq_true_eq, List.all_eq_true, Bool.not_eq_true', beq_iff_eq] at h
  obtain ⟨⟨⟨⟨⟨⟨h2, hne⟩, h32⟩, hf⟩, hall⟩, hone⟩, hgr⟩ := h
  have hlt : N - 1 < 2 ^ f := by omega
  have each : ∀ i p, ps[i]? = .some p → OneOk N base behind ps i p := fun i p hp => by
    have hi := (List.getElem?_eq_some_iff.1 hp).1
    have h3 := hall i (List.mem_range.2 hi)
    rw [List.getD_eq_getElem?_getD, hp, Option.getD_some] at h3
    simp only [okB, Bool.and_eq_true, decide_eq_true_eq, Bool.not_eq_true', beq_iff_eq, Bool.or_eq_true, List.contains_iff_mem] at h3
    obtain ⟨⟨⟨⟨k1, k2⟩, k3⟩, k4⟩, k5⟩ := h3
    refine ⟨(fun hm => by rw [List.contains_iff_mem.2 hm] at k1; cases k1), k2.imp smallB_spec id, k3, k4, ?_⟩
    rw [← pm_eq base N f _ (Nat.lt_of_le_of_lt (Nat.div_le_self _ _) hlt)]
    exact k5
  have hps : ∀ p ∈ ps, 2 ≤ p := fun p hp => by
    obtain ⟨i, hi, e⟩ := List.getElem_of_mem hp
    exact (each i p (by rw [List.getElem?_eq_getElem hi, e])).2.2.1
  refine ⟨h2, (fun e => by rw [e] at hne; cases hne), h32, each, ?_, ?_⟩
  · rw [← pm_eq base N f _ hlt]; exact hone
  · have := foldl_pw (f := f) (n := N - 1) (by omega) hlt ps 1 hps
    unfold pwl
    rw [← this]
    exact hgr

/-! The three groups. -/
def gP : Nat → Nat
  | 0 => 607
  | 1 => 655211
  | _ => 20752587082923246163
def gQ : Nat → Nat
  | 0 => 101
  | 1 => 65521
  | _ => 1152921504606847009
def gG : Nat → Nat
  | 0 => 64
  | 1 => 1024
  | _ => 262144
def gH : Nat → Nat
  | 0 => 597
  | 1 => 96520
  | _ => 12833098634328171918
def gSize : Nat → Nat
  | 0 => 2
  | 1 => 3
  | _ => 9
def gTimes : Nat → Nat
  | 0 => 6
  | 1 => 10
  | _ => 18
def gChain : Nat → List StepN
  | 0 => []
  | 1 => [⟨655211, 2, [65521]⟩]
  | _ => [⟨1152921504606847009, 13, [2, 3, 11, 683, 2971]⟩, ⟨20752587082923246163, 2, [1152921504606847009]⟩]

theorem g1_holds : HoldsP 655211 2 [65521] [] := holdsB_spec (f := 20) (by kernel_rfl)
theorem g2_holds1 : HoldsP 1152921504606847009 13 [2, 3, 11, 683, 2971] [] := holdsB_spec (f := 61) (by kernel_rfl)
theorem g2_holds2 : HoldsP 20752587082923246163 2 [1152921504606847009] [1152921504606847009] := holdsB_spec (f := 65) (by kernel_rfl)
theorem small607 : SmallP 607 := smallB_spec (by kernel_rfl)
theorem small101 : SmallP 101 := smallB_spec (by kernel_rfl)
theorem small65521 : SmallP 65521 := smallB_spec (by kernel_rfl)

/-- What is told of a number by a chain. -/
def Told (N : Nat) (l : List StepN) : Prop := SmallP N ∨ (ChainP [] l ∧ ∃ s ∈ l, s.n = N)
theorem gChain_ok : ∀ i, i < 3 → ChainP [] (gChain i)
  | 0, _ => trivial
  | 1, _ => ⟨g1_holds, trivial⟩
  | 2, _ => ⟨g2_holds1, g2_holds2, trivial⟩
  | _ + 3, h => by omega
theorem gP_told : ∀ i, i < 3 → Told (gP i) (gChain i)
  | 0, _ => .inl small607
  | 1, _ => .inr ⟨gChain_ok 1 (by omega), _, List.mem_singleton.2 rfl, rfl⟩
  | 2, _ => .inr ⟨gChain_ok 2 (by omega), _, List.mem_cons_of_mem _ (List.mem_singleton.2 rfl), rfl⟩
  | _ + 3, h => by omega
theorem gQ_told : ∀ i, i < 3 → Told (gQ i) (gChain i)
  | 0, _ => .inl small101
  | 1, _ => .inl small65521
  | 2, _ => .inr ⟨gChain_ok 2 (by omega), _, List.mem_cons_self, rfl⟩
  | _ + 3, h => by omega
theorem gTimes_eq : ∀ i, i < 3 → gP i - 1 = gQ i * gTimes i
  | 0, _ => rfl
  | 1, _ => rfl
  | 2, _ => rfl
  | _ + 3, h => by omega
theorem g_bounds : ∀ i, i < 3 → 64 < gQ i ∧ 1 < gG i ∧ gG i < gP i ∧ 1 < gH i ∧ gH i < gP i ∧ gP i < 2 ^ 65
  | 0, _ => by decide
  | 1, _ => by decide
  | 2, _ => by decide
  | _ + 3, h => by omega
theorem gG_member : ∀ i, i < 3 → gG i ^ gQ i % gP i = 1
  | 0, _ => by rw [← pm_eq (gG 0) (gP 0) 65 (gQ 0) (by decide)]; kernel_rfl
  | 1, _ => by rw [← pm_eq (gG 1) (gP 1) 65 (gQ 1) (by decide)]; kernel_rfl
  | 2, _ => by rw [← pm_eq (gG 2) (gP 2) 65 (gQ 2) (by decide)]; kernel_rfl
  | _ + 3, h => by omega
/-- T1 of no salt, no seed, "h" and the first byte 0. -/
theorem key_nil : hmac [] [] = [182, 19, 103, 154, 8, 20, 217, 236, 119, 47, 149, 215, 120, 195, 95, 197, 255, 22, 151, 196, 147, 113, 86, 83, 198, 199, 18, 20, 66, 146, 197, 173] := by kernel_rfl
theorem tk_nil : hmac [182, 19, 103, 154, 8, 20, 217, 236, 119, 47, 149, 215, 120, 195, 95, 197, 255, 22, 151, 196, 147, 113, 86, 83, 198, 199, 18, 20, 66, 146, 197, 173] [104, 0, 1] =
    [22, 9, 94, 96, 137, 201, 132, 135, 12, 215, 97, 165, 119, 173, 84, 193, 49] ++ (hmac [182, 19, 103, 154, 8, 20, 217, 236, 119, 47, 149, 215, 120, 195, 95, 197, 255, 22, 151, 196, 147, 113, 86, 83, 198, 199, 18, 20, 66, 146, 197, 173] [104, 0, 1]).drop 17 := by kernel_rfl

/-- The number of bytes, the highest first. -/
def numB (bs : List Nat) : Nat := bs.foldl (fun n x => n * 256 + x) 0
def gBytes : Nat → List Nat
  | 0 => [22, 9, 94, 96, 137, 201, 132, 135, 12, 215]
  | 1 => [22, 9, 94, 96, 137, 201, 132, 135, 12, 215, 97]
  | _ => [22, 9, 94, 96, 137, 201, 132, 135, 12, 215, 97, 165, 119, 173, 84, 193, 49]
theorem gH_eq : ∀ i, i < 3 → numB (gBytes i) ^ gTimes i % gP i = gH i
  | 0, _ => by rw [← pm_eq (numB (gBytes 0)) (gP 0) 65 (gTimes 0) (by decide)]; kernel_rfl
  | 1, _ => by rw [← pm_eq (numB (gBytes 1)) (gP 1) 65 (gTimes 1) (by decide)]; kernel_rfl
  | 2, _ => by rw [← pm_eq (numB (gBytes 2)) (gP 2) 65 (gTimes 2) (by decide)]; kernel_rfl
  | _ + 3, h => by omega

end Go.Proofs.YtdebccghjbfgdaaGreatDoor
