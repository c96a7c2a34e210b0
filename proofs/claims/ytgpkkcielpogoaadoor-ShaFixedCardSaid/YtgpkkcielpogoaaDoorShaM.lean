/- The sum of FIPS 180-4, over numbers. -/
import Derived.Test.YtgpkkcielpogoaaDoorGen
namespace Go.Proofs.YtgpkkcielpogoaaDoor
open Go

/-- A word turned n places to the right. -/
def rr (x n : Nat) : Nat := x * 2 ^ (32 - n) % 4294967296 ||| x / 2 ^ n
def add32 (x y : Nat) : Nat := (x + y) % 4294967296
def sm0 (x : Nat) : Nat := rr x 7 ^^^ rr x 18 ^^^ x / 8
def sm1 (x : Nat) : Nat := rr x 17 ^^^ rr x 19 ^^^ x / 1024
def bs0 (x : Nat) : Nat := rr x 2 ^^^ rr x 13 ^^^ rr x 22
def bs1 (x : Nat) : Nat := rr x 6 ^^^ rr x 11 ^^^ rr x 25
def ch (e f g : Nat) : Nat := e &&& f ^^^ (4294967295 - e) &&& g
def maj (a b c : Nat) : Nat := a &&& b ^^^ a &&& c ^^^ b &&& c

theorem rr_lt {x n : Nat} (hx : x < 4294967296) : rr x n < 4294967296 := by
  unfold rr
  exact Nat.or_lt_two_pow (n := 32) (Nat.mod_lt _ (by omega)) (Nat.lt_of_le_of_lt (Nat.div_le_self _ _) hx)
theorem add32_lt (x y : Nat) : add32 x y < 4294967296 := Nat.mod_lt _ (by omega)
theorem xor_lt32 {x y : Nat} (hx : x < 4294967296) (hy : y < 4294967296) : x ^^^ y < 4294967296 := Nat.xor_lt_two_pow (n := 32) hx hy
theorem and_lt32 {x y : Nat} (hy : y < 4294967296) : x &&& y < 4294967296 := Nat.and_lt_two_pow (n := 32) _ hy
theorem or_lt32 {x y : Nat} (hx : x < 4294967296) (hy : y < 4294967296) : x ||| y < 4294967296 := Nat.or_lt_two_pow (n := 32) hx hy

/-- The next word of the sixteen to sixty-four. -/
def wnext (ws : List Nat) (t : Nat) : Nat := add32 (add32 (add32 (sm1 (ws.getD (t - 2) 0)) (ws.getD (t - 7) 0)) (sm0 (ws.getD (t - 15) 0))) (ws.getD (t - 16) 0)
/-- A block's first words. -/
def wfirst (m : List Nat) (t : Nat) : Nat := m.getD (4 * t) 0 * 16777216 ||| m.getD (4 * t + 1) 0 * 65536 ||| m.getD (4 * t + 2) 0 * 256 ||| m.getD (4 * t + 3) 0
/-- The words of a block, so many. -/
def wlist (m : List Nat) : Nat → List Nat
  | 0 => []
  | t + 1 => wlist m t ++ [if t < 16 then wfirst m t else wnext (wlist m t) t]

theorem wlist_length (m : List Nat) (t : Nat) : (wlist m t).length = t := by
  induction t with
  | zero => rfl
  | succ t ih => simp [wlist, ih]

theorem wfirst_lt {m : List Nat} (hm : Bytes8 m) (t : Nat) : wfirst m t < 4294967296 := by
  have h0 := hm.get (4 * t); have h1 := hm.get (4 * t + 1); have h2 := hm.get (4 * t + 2); have h3 := hm.get (4 * t + 3)
  unfold wfirst
  exact or_lt32 (or_lt32 (or_lt32 (by omega) (by omega)) (by omega)) (by omega)

theorem wlist_words {m : List Nat} (hm : Bytes8 m) (t : Nat) : Words (wlist m t) := by
  induction t with
  | zero => exact Words.nil
  | succ t ih =>
    refine ih.snoc ?_
    split
    · exact wfirst_lt hm t
    · exact add32_lt _ _

/-- The words a to h. -/
structure St where
  a : Nat
  b : Nat
  c : Nat
  d : Nat
  e : Nat
  f : Nat
  g : Nat
  h : Nat

def St.ok (s : St) : Prop := s.a < 4294967296 ∧ s.b < 4294967296 ∧ s.c < 4294967296 ∧ s.d < 4294967296 ∧ s.e < 4294967296 ∧ s.f < 4294967296 ∧ s.g < 4294967296 ∧ s.h < 4294967296
def St.list (s : St) : List Nat := [s.a, s.b, s.c, s.d, s.e, s.f, s.g, s.h]
def St.of (l : List Nat) : St := ⟨l.getD 0 0, l.getD 1 0, l.getD 2 0, l.getD 3 0, l.getD 4 0, l.getD 5 0, l.getD 6 0, l.getD 7 0⟩

def tone (s : St) (k w : Nat) : Nat := add32 (add32 (add32 (add32 s.h (bs1 s.e)) (ch s.e s.f s.g)) k) w
def ttwo (s : St) : Nat := add32 (bs0 s.a) (maj s.a s.b s.c)
def rnd (s : St) (k w : Nat) : St := ⟨add32 (tone s k w) (ttwo s), s.a, s.b, s.c, add32 s.d (tone s k w), s.e, s.f, s.g⟩
def rnds (K W : List Nat) (s : St) : Nat → St
  | 0 => s
  | t + 1 => rnd (rnds K W s t) (K.getD t 0) (W.getD t 0)

theorem rnd_ok {s : St} (h : s.ok) (k w : Nat) : (rnd s k w).ok := by
  obtain ⟨h1, h2, h3, h4, h5, h6, h7, h8⟩ := h
  exact ⟨add32_lt _ _, h1, h2, h3, add32_lt _ _, h5, h6, h7⟩
theorem rnds_ok {K W : List Nat} {s : St} (h : s.ok) : ∀ t, (rnds K W s t).ok
  | 0 => h
  | t + 1 => rnd_ok (rnds_ok h t) _ _
theorem St.of_ok {l : List Nat} (h : Words l) : (St.of l).ok := ⟨h.get _, h.get _, h.get _, h.get _, h.get _, h.get _, h.get _, h.get _⟩
theorem St.list_of {l : List Nat} (h : l.length = 8) : (St.of l).list = l := by
  match l, h with
  | [a, b, c, d, e, f, g, x], _ => rfl
theorem St.of_list (s : St) : St.of s.list = s := rfl
theorem St.list_words {s : St} (h : s.ok) : Words s.list := by
  obtain ⟨h1, h2, h3, h4, h5, h6, h7, h8⟩ := h
  intro x hx
  simp only [St.list, List.mem_cons, List.not_mem_nil, or_false] at hx
  rcases hx with rfl | rfl | rfl | rfl | rfl | rfl | rfl | rfl <;> assumption

def sadd (H G : List Nat) : List Nat := List.zipWith add32 H G

/-- The constants, and the first state. -/
def kays : List Nat := [1116352408, 1899447441, 3049323471, 3921009573, 961987163, 1508970993, 2453635748, 2870763221, 3624381080, 310598401, 607225278, 1426881987, 1925078388, 2162078206, 2614888103, 3248222580, 3835390401, 4022224774, 264347078, 604807628, 770255983, 1249150122, 1555081692, 1996064986, 2554220882, 2821834349, 2952996808, 3210313671, 3336571891, 3584528711, 113926993, 338241895, 666307205, 773529912, 1294757372, 1396182291, 1695183700, 1986661051, 2177026350, 2456956037, 2730485921, 2820302411, 3259730800, 3345764771, 3516065817, 3600352804, 4094571909, 275423344, 430227734, 506948616, 659060556, 883997877, 958139571, 1322822218, 1537002063, 1747873779, 1955562222, 2024104815, 2227730452, 2361852424, 2428436474, 2756734187, 3204031479, 3329325298]
def hnull : List Nat := [1779033703, 3144134277, 1013904242, 2773480762, 1359893119, 2600822924, 528734635, 1541459225]

theorem kays_length : kays.length = 64 := by kernel_rfl
theorem hnull_length : hnull.length = 8 := rfl
theorem hnull_words : Words hnull := by
  have : hnull.all (fun x => decide (x < 4294967296)) = true := by kernel_rfl
  intro x hx
  exact of_decide_eq_true (List.all_eq_true.1 this x hx)
theorem kays_words : Words kays := by
  have : kays.all (fun x => decide (x < 4294967296)) = true := by kernel_rfl
  intro x hx
  exact of_decide_eq_true (List.all_eq_true.1 this x hx)

/-- A block more. -/
def comp (H m : List Nat) : List Nat := sadd H (rnds kays (wlist m 64) (St.of H) 64).list

theorem comp_length {H m : List Nat} (h : H.length = 8) : (comp H m).length = 8 := by simp [comp, sadd, St.list, h]
theorem comp_words (H m : List Nat) : Words (comp H m) := by
  intro x hx
  unfold comp sadd at hx
  rw [List.mem_iff_getElem] at hx
  obtain ⟨i, hi, rfl⟩ := hx
  rw [List.getElem_zipWith]
  exact add32_lt _ _

/-- The state behind so many blocks. -/
def blocks (m : List Nat) : Nat → List Nat
  | 0 => hnull
  | n + 1 => comp (blocks m n) ((m.drop (64 * n)).take 64)

theorem blocks_length (m : List Nat) : ∀ n, (blocks m n).length = 8
  | 0 => rfl
  | n + 1 => comp_length (blocks_length m n)
theorem blocks_words (m : List Nat) : ∀ n, Words (blocks m n)
  | 0 => hnull_words
  | _ + 1 => comp_words _ _
theorem blocks_append {m b : List Nat} : ∀ {n : Nat}, 64 * n ≤ m.length → blocks (m ++ b) n = blocks m n
  | 0, _ => rfl
  | n + 1, h => by
    rw [blocks, blocks, blocks_append (by omega), List.drop_append_of_le_length (by omega), List.take_append_of_le_length (by simp; omega)]

/-- A number's eight bytes, the highest first. -/
def be8 (N : Nat) : List Nat := (List.range 8).map fun i => N / 2 ^ (8 * (7 - i)) % 256
/-- What so many bytes get behind them. -/
def noughts (n : Nat) : Nat := (119 - n % 64) % 64
def behind (n : Nat) : List Nat := 128 :: (List.replicate (noughts n) 0 ++ be8 (n * 8 % 18446744073709551616))
/-- A word's bytes. -/
def wbytes (x : Nat) : List Nat := [x / 16777216 % 256, x / 65536 % 256, x / 256 % 256, x % 256]
def sha (m : List Nat) : List Nat := (blocks (m ++ behind m.length) ((m.length + (behind m.length).length) / 64)).flatMap wbytes

theorem be8_length (N : Nat) : (be8 N).length = 8 := by simp [be8]
theorem behind_length (n : Nat) : (behind n).length = noughts n + 9 := by simp [behind, be8_length]
theorem behind_all (n : Nat) : (n + (behind n).length) % 64 = 0 := by rw [behind_length]; unfold noughts; omega
theorem be8_bytes (N : Nat) : Bytes8 (be8 N) := by
  intro x hx
  simp only [be8, List.mem_map] at hx
  obtain ⟨i, _, rfl⟩ := hx
  exact Nat.mod_lt _ (by omega)
theorem behind_bytes (n : Nat) : Bytes8 (behind n) := by
  intro x hx
  simp only [behind, List.mem_cons, List.mem_append, List.mem_replicate] at hx
  rcases hx with rfl | ⟨_, rfl⟩ | hx
  · omega
  · omega
  · exact be8_bytes _ x hx
theorem sha_length (m : List Nat) : (sha m).length = 32 := by
  have h := blocks_length (m ++ behind m.length) ((m.length + (behind m.length).length) / 64)
  unfold sha
  generalize blocks (m ++ behind m.length) ((m.length + (behind m.length).length) / 64) = l at h
  match l, h with
  | [a, b, c, d, e, f, g, x], _ => rfl
theorem sha_bytes (m : List Nat) : Bytes8 (sha m) := by
  intro x hx
  unfold sha at hx
  rw [List.mem_flatMap] at hx
  obtain ⟨y, _, hy⟩ := hx
  simp only [wbytes, List.mem_cons, List.not_mem_nil, or_false] at hy
  omega

theorem sha_nil : sha [] = [227, 176, 196, 66, 152, 252, 28, 20, 154, 251, 244, 200, 153, 111, 185, 36, 39, 174, 65, 228, 100, 155, 147, 76, 164, 149, 153, 27, 120, 82, 184, 85] := by kernel_rfl
end Go.Proofs.YtgpkkcielpogoaaDoor
