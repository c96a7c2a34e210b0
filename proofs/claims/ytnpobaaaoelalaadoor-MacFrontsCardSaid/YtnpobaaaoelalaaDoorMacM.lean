/- Sums with a key, over numbers. -/
import Derived.Test.YtnpobaaaoelalaaDoorShaM
namespace Go.Proofs.YtnpobaaaoelalaaDoor
open Go

/-- A key, or its sum. -/
def kkey (key : List Nat) : List Nat := if 64 < key.length then sha key else key
/-- A key's block. -/
def kblock (key : List Nat) : List Nat := kkey key ++ List.replicate (64 - (kkey key).length) 0
/-- Each byte exclusive or with one. -/
def masked (b : List Nat) (x : Nat) : List Nat := b.map (· ^^^ x)
/-- What the inner and the outer sum begin with. -/
def ipad (key : List Nat) : List Nat := masked (kblock key) 54
def opad (key : List Nat) : List Nat := masked (kblock key) 92
/-- What the tag is the sum of. -/
def tagged (key m : List Nat) : List Nat := opad key ++ sha (ipad key ++ m)
def hmac (key m : List Nat) : List Nat := sha (tagged key m)

theorem kkey_length (key : List Nat) : (kkey key).length ≤ 64 := by
  unfold kkey
  split
  · rw [sha_length]; omega
  · omega
theorem kblock_length (key : List Nat) : (kblock key).length = 64 := by have := kkey_length key; simp [kblock]; omega
theorem kkey_bytes {key : List Nat} (h : Bytes8 key) : Bytes8 (kkey key) := by
  unfold kkey
  split
  · exact sha_bytes _
  · exact h
theorem kblock_bytes {key : List Nat} (h : Bytes8 key) : Bytes8 (kblock key) := by
  intro x hx
  rcases List.mem_append.1 hx with h1 | h1
  · exact kkey_bytes h x h1
  · have := (List.mem_replicate.1 h1).2; omega
theorem masked_length (b : List Nat) (x : Nat) : (masked b x).length = b.length := by simp [masked]
theorem masked_bytes {b : List Nat} (h : Bytes8 b) {x : Nat} (hx : x < 256) : Bytes8 (masked b x) := by
  intro y hy
  obtain ⟨z, hz, rfl⟩ := List.mem_map.1 hy
  exact Nat.xor_lt_two_pow (n := 8) (h z hz) hx
theorem ipad_length (key : List Nat) : (ipad key).length = 64 := by rw [ipad, masked_length, kblock_length]
theorem opad_length (key : List Nat) : (opad key).length = 64 := by rw [opad, masked_length, kblock_length]
theorem ipad_bytes {key : List Nat} (h : Bytes8 key) : Bytes8 (ipad key) := masked_bytes (kblock_bytes h) (by omega)
theorem opad_bytes {key : List Nat} (h : Bytes8 key) : Bytes8 (opad key) := masked_bytes (kblock_bytes h) (by omega)
theorem hmac_length (key m : List Nat) : (hmac key m).length = 32 := sha_length _
theorem hmac_bytes (key m : List Nat) : Bytes8 (hmac key m) := sha_bytes _

/-- A key of more than 64 bytes is its sum. -/
theorem kkey_sha {key : List Nat} (h : 64 < key.length) : kkey (sha key) = kkey key := by
  unfold kkey
  rw [if_pos h, if_neg (by rw [sha_length]; omega)]
theorem kblock_sha {key : List Nat} (h : 64 < key.length) : kblock (sha key) = kblock key := by unfold kblock; rw [kkey_sha h]
theorem hmac_sha {key : List Nat} (h : 64 < key.length) (m : List Nat) : hmac (sha key) m = hmac key m := by unfold hmac tagged opad ipad; rw [kblock_sha h]
/-- A short key with a nought behind it is the same key. -/
theorem kblock_nought {key : List Nat} (h : key.length < 64) : kblock (key ++ [0]) = kblock key := by
  unfold kblock kkey
  rw [if_neg (by simp; omega), if_neg (by omega), List.append_assoc]
  congr 1
  rw [show 64 - key.length = 64 - (key ++ [0]).length + 1 by simp; omega, List.replicate_succ]
  rfl
theorem hmac_nought {key : List Nat} (h : key.length < 64) (m : List Nat) : hmac (key ++ [0]) m = hmac key m := by unfold hmac tagged opad ipad; rw [kblock_nought h]

/-- The chapter's example. -/
theorem hmac_hi : hmac (List.replicate 20 11) [72, 105, 32, 84, 104, 101, 114, 101] = [176, 52, 76, 97, 216, 219, 56, 83, 92, 168, 175, 206, 175, 11, 241, 43, 136, 29, 194, 0, 201, 131, 61, 167, 38, 233, 55, 108, 46, 50, 207, 247] := by kernel_rfl
end Go.Proofs.YtnpobaaaoelalaaDoor
