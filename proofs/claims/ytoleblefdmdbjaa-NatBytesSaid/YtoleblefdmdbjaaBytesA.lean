/- Bytes of any length as a number, by the program and by the document. -/
import Derived.Test.YtoleblefdmdbjaaSmall
namespace Go.Proofs.Ytoleblefdmdbjaa
open Go Go.RowKit Go.Proofs.Ytoleblefdmdbjaa.Flow

/-- What comes of so many bytes. -/
def getN (bs : List Nat) : Nat := if bs.length ≤ 128 then be bs else 0
def getE (bs : List Nat) : Int := if bs.length ≤ 128 then 0 else 4

theorem be_blen {bs : List Nat} (h : Bytes8 bs) : blen (be bs) ≤ 8 * bs.length := by
  refine (blen_le _ _).2 ?_
  have := h.reverse.lt
  rw [B8_pow] at this
  simpa [be] using this
theorem getN_blen {bs : List Nat} (h : Bytes8 bs) : blen (getN bs) ≤ 1024 := by
  unfold getN
  split
  · have := be_blen h; omega
  · rw [blen_zero]; omega

theorem getN_lim {bs : List Nat} (h : Bytes8 bs) : getN bs < B32 32 := by
  unfold getN
  split
  · have h1 := h.reverse.lt
    have h2 : B8 bs.reverse.length ≤ B8 (4 * 32) := B8_mono (by simp; omega)
    rw [B8_four] at h2
    exact Nat.lt_of_lt_of_le h1 h2
  · exact B32_pos _

def GivesFrom (bs : List Nat) (w : World) (e : Ending) (w' : World) : Prop :=
  ∃ q m d, e = .returned (.tuple #[.agg #[.slice q m d], .int .i64 (getE bs)]) ∧ NatAt w' q m d (getN bs) ∧ Below w.heap.size w w' ∧ New w.heap.size q
def GivesGet (bs : List Nat) (w : World) (e : Ending) (w' : World) : Prop :=
  ∃ q m d, e = .returned (.tuple #[.slice q m d, .int .i64 (getE bs)]) ∧ BitsAt w' q m d (getN bs) ∧ Below w.heap.size w w' ∧ New w.heap.size q

set_option maxHeartbeats 1000000 in
theorem from_all (w : World) (p : Option Addr) (n c : Nat) (bs : List Nat) (h : RowIn w .u8 p n c bs) (hb8 : Bytes8 bs) (hn : n ≤ 1000) :
    Calls Try.prog 14 #[.slice p n c] w (GivesFrom bs w) := by
  by_cases h1 : n ≤ 128
  · have e1 : getN bs = be bs := by unfold getN; rw [if_pos (by rw [← h.len]; exact h1)]
    have e2 : getE bs = 0 := by unfold getE; rw [if_pos (by rw [← h.len]; exact h1)]
    refine (fromBytes_calls w p n c bs h hb8 h1).mono ?_
    rintro e w' ⟨q, m, d, rfl, k1, k2, k3⟩
    unfold GivesFrom
    rw [e1, e2]
    exact ⟨q, m, d, rfl, k1, k2, k3⟩
  · have e1 : Hid (getN bs = 0) := Lib.hid (by unfold getN; rw [if_neg (by rw [← h.len]; exact h1)])
    have e2 : Hid (getE bs = 4) := Lib.hid (by unfold getE; rw [if_neg (by rw [← h.len]; exact h1)])
    go_enter Try.func14, Try.ntmps14
    go_wp2
    refine bodyPost_ret (v := .tuple #[.agg #[.slice none 0 0], .int .i64 4]) (by simp [results, Try.results14, go_sem]) rfl ⟨none, 0, 0, by rw [e2.out], ?_, (Below.refl _ _).alloc (Nat.le_refl _) _, New.none _⟩
    rw [e1.out]
    exact NatAt.nil _

theorem bits_nil (w : World) (p : Option Addr) (b off : Nat) (hp : p = some ⟨b, off, none⟩) (hb : b < w.heap.size) : BitsAt w p 0 0 0 := by
  show BRow w p 0 0 []
  exact ⟨rfl, Nat.le_refl _, by omega, .inr ⟨b, off, hp, hb, fun i x hx => by cases hx⟩⟩

set_option maxHeartbeats 1000000 in
theorem get_all (w : World) (p : Option Addr) (n c : Nat) (bs : List Nat) (h : RowIn w .u8 p n c bs) (hb8 : Bytes8 bs) (hn : n ≤ 1000) :
    Calls Try.prog 15 #[.slice p n c] w (GivesGet bs w) := by
  by_cases h1 : n ≤ 128
  · have e1 : Hid (getN bs = be bs) := Lib.hid (by unfold getN; rw [if_pos (by rw [← h.len]; exact h1)])
    have e2 : Hid (getE bs = 0) := Lib.hid (by unfold getE; rw [if_pos (by rw [← h.len]; exact h1)])
    go_enter Try.func15, Try.ntmps15
    go_wp2_with fail
    refine (of_calls w p n c bs h hb8 hn).mono ?_
    rintro e w' ⟨q, m, d, rfl, k1, k2, k3⟩
    go_wp2
    go_ret2
    exact ⟨q, m, d, by rw [e2.out]; rfl, by rw [e1.out]; exact k1, k2, k3⟩
  · have e1 : Hid (getN bs = 0) := Lib.hid (by unfold getN; rw [if_neg (by rw [← h.len]; exact h1)])
    have e2 : Hid (getE bs = 4) := Lib.hid (by unfold getE; rw [if_neg (by rw [← h.len]; exact h1)])
    go_enter Try.func15, Try.ntmps15
    go_wp2
    go_ret2
    refine ⟨some ⟨w.heap.size, 0, none⟩, 0, 0, by rw [e2.out]; rfl, ?_, (Below.refl _ _).alloc (Nat.le_refl _) _, fun q hq => by cases hq; exact Nat.le_refl _⟩
    rw [e1.out]
    exact bits_nil _ _ w.heap.size 0 rfl (by simp)

theorem BRow.grown {w w' : World} {p : Option Addr} {n c : Nat} {xs : List Bool} {g : Nat} (h : BRow w p n c xs) (hg : w.grownBy w' (some g)) (hp : ∀ q, p = some q → q.block ≠ g) : BRow w' p n c xs := by
  refine ⟨h.len, h.cap, h.max, ?_⟩
  rcases h.at_ with h1 | ⟨b, off, h1, h2, h3⟩
  · exact .inl h1
  · have hne := hp _ h1
    refine .inr ⟨b, off, h1, Nat.lt_of_lt_of_le h2 hg.size, fun i x hx => ?_⟩
    exact hg.cell (h3 i x hx) (fun e => hne (Option.some.inj e))

theorem NatAt.grown {w w' : World} {p : Option Addr} {n c N g : Nat} (h : NatAt w p n c N) (hg : w.grownBy w' (some g)) (hp : ∀ q, p = some q → q.block ≠ g) : NatAt w' p n c N :=
  let ⟨ws, h1, h2, h3, h4⟩ := h.ex
  ⟨ws, h1.grown hg hp, h2, h3, h4⟩

theorem strOf_nil : strOf [] = ByteArray.empty := rfl

theorem convert_empty (w : World) (p : Option Addr) (c : Nat) : (convert 22 9 (.slice p 0 c)).run Try.prog w = .ok (.string (strOf [])) w := by
  rw [run_convert_bytes_string w 22 9 5 p 0 c (by kernel_rfl) (by kernel_rfl) (by kernel_rfl)]
  cases p with
  | none => rfl
  | some a => rfl

theorem convert_in {w : World} {p : Option Addr} {n c : Nat} {bs : List Nat} (h : RowIn w .u8 p n c bs) :
    (convert 22 9 (.slice p n c)).run Try.prog w = .ok (.string (strOf bs)) w := by
  rcases Nat.eq_zero_or_pos n with rfl | h0
  · have : bs = [] := List.eq_nil_of_length_eq_zero h.len.symm
    rw [this]
    exact convert_empty w p c
  · exact convert_row (h.row h0)

end Go.Proofs.Ytoleblefdmdbjaa
