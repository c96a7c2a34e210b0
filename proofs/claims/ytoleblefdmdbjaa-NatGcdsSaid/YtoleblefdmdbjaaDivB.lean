/- Of long division: the guess. -/
import Derived.Test.YtoleblefdmdbjaaDivA
namespace Go.Proofs.Ytoleblefdmdbjaa
open Go Go.RowKit Go.Proofs.Ytoleblefdmdbjaa.Flow

/-- What is guessed. -/
def GivesGuess (R D : Nat) (w : World) (e : Ending) (w' : World) : Prop := ∃ a n : Nat, e = .returned (.int .u32 a) ∧ R / D ≤ a ∧ a ≤ R / D + 1 ∧ a < 4294967296 ∧ w' = w.drewN n

theorem drewN_add (w : World) (a b : Nat) : (w.drewN a).drewN b = w.drewN (a + b) := by
  unfold World.drewN
  simp [Nat.add_assoc]

theorem Row.getAt {w : World} {k : IntKind} {b off : Nat} {xs : List Nat} (hc : ∀ (i x : Nat), xs[i]? = some x → w.cell? ⟨b, off + i, none⟩ = some (.int k (x : Int))) {i x : Nat} (hi : i < xs.length) (hx : xs.getD i 0 = x) : w.cell? ⟨b, off + i, none⟩ = some (.int k (x : Int)) :=
  hc i x (by rw [← hx, List.getD_eq_getElem?_getD]; simp [hi])

set_option maxHeartbeats 4000000 in
set_option maxRecDepth 100000 in
theorem guess_calls (w : World) (p : Option Addr) (n c : Nat) (X : List Nat) (q : Option Addr) (d e : Nat) (W : List Nat) (f s r2 r1 r0 P D R : Nat)
    (hX : Row w .u32 p n c X) (hW : Row w .u32 q d e W) (hd : 2 ≤ d) (hn : n = d + 1) (hlim : d < 1000000)
    (hf : W.getD (d - 1) 0 = f) (hs : W.getD (d - 2) 0 = s) (h2 : X.getD d 0 = r2) (h1 : X.getD (d - 1) 0 = r1) (h0 : X.getD (d - 2) 0 = r0) (hg : Guess f s r2 r1 r0 P D R) :
    Calls Try.prog 88 #[.slice p n c, .slice q d e] w (GivesGuess R D w) := by
  subst hn
  obtain ⟨b, off, rfl, hb, hc⟩ := hX.pos (by omega)
  obtain ⟨b2, off2, rfl, hb2, hc2⟩ := hW.pos (by omega)
  have lX := hX.len
  have lW := hW.len
  obtain ⟨j, rfl⟩ : ∃ j, d = j + 2 := ⟨d - 2, by omega⟩
  have g2 := Row.getAt hc (i := j + 2) (by omega) h2
  have g1 := Row.getAt hc (i := j + 1) (by omega) h1
  have g0 := Row.getAt hc (i := j) (by omega) h0
  have gf := Row.getAt hc2 (i := j + 1) (by omega) hf
  have gs := Row.getAt hc2 (i := j) (by omega) hs
  have b2' := hg.r21
  have b1' := hg.r11
  have b0' := hg.r01
  have bf' := hg.f2
  have bf1 := hg.f1
  have bs' := hg.s1
  obtain ⟨H, hH⟩ : ∃ H, r2 * 4294967296 + r1 = H := ⟨_, rfl⟩
  have t2 : bits BinOp.or IntKind.u64 ((r2 : Int) * 4294967296) (r1 : Int) = (H : Int) := by rw [shl32_or r2 r1 b2' b1', hH]
  have hHl : H < 18446744073709551616 := by omega
  have hst := GuessSt.start hg
  rw [hH] at hst
  have HG := Lib.hid hg
  have HH := Lib.hid hH
  have HST := Lib.hid hst
  have t3 : IntKind.u64.wrap ((r2 : Int) * 4294967296) = (r2 : Int) * 4294967296 := IntWalk.u64_in _ (by omega)
  have u2 : IntKind.u64.wrap (r2 : Int) = r2 := IntWalk.u64_in _ (by omega)
  have u1 : IntKind.u64.wrap (r1 : Int) = r1 := IntWalk.u64_in _ (by omega)
  have uf : IntKind.u64.wrap (f : Int) = f := IntWalk.u64_in _ (by omega)
  have us : IntKind.u64.wrap (s : Int) = s := IntWalk.u64_in _ (by omega)
  have i1 : IntKind.i64.wrap (((j + 2 : Nat) : Int) - 1) = (j + 1 : Nat) := by rw [IntWalk.i64_in _ (by omega)]; omega
  have i2 : IntKind.i64.wrap (((j + 2 : Nat) : Int) - 2) = (j : Nat) := by rw [IntWalk.i64_in _ (by omega)]; omega
  clear hX hW hc hc2 lX lW hf hs h2 h1 h0 hg hH hst
  go_enter Try.func88, Try.ntmps88
  go_wp2
  go_quiet (fail)
  go_wp2
  go_quiet (fail)
  go_wp2
  go_quiet (fail)
  go_wp2
  have hq4 : IntKind.u64.wrap ((H : Int) / f) = ((H / f : Nat) : Int) := by
    have h9 : H / f ≤ H := Nat.div_le_self _ _
    rw [← Int.natCast_ediv]
    generalize H / f = z at *
    exact IntWalk.u64_in _ (by omega)
  have hr4 : (H : Int) % f = ((H % f : Nat) : Int) := (Int.natCast_emod _ _).symm
  go_loop [9, 10] (fun o l => ∃ a m : Nat, o = .int .u64 a ∧ l = .int .u64 m ∧ Hid (GuessSt f s r2 r1 r0 P D R a m)) (fun o _ => (intOf o).toNat)
  case atStart => exact ⟨H / f, H % f, by rw [hq4], by rw [hr4], HST⟩
  case round =>
    obtain ⟨a, m, rfl, rfl, hk⟩ := hrel
    have hab := hk.out.bound HG.out
    have hml := hk.out.left
    clear hq4 hr4 HST
    by_cases ha : 4294967295 < a
    · have hL := hk.out.less HG.out (.inl ha)
      have ha1 := hL.1
      have HL := Lib.hid hL
      clear hL
      by_cases hl : 4294967296 ≤ m + f
      · have hB := hk.out.brk HG.out (.inl ha) hl
        have hB1 := hB.1
        have HB := Lib.hid hB
        clear hB
        go_wp2
        go_ret
        refine ⟨a - 1, _, ?_, HB.out.2.1, HB.out.2.2, hB1, by first | rfl | rw [drewN_add]⟩
        exact congrArg (fun z => Ending.returned (.int .u32 z)) (by omega)
      · have HN := Lib.hid (hk.out.next HG.out (.inl ha) (by omega))
        go_wp2
        refine ⟨⟨a - 1, by omega, m + f, by omega, HN⟩, by simp [intOf]; omega⟩
    · obtain ⟨y, hy⟩ : ∃ y, a * s = y := ⟨_, rfl⟩
      have hy9 : y < 18446744073709551616 := by
        have h9 : a * s ≤ 4294967295 * 4294967295 := Nat.mul_le_mul (by omega) (by omega)
        omega
      have hyi : (a : Int) * s = y := by rw [← hy]; exact (Int.natCast_mul _ _).symm
      have ty : IntKind.u64.wrap ((a : Int) * s) = y := by rw [hyi]; exact IntWalk.u64_in _ (by omega)
      obtain ⟨z, hz⟩ : ∃ z, m * 4294967296 + r0 = z := ⟨_, rfl⟩
      have tz : bits BinOp.or IntKind.u64 ((m : Int) * 4294967296) (r0 : Int) = (z : Int) := by rw [shl32_or m r0 hml b0', hz]
      have tm : IntKind.u64.wrap ((m : Int) * 4294967296) = (m : Int) * 4294967296 := IntWalk.u64_in _ (by omega)
      have HY := Lib.hid hy
      have HZ := Lib.hid hz
      clear hy hz
      by_cases hlt : z < y
      · have hT : 4294967295 < a ∨ m * 4294967296 + r0 < a * s := .inr (by rw [HY.out, HZ.out]; exact hlt)
        have hL := hk.out.less HG.out hT
        have ha1 := hL.1
        have HL := Lib.hid hL
        have HT := Lib.hid hT
        clear hL hT
        by_cases hl : 4294967296 ≤ m + f
        · have hB := hk.out.brk HG.out HT.out hl
          have hB1 := hB.1
          have HB := Lib.hid hB
          clear hB
          go_wp2
          go_ret
          refine ⟨a - 1, _, ?_, HB.out.2.1, HB.out.2.2, hB1, by first | rfl | rw [drewN_add]⟩
          exact congrArg (fun z => Ending.returned (.int .u32 z)) (by omega)
        · have HN := Lib.hid (hk.out.next HG.out HT.out (by omega))
          go_wp2
          refine ⟨⟨a - 1, by omega, m + f, by omega, HN⟩, by simp [intOf]; omega⟩
      · have HS := Lib.hid (hk.out.stop HG.out (by omega) (by rw [HY.out, HZ.out]; omega))
        go_wp2
        go_ret
        refine ⟨a, _, ?_, HS.out.1, HS.out.2, by omega, by first | rfl | rw [drewN_add]⟩
        exact congrArg (fun z => Ending.returned (.int .u32 z)) (by omega)

end Go.Proofs.Ytoleblefdmdbjaa
