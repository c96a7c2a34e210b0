/- Numbers out of small ones and out of bytes; a number's copy. -/
import Derived.Test.YthpfpnialeoclaaNatA
import Derived.Test.YthpfpnialeoclaaNatB
import Derived.Test.YthpfpnialeoclaaMath
import Derived.Test.YthpfpnialeoclaaFlow
namespace Go.Proofs.Ythpfpnialeoclaa
open Go Go.RowKit Go.Proofs.Ythpfpnialeoclaa.Flow

theorem cells_two (w : World) {a b : Int} {x y : Nat} (ha : a = (x : Nat)) (hb : b = (y : Nat)) (t : TypeId) {g : Nat} (hg : g = w.heap.size) : Row (w.alloc (.cells #[.int .u32 a, .int .u32 b] t)) .u32 (some ⟨g, 0, none⟩) 2 2 [x, y] := by
  subst ha; subst hb; subst hg
  refine ⟨rfl, Nat.le_refl _, by omega, .inr ⟨_, _, rfl, by simp, fun i z hx => ?_⟩⟩
  rw [World.cell?_alloc_at (hn := rfl)]
  match i, hx with
  | 0, hx => simp at hx; subst hx; simp
  | 1, hx => simp at hx; subst hx; simp

set_option maxHeartbeats 400000 in
theorem new_calls (n : Nat) (w : World) (hn : n < 18446744073709551616) :
    Calls Try.prog 27 #[.int .u64 n] w (GivesNat n w) := by
  go_enter Try.func27, Try.ntmps27
  go_wp2_with fail
  have hrow := cells_two (w.alloc (.cells #[.slice none 0 0] 32)) (a := (n : Int) % 4294967296) (b := (n : Int) / 4294967296) (x := n % 4294967296) (y := n / 4294967296) (by omega) (by omega) 67 (g := w.heap.size + 1) (by simp)
  have hw : Words [n % 4294967296, n / 4294967296] := by intro x hx; simp at hx; omega
  refine (trimmed_calls _ _ _ _ _ hrow hw).mono ?_
  rintro e w2 ⟨p, m, c, rfl, hn2, hb2, hp⟩
  have hbx := ((Box1.mk1 w (.slice none 0 0) 32).alloc _).later hb2
  have c0 := hbx.c0
  have f0 := hbx.f0
  have hn' : New (w.heap.size + 1) p := by
    intro q hq
    rcases hp with rfl | rfl
    · cases hq
    · cases hq; simp
  have hv : val [n % 4294967296, n / 4294967296] = n := by simp only [val]; omega
  have HV := Lib.hid hv
  clear hv
  go_wp2
  refine bodyPost_ret (v := .agg #[.slice p m c]) (by simp [results, Try.results27, go_sem, c0]) rfl ⟨p, m, c, rfl, ?_, ?_, hn'.mono (by omega)⟩
  · have := hn2.setCell (a := ⟨w.heap.size, 0, none⟩) (hn'.ne (show w.heap.size < w.heap.size + 1 by omega)) (.slice p m c)
    rw [HV.out] at this
    exact this
  · exact hbx.bel.setCell (Nat.le_refl _) _

set_option maxHeartbeats 400000 in
theorem zero_calls (w : World) (p : Option Addr) (n c : Nat) :
    Calls Try.prog 52 #[.agg #[.slice p n c]] w fun e w' => e = .returned (.bool (decide (n = 0))) ∧ Below w.heap.size w w' := by
  go_enter Try.func52, Try.ntmps52
  go_wp2
  go_ret
  refine ⟨?_, (Below.refl _ _).alloc (Nat.le_refl _) _⟩
  by_cases h : n = 0
  · subst h; rfl
  · have : ((n : Int) == 0) = false := by rw [beq_eq_false_iff_ne]; omega
    simp [h, this]

set_option maxHeartbeats 400000 in
theorem sclone_calls (w : World) (p : Option Addr) (n c : Nat) (ws : List Nat) (h : Row w .u32 p n c ws) (hn : n < 1000000) :
    Calls Try.prog 60 #[.slice p n c] w fun e w' => ∃ q d, e = .returned (.slice q n d) ∧ Row w' .u32 q n d ws ∧ Below w.heap.size w w' ∧ New w.heap.size q := by
  have hne := fun w => Lib.run_eql_slice_nil (P := Try.prog) w 30 67 p n c 0 0 Try.underlying30
  by_cases hp : p = none
  · subst hp
    rcases h.at_ with ⟨_, rfl, rfl⟩ | ⟨b, off, h1, _⟩
    · go_enter Try.func60, Try.ntmps60
      go_wp2
      go_ret
      exact ⟨none, 0, rfl, h, Below.refl _ _, New.none _⟩
    · cases h1
  · rcases h.at_ with ⟨h1, _⟩ | ⟨b, off, rfl, hb, hc⟩
    · exact absurd h1 hp
    · obtain ⟨i0, hi, hz0, hz1, hz2⟩ := info_parts Try.info_u32
      have hl := h.len
      have HL := Lib.hid hl
      have HC := Lib.hid hc
      clear hl hc
      have hown := World.ownsRow_made w (base := w.heap.size) (e := 67) (size := 1) #[] 0 (Nat.le_refl _) (by simp [maxLen]) (by simp)
      go_enter Try.func60, Try.ntmps60
      go_wp2_with (at_builtin; refine wpList_append_own _ rfl _ _ 30 rfl w.heap.size 67 i0 (.int .u32 0) 1 4 Try.underlying30 hi hz0 hz1 hz2 rfl (by decide) _ _ _ rfl hown ⟨b, off, none⟩ n c (ws.map fun (x : Nat) => Value.int .u32 x) rfl ?c1 ?c2 ?c3 ?c4 ?c5 ?c6 ?_)
      case c1 => simp; exact HL.out.symm
      case c2 =>
        intro j u hu
        have hadd : (⟨b, off, none⟩ : Addr).add j = ⟨b, off + j, none⟩ := by unfold Addr.add; split <;> simp_all
        rw [hadd, World.cell?_alloc_past (hn := hb)]
        rw [List.getElem?_map] at hu
        cases hx : ws[j]? with
        | none => rw [hx] at hu; cases hu
        | some x => rw [hx] at hu; cases hu; exact HC.out j x hx
      case c3 => intro u hu; simp only [List.mem_map] at hu; obtain ⟨x, _, rfl⟩ := hu; rfl
      case c4 => unfold maxLen; omega
      case c5 => omega
      case c6 => simp
      intro v1 w1 ho1 hg1 _
      obtain ⟨q, d, rfl, hrow, hnew⟩ := Row.of_owns ho1
      have hb1 : Below w.heap.size w w1 := ((Below.refl _ w).alloc (Nat.le_refl _) _).grown hg1 (by simp) (fun k e => by simp [Value.ownBlock] at e; omega)
      go_wp2
      go_ret
      exact ⟨q, d, rfl, hrow, hb1, hnew⟩

set_option maxHeartbeats 400000 in
theorem clone_calls (w : World) (p : Option Addr) (n c N : Nat) (h : NatAt w p n c N) (hn : n < 1000000) :
    Calls Try.prog 53 #[.agg #[.slice p n c]] w (GivesNat N w) := by
  obtain ⟨ws, h1, h2, h3, h4⟩ := h.ex
  have H4 := Lib.hid h4
  clear h4
  have hbx := Boxes2.mk2 w (.slice p n c) (.slice none 0 0) 32 32
  go_enter Try.func53, Try.ntmps53
  go_wp2_with fail
  refine (sclone_calls _ p n c ws (h1.below hbx.bel) hn).mono ?_
  rintro e w1 ⟨q, d, rfl, hrow, hb1, hnew⟩
  have hbx1 := hbx.later hb1
  have c1 := hbx1.c1
  have f1 := hbx1.f1
  have hnew' : New (w.heap.size + 2) q := hnew.mono (by simp)
  go_wp2
  refine bodyPost_ret (v := .agg #[.slice q n d]) (by simp [results, Try.results53, go_sem, c1]) rfl ⟨q, n, d, rfl, ?_, ?_, hnew'.mono (by omega)⟩
  · exact ⟨ws, hrow.setCell (hnew'.ne (show w.heap.size + 1 < w.heap.size + 2 by omega)) _, h2, h3, H4.out⟩
  · exact hbx1.bel.setCell (by simp) _

end Go.Proofs.Ythpfpnialeoclaa
