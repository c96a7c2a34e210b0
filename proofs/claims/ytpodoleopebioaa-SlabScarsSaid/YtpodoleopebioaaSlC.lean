/- The small functions of a slab: New, Out, Sectors, Strokes, Supply, stroke, reach. -/
import Derived.Test.YtpodoleopebioaaSlB
import Derived.Test.YtpodoleopebioaaFlow
import Derived.Carry
namespace Go.Proofs.Ytpodoleopebioaa
open Go Go.RowKit Go.Maps Go.Proofs.Ytpodoleopebioaa.Flow
set_option maxRecDepth 100000

theorem Try.info_face3 : (Try.prog.info? 66).map (fun i => (i.zero, i.size, i.bytes)) = some (some (.agg (zeros .u8 64)), 64, 64) := by kernel_rfl

theorem madeCells_zeros (k n : Nat) (hk : 0 < k) : madeCells (zeros .u8 k) n = zeros .u8 n := by
  apply Array.ext
  · simp [madeCells, zeros]
  · intro i h1 h2
    have : i % k < k := Nat.mod_lt _ hk
    simp [madeCells, zeros, this]

/-- make([]face, n) -/
theorem make_faces (n : Nat) (h : n ≤ 4096) (w : World) : (Instr.makeSlice 60 (.int .i64 n) (.int .i64 n)).run Try.prog w =
    .ok (.slice (some ⟨w.heap.size, 0, none⟩) n n) (w.alloc (.cells (zeros .u8 (n * 64)) 66)) := by
  obtain ⟨i, hi, hz, hs, hb⟩ := info_parts Try.info_face3
  have := run_make (P := Try.prog) w 60 66 i (.agg (zeros .u8 64)) Try.underlying60 hi hz .i64 .i64 n n (by omega) (Int.le_refl _) (by rw [hb]; omega) (by omega)
  simp only [Int.toNat_natCast, hs] at this
  rw [this, ← madeCells_zeros 64 (n * 64) (by omega)]
  rfl

theorem flatF_zeros (n : Nat) : flatF n (fun _ => plainN 0) = List.replicate (n * 64) 0 := by
  induction n with
  | zero => rfl
  | succ n ih =>
    show flatF n (fun _ => plainN 0) ++ plainN 0 = _
    rw [ih]; unfold plainN
    rw [List.replicate_append_replicate]; congr 1; omega

/-- A slab that is new, or none. -/
def GivesNew (w : World) (n : Int) (e : Ending) (w' : World) : Prop :=
  (¬ (4 ≤ n ∧ n ≤ 4096) ∧ e = .returned (.pointer none) ∧ w' = w) ∨
  (4 ≤ n ∧ n ≤ 4096 ∧ ∃ b g m, e = .returned (.pointer (some ⟨b, 0, none⟩)) ∧ w.heap.size ≤ b ∧ w.heap.size ≤ g ∧ w.heap.size ≤ m ∧ SlabAt w' b g m (SM.new n.toNat) ∧ Below w.heap.size w w')

theorem slab_made {w : World} {b g m N : Nat} (hb : w.heap[b]? = some (.cells #[.slice (some ⟨g, 0, none⟩) N N, .map (some m), .int .i64 (-1), .int .i64 0] 63 (0, 0)))
    (hg : Blk w g 66 .u8 (List.replicate (N * 64) 0)) (hm : MapIs w m 0 (fun _ => none)) (h4 : 4 ≤ N) (h : N ≤ 4096) : SlabAt w b g m (SM.new ((N : Int).toNat)) := by
  rw [Int.toNat_natCast]
  refine ⟨SM.Ok.new h4 h, hb, ?_, ?_⟩
  · show Blk w g 66 .u8 (flatF N (fun _ => plainN 0))
    rw [flatF_zeros]; exact hg
  · have e : inkF (SM.new N) = fun _ => none := by
      funext x
      show (if 0 ≤ x then none else none) = none
      split <;> rfl
    rw [e]
    exact hm.tight (fun x v h => by cases h)

set_option maxHeartbeats 1000000 in
set_option maxRecDepth 100000 in
theorem new_calls (w : World) (n : Int) : Calls Try.prog 7 #[.int .i64 n] w fun e w' => GivesNew w n e w' := by
  by_cases h1 : n < 4
  · go_enter Try.func7, Try.ntmps7
    go_wp2
    go_ret
    exact .inl ⟨by omega, rfl, rfl⟩
  · by_cases h2 : 4096 < n
    · go_enter Try.func7, Try.ntmps7
      go_wp2
      go_ret
      exact .inl ⟨by omega, rfl, rfl⟩
    · obtain ⟨N, rfl⟩ : ∃ N : Nat, n = N := ⟨n.toNat, by omega⟩
      have hN : N ≤ 4096 := by omega
      have hN4 : 4 ≤ N := by omega
      have hmk := make_faces N hN
      have hmm := @run_makeMap Try.prog
      go_enter Try.func7, Try.ntmps7
      go_wp2
      go_ret
      refine .inr ⟨by omega, by omega, w.heap.size + 1 + 1, w.heap.size, w.heap.size + 1, rfl, by omega, Nat.le_refl _, by omega, ?_, ?_⟩
      · refine slab_made ?_ ?_ ?_ hN4 hN
        · have := heap_alloc_new ((w.alloc (.cells (zeros .u8 (N * 64)) 66)).alloc (.map #[] 0)) (.cells #[.slice (some ⟨w.heap.size, 0, none⟩) N N, .map (some (w.heap.size + 1)), .int .i64 (-1), .int .i64 0] 63)
          simpa using this
        · have := (Blk.zeros w 66 .u8 (N * 64)).alloc (.map #[] 0)
          exact this.alloc _
        · have := MapIs.made (w.alloc (.cells (zeros .u8 (N * 64)) 66))
          have h1 := this.below ((Below.refl _ _).alloc (Nat.le_refl _) (.cells #[.slice (some ⟨w.heap.size, 0, none⟩) N N, .map (some (w.heap.size + 1)), .int .i64 (-1), .int .i64 0] 63)) this.lt
          simpa using h1
      · exact (((Below.refl _ _).alloc (Nat.le_refl _) _).alloc (by simp) _).alloc (by simp; omega) _

set_option maxHeartbeats 1000000 in
set_option maxRecDepth 100000 in
theorem out_yes {w : World} {b g m : Nat} {S : SM} (h : SlabAt w b g m S) (h0 : S.sup = 0) : Calls Try.prog 18 #[.pointer (some ⟨b, 0, none⟩)] w fun e w' => e = .returned (.bool true) ∧ w' = w := by
  obtain ⟨c0, c1, c2, c3⟩ := h.cells
  rw [h0] at c2
  clear h0 h
  go_enter Try.func18, Try.ntmps18
  go_wp2
  go_ret
  exact ⟨rfl, rfl⟩
set_option maxHeartbeats 1000000 in
set_option maxRecDepth 100000 in
theorem out_no {w : World} {b g m : Nat} {S : SM} (h : SlabAt w b g m S) (h0 : S.sup ≠ 0) : Calls Try.prog 18 #[.pointer (some ⟨b, 0, none⟩)] w fun e w' => e = .returned (.bool false) ∧ w' = w := by
  obtain ⟨c0, c1, c2, c3⟩ := h.cells
  clear h
  go_enter Try.func18, Try.ntmps18
  go_wp2
  go_ret
  exact ⟨by simp [h0], rfl⟩
set_option maxHeartbeats 1000000 in
set_option maxRecDepth 100000 in
theorem out_nil (w : World) : Calls Try.prog 18 #[.pointer none] w fun e w' => e = .returned (.bool false) ∧ w' = w := by
  go_enter Try.func18, Try.ntmps18
  go_wp2
  go_ret
  exact ⟨rfl, rfl⟩

set_option maxHeartbeats 1000000 in
set_option maxRecDepth 100000 in
theorem sectors_calls {w : World} {b g m : Nat} {S : SM} (h : SlabAt w b g m S) : Calls Try.prog 15 #[.pointer (some ⟨b, 0, none⟩)] w fun e w' => e = .returned (.int .i64 (S.n : Nat)) ∧ w' = w := by
  obtain ⟨c0, c1, c2, c3⟩ := h.cells
  clear h
  go_enter Try.func15, Try.ntmps15
  go_wp2
  go_ret
  exact ⟨rfl, rfl⟩
set_option maxHeartbeats 1000000 in
set_option maxRecDepth 100000 in
theorem strokes_calls {w : World} {b g m : Nat} {S : SM} (h : SlabAt w b g m S) : Calls Try.prog 17 #[.pointer (some ⟨b, 0, none⟩)] w fun e w' => e = .returned (.int .i64 S.made) ∧ w' = w := by
  obtain ⟨c0, c1, c2, c3⟩ := h.cells
  clear h
  go_enter Try.func17, Try.ntmps17
  go_wp2
  go_ret
  exact ⟨rfl, rfl⟩

/-- A field of a slab turned. -/
theorem SlabAt.field {w : World} {b g m : Nat} {S S' : SM} (h : SlabAt w b g m S) (hok : S'.Ok) (hn : S'.n = S.n) (hb : S'.bur = S.bur) (hi : S'.ink = S.ink) {w' : World}
    (e : w'.heap[b]? = some (.cells #[.slice (some ⟨g, 0, none⟩) S.n S.n, .map (some m), .int .i64 S'.sup, .int .i64 S'.made] 63 (0, 0))) (hg : w'.heap[g]? = w.heap[g]?) (hm : w'.heap[m]? = w.heap[m]?) : SlabAt w' b g m S' := by
  refine ⟨hok, by rw [hn]; exact e, ?_, ?_⟩
  · rw [hn, hb]; unfold Blk; rw [hg]; exact h.row
  · have e : inkF S' = inkF S := by funext x; unfold inkF; rw [hi]
    rw [hn, e]; exact h.ink.block hm
theorem SlabAt.setSup {w : World} {b g m : Nat} {S : SM} (h : SlabAt w b g m S) {k : Int} (hk : -1 ≤ k ∧ k ≤ 9223372036854775807) : SlabAt (w.setCell ⟨b, 2, none⟩ (.int .i64 k)) b g m { S with sup := k } := by
  obtain ⟨h1, h2, _⟩ := h.apart
  refine h.field (S' := { S with sup := k }) ⟨h.ok.n4, h.ok.n4096, h.ok.bur, h.ok.ink, hk, h.ok.made⟩ rfl rfl rfl ?_ (Below.heap_setCell _ _ _ _ (fun e => h1 e.symm)) (Below.heap_setCell _ _ _ _ (fun e => h2 e.symm))
  have := h.blk
  simp [World.setCell, Array.getElem?_modify, this]
theorem SlabAt.setMade {w : World} {b g m : Nat} {S : SM} (h : SlabAt w b g m S) {k : Int} (hk : -9223372036854775808 ≤ k ∧ k ≤ 9223372036854775807) : SlabAt (w.setCell ⟨b, 3, none⟩ (.int .i64 k)) b g m { S with made := k } := by
  obtain ⟨h1, h2, _⟩ := h.apart
  refine h.field (S' := { S with made := k }) ⟨h.ok.n4, h.ok.n4096, h.ok.bur, h.ok.ink, h.ok.sup, hk⟩ rfl rfl rfl ?_ (Below.heap_setCell _ _ _ _ (fun e => h1 e.symm)) (Below.heap_setCell _ _ _ _ (fun e => h2 e.symm))
  have := h.blk
  simp [World.setCell, Array.getElem?_modify, this]

set_option maxHeartbeats 1000000 in
set_option maxRecDepth 100000 in
theorem supply_calls {w : World} {b g m : Nat} {S : SM} (h : SlabAt w b g m S) {k : Int} (hk : k ≤ 9223372036854775807) : Calls Try.prog 10 #[.pointer (some ⟨b, 0, none⟩), .int .i64 k] w fun e w' => e = .returned (.tuple #[]) ∧ SlabAt w' b g m (S.supply k) ∧ Oth b g m w w' := by
  have HS : Hold _ := ⟨h⟩
  by_cases h0 : S.sup = 0
  · have HO : Hold _ := ⟨out_yes h h0⟩
    have HE : Hold (S.supply k = S) := ⟨by unfold SM.supply; rw [if_pos h0]⟩
    clear h h0
    go_enter Try.func10, Try.ntmps10
    go_wp2_with fail
    refine HO.out.mono ?_
    rintro e w1 ⟨rfl, rfl⟩
    go_wp2
    exact bodyPost_ret (v := .tuple #[]) (by simp [results, Try.results10, go_sem]) rfl ⟨rfl, by rw [HE.out]; exact HS.out, Oth.refl _ _ _ _⟩
  · have HO : Hold _ := ⟨out_no h h0⟩
    have HE : Hold (S.supply k = { S with sup := max k (-1) }) := ⟨by unfold SM.supply; rw [if_neg h0]⟩
    have c2 := h.cells.2.2.1
    have f2 := h.free 2
    by_cases hk1 : -1 ≤ k
    · have HK : Hold (-1 ≤ k ∧ k ≤ 9223372036854775807) := ⟨by omega⟩
      have HKE : Hold (max k (-1) = k) := ⟨by omega⟩
      clear h h0
      go_enter Try.func10, Try.ntmps10
      go_wp2_with fail
      refine HO.out.mono ?_
      rintro e w1 ⟨rfl, rfl⟩
      go_wp2
      go_end0
      rw [HE.out, HKE.out]
      exact ⟨rfl, HS.out.setSup HK.out, Oth.set _ _ _ _ (.inl rfl)⟩
    · have HK : Hold ((-1 : Int) ≤ -1 ∧ (-1 : Int) ≤ 9223372036854775807) := ⟨by omega⟩
      have HKE : Hold (max k (-1) = -1) := ⟨by omega⟩
      clear h h0
      go_enter Try.func10, Try.ntmps10
      go_wp2_with fail
      refine HO.out.mono ?_
      rintro e w1 ⟨rfl, rfl⟩
      go_wp2
      go_end0
      rw [HE.out, HKE.out]
      exact ⟨rfl, HS.out.setSup HK.out, Oth.set _ _ _ _ (.inl rfl)⟩

set_option maxHeartbeats 1000000 in
set_option maxRecDepth 100000 in
theorem supply_nil (w : World) (k : Int) : Calls Try.prog 10 #[.pointer none, .int .i64 k] w fun e w' => e = .returned (.tuple #[]) ∧ w' = w := by
  go_enter Try.func10, Try.ntmps10
  go_wp2
  exact bodyPost_ret (v := .tuple #[]) (by simp [results, Try.results10, go_sem]) rfl ⟨rfl, rfl⟩

set_option maxHeartbeats 1000000 in
set_option maxRecDepth 100000 in
theorem stroke_calls {w : World} {b g m : Nat} {S : SM} (h : SlabAt w b g m S) (h0 : S.sup ≠ 0) : Calls Try.prog 33 #[.pointer (some ⟨b, 0, none⟩)] w fun e w' => e = .returned (.tuple #[]) ∧ SlabAt w' b g m S.stroke ∧ Oth b g m w w' := by
  have HS1 : Hold _ := ⟨h.setMade (k := wrap64 (S.made + 1)) (SM.wrap_in _)⟩
  have c2 := h.cells.2.2.1
  have c3 := h.cells.2.2.2
  have f3 := h.free 3
  have k2 := HS1.out.cells.2.2.1
  have g2 := HS1.out.free 2
  by_cases h1 : S.sup = -1
  · have HE : Hold (S.stroke = { S with made := wrap64 (S.made + 1) }) := ⟨by unfold SM.stroke; rw [if_pos h1]; cases S; cases h1; rfl⟩
    rw [h1] at c2 k2
    clear h h0 h1
    go_enter Try.func33, Try.ntmps33
    go_wp2
    go_end0
    exact ⟨rfl, by rw [HE.out]; exact HS1.out, Oth.set _ _ _ _ (.inl rfl)⟩
  · have HE : Hold (S.stroke = { S with made := wrap64 (S.made + 1), sup := S.sup - 1 }) := ⟨by unfold SM.stroke; rw [if_neg h1]⟩
    have hw : wrap64 (S.sup - 1) = S.sup - 1 := by have := h.ok.sup; unfold wrap64; omega
    have HS2 : Hold _ := ⟨HS1.out.setSup (k := S.sup - 1) (by have := h.ok.sup; omega)⟩
    clear h h0
    go_enter Try.func33, Try.ntmps33
    go_wp2
    go_end0
    exact ⟨rfl, by rw [HE.out]; exact HS2.out, (Oth.set _ _ _ _ (.inl rfl)).trans (Oth.set _ _ _ _ (.inl rfl))⟩

set_option maxHeartbeats 1000000 in
set_option maxRecDepth 100000 in
theorem reach_calls {w : World} {b g m : Nat} {S : SM} (h : SlabAt w b g m S) (k : Int) : Calls Try.prog 29 #[.pointer (some ⟨b, 0, none⟩), .int .i64 k] w fun e w' => e = .returned (.int .i64 (S.reach k)) ∧ w' = w := by
  have c0 := h.cells.1
  by_cases h0 : S.sup = 0
  · have HO : Hold _ := ⟨out_yes h h0⟩
    have HE : Hold (S.reach k = 12) := ⟨by unfold SM.reach; rw [if_pos h0]⟩
    clear h h0 c0
    go_enter Try.func29, Try.ntmps29
    go_wp2_with fail
    refine HO.out.mono ?_
    rintro e w1 ⟨rfl, rfl⟩
    go_wp2
    go_ret
    exact ⟨by rw [HE.out]; rfl, rfl⟩
  · have HO : Hold _ := ⟨out_no h h0⟩
    by_cases h1 : k < 0
    · have HE : Hold (S.reach k = 2) := ⟨by unfold SM.reach; rw [if_neg h0, if_pos (.inl h1)]⟩
      clear h h0
      go_enter Try.func29, Try.ntmps29
      go_wp2_with fail
      refine HO.out.mono ?_
      rintro e w1 ⟨rfl, rfl⟩
      go_wp2
      go_ret
      exact ⟨by rw [HE.out]; rfl, rfl⟩
    · by_cases h2 : (S.n : Int) ≤ k
      · have HE : Hold (S.reach k = 2) := ⟨by unfold SM.reach; rw [if_neg h0, if_pos (.inr h2)]⟩
        clear h h0
        go_enter Try.func29, Try.ntmps29
        go_wp2_with fail
        refine HO.out.mono ?_
        rintro e w1 ⟨rfl, rfl⟩
        go_wp2
        go_ret
        exact ⟨by rw [HE.out]; rfl, rfl⟩
      · have HE : Hold (S.reach k = 0) := ⟨by unfold SM.reach; rw [if_neg h0, if_neg (by omega)]⟩
        clear h h0
        go_enter Try.func29, Try.ntmps29
        go_wp2_with fail
        refine HO.out.mono ?_
        rintro e w1 ⟨rfl, rfl⟩
        go_wp2
        go_ret
        exact ⟨by rw [HE.out]; rfl, rfl⟩
theorem reach_nil (w : World) (k : Int) : Calls Try.prog 29 #[.pointer none, .int .i64 k] w fun e w' => e = .returned (.int .i64 1) ∧ w' = w := by
  go_enter Try.func29, Try.ntmps29
  go_wp2
  go_ret
  exact ⟨rfl, rfl⟩

end Go.Proofs.Ytpodoleopebioaa
