/- A number out of bytes. -/
import Derived.Test.YtceihmiiapnmnaaNatH
namespace Go.Proofs.Ytceihmiiapnmnaa
open Go Go.RowKit Go.Proofs.Ytceihmiiapnmnaa.Flow
set_option maxRecDepth 100000

/-- The number of bytes, the highest first. -/
def be (bs : List Nat) : Nat := le bs.reverse

theorem getD_rev {bs : List Nat} {k : Nat} (h : k < bs.length) : bs.reverse.getD k 0 = bs.getD (bs.length - 1 - k) 0 := by
  rw [List.getD_eq_getElem?_getD, List.getD_eq_getElem?_getD, List.getElem?_reverse h]

theorem shl_in {x r : Nat} (hx : x < 256) (hr : r < 4) :
    IntKind.u32.wrap ((x : Int) * 2 ^ (min (((r : Int) * 8).toNat) 32)) = ((x * B8 r : Nat) : Int) ∧ x * B8 r < 4294967296 := by
  have e1 : ((r : Int) * 8).toNat = 8 * r := by omega
  have e2 : min (8 * r) 32 = 8 * r := by omega
  have e3 : (2 : Int) ^ (8 * r) = ((B8 r : Nat) : Int) := by rw [B8_pow]; simp
  have h4 : x * B8 r < 4294967296 := by
    have h1 : B8 (r + 1) ≤ B8 4 := B8_mono (by omega)
    rw [B8_succ] at h1
    have h2 : x * B8 r < 256 * B8 r := (Nat.mul_lt_mul_right (B8_pos r)).2 hx
    have h3 : B8 4 = 4294967296 := rfl
    omega
  rw [e1, e2, e3, ← Int.natCast_mul]
  exact ⟨IntWalk.u32_in _ (by omega), h4⟩

theorem or_in {W x r : Nat} (hW : W < B8 r) (h4 : x * B8 r < 4294967296) (hr : r < 4) : bits BinOp.or IntKind.u32 (W : Int) ((x * B8 r : Nat) : Int) = ((W + x * B8 r : Nat) : Int) := by
  have hW4 : W < 4294967296 := by
    have h1 : B8 r ≤ B8 4 := B8_mono (by omega)
    have h3 : B8 4 = 4294967296 := rfl
    omega
  rw [u32_or_nat _ _ hW4 h4, Nat.or_comm]
  rw [nat_join (8 * r) (x * B8 r) W (by rw [← B8_pow]; exact Nat.mul_mod_left _ _) (by rw [← B8_pow]; exact hW), Nat.add_comm]

set_option maxHeartbeats 1000000 in
theorem fromBytes_calls (w : World) (p : Option Addr) (n c : Nat) (bs : List Nat) (h : RowIn w .u8 p n c bs) (hb8 : Bytes8 bs) (hn : n ≤ 128) :
    Calls Try.prog 20 #[.slice p n c] w fun e w' => ∃ q m d, e = .returned (.tuple #[.agg #[.slice q m d], .int .i64 0]) ∧ NatAt w' q m d (be bs) ∧ Below w.heap.size w w' ∧ New w.heap.size q := by
  have HL := Lib.hid h.len
  obtain ⟨m, hm1, hm2⟩ : ∃ m : Nat, n ≤ 4 * m ∧ 4 * m ≤ n + 3 := ⟨(n + 3) / 4, by omega, by omega⟩
  have hmk := make_u32i (i := ((n : Int) + 4 - 1) / 4) m (by omega) (by omega)
  go_enter Try.func20, Try.ntmps20
  go_wp2
  go_loopw [18] (fun i wr => ∃ k : Nat, k ≤ n ∧ i = .int .i64 k ∧ Box1 w wr (.slice none 0 0) ∧ w.heap.size + 1 < wr.heap.size ∧ Blk wr (w.heap.size + 1) 70 .u32 (wordsOf (le (bs.reverse.take k)) m)) (fun i _ => n - (intOf i).toNat)
  case atStart =>
    refine ⟨0, by omega, rfl, (Box1.mk1 _ _ _).alloc _, by simp, ?_⟩
    have := Blk.zeros (w.alloc (.cells #[.slice none 0 0] 43)) 70 .u32 m
    rw [List.take_zero, le, wordsOf_zero]
    simpa using this
  case round =>
    obtain ⟨k, hk, rfl, hbx, hsz, hblk⟩ := hrel
    by_cases hkn : k < n
    · obtain ⟨b, off, rfl, hb, hc⟩ := (h.row (by omega)).pos (by omega)
      obtain ⟨j, hj⟩ : ∃ j, n - 1 - k = j := ⟨_, rfl⟩
      obtain ⟨x, hx⟩ : ∃ x, bs.getD j 0 = x := ⟨_, rfl⟩
      have hci : ∀ w', Box1 w w' (.slice none 0 0) → w'.cell? ⟨b, off + j, none⟩ = some (.int .u8 (x : Nat)) := fun w' hb' => by
        rw [(bcell hb'.bel).1 _ _ hb]
        exact hc j x (by rw [← hx, List.getD_eq_getElem?_getD]; simp [show j < bs.length by have := HL.out; omega])
      have hx8 : x < 256 := by rw [← hx]; exact hb8.get j
      have HJ := Lib.hid hj
      have HX := Lib.hid hx
      clear hc hj hx
      go_wp2
      obtain ⟨V, hV⟩ : ∃ V, le (bs.reverse.take k) = V := ⟨_, rfl⟩
      obtain ⟨q, hq⟩ : ∃ q, k / 4 = q := ⟨_, rfl⟩
      obtain ⟨r, hr⟩ : ∃ r, k % 4 = r := ⟨_, rfl⟩
      obtain ⟨d, hd⟩ : ∃ d, V / B32 q % 4294967296 = d := ⟨_, rfl⟩
      rw [hV] at hblk
      have hVlt : V < B8 k := by
        have := (hb8.reverse.take k).lt
        rw [hV] at this
        have hl : (bs.reverse.take k).length = k := by simp; have := HL.out; omega
        rwa [hl] at this
      have hor := wordsOf_or (n := m) hVlt hx8
      rw [hq, hr, hd] at hor
      obtain ⟨ho1, ho2, ho3⟩ := hor
      have hr4 : r < 4 := by omega
      obtain ⟨hs1, hs2⟩ := shl_in hx8 hr4
      have hs3 := or_in ho2 hs2 hr4
      have t1 : IntKind.i64.wrap ((k : Int) / 4) = (q : Int) := by rw [IntWalk.i64_in _ (by omega)]; omega
      have t2 : (k : Int).tmod 4 = (r : Int) := by rw [Int.tmod_eq_emod_of_nonneg (by omega)]; omega
      have ty : IntKind.u32.wrap (x : Int) = x := IntWalk.u32_in _ (by omega)
      have hs1' : IntKind.u32.wrap ((x : Int) * 2 ^ (((r : Int) * 8).toNat)) = (x : Int) * (B8 r : Nat) := by
        have e : min (((r : Int) * 8).toNat) 32 = ((r : Int) * 8).toNat := by omega
        rw [e] at hs1; rw [hs1, Int.natCast_mul]
      have hs3' : bits BinOp.or IntKind.u32 (d : Int) ((x : Int) * (B8 r : Nat)) = (d : Int) + (x : Int) * (B8 r : Nat) := by
        rw [← Int.natCast_mul, hs3, Int.natCast_add]
      have t3 : IntKind.i64.wrap ((r : Int) * 8) = (r : Int) * 8 := IntWalk.i64_in _ (by omega)
      have t4 : IntKind.i64.wrap ((n : Int) - 1) = (n : Int) - 1 := IntWalk.i64_in _ (by omega)
      have t5 : IntKind.i64.wrap ((n : Int) - 1 - k) = (j : Nat) := by
        rw [IntWalk.i64_in _ (by omega)]; have := HJ.out; omega
      have t6 : (j : Int) < n := by have := HJ.out; omega
      have t7 : (q : Int) < m := by omega
      have t9 : q < m := by omega
      refine wp_region_duties (by kernel_rfl) (by kernel_rfl)
        [some (.slice (some ⟨w.heap.size + 1, 0, none⟩) m m), some (.int .i64 k), some (.int .i64 (q : Nat)), some (.pointer (some ⟨w.heap.size + 1, q, none⟩)), some (.int .u32 (d : Nat)), some (.slice (some ⟨b, off, none⟩) n c), some (.slice (some ⟨b, off, none⟩) n c),
          some (.int .i64 n), some (.int .i64 ((n : Int) - 1)), some (.int .i64 k), some (.int .i64 (j : Nat)), some (.pointer (some ⟨b, off + j, none⟩)), some (.int .u8 (x : Nat)), some (.int .u32 (x : Nat)), some (.int .i64 k), some (.int .i64 (r : Nat)), some (.int .i64 ((r : Int) * 8)),
          some (.int .u32 (x * B8 r : Nat)), some (.int .u32 (d + x * B8 r : Nat)), some (.pointer (some ⟨w.heap.size + 1, q, none⟩)), none]
        [false, false, false, false, false, false, false, false, false, false, false, false, false, false, false, false, false, false, false, false, true] rfl
        (fun _ _ => True)
        (fun D w' => Box1 w w' (.slice none 0 0) ∧ w.heap.size + 1 < w'.heap.size ∧ Blk w' (w.heap.size + 1) 70 .u32 (if D 20 then wordsOf (V + B8 k * x) m else wordsOf V m))
        (fun _ _ _ => True)
        (fun _ _ _ _ h _ => h) ⟨hbx.below (Below.refl _ _).drew (Nat.le_refl _), hsz, hblk⟩ ?_ ?_
      · simp only [Duties, Nat.reduceAdd]
        refine ⟨?_, ?_, ?_, ?_, ?_, ?_, ?_, ?_, ?_, ?_, ?_, ?_, ?_, ?_, ?_, ?_, ?_, ?_, ?_, ?_, ?_, trivial⟩
        case refine_5 =>
          intro D sp w' hD hW hdp ⟨hbx', hsz', hblk'⟩
          have h20 : D 20 = false := hW 20 (List.mem_of_elem_eq_true (by kernel_rfl))
          rw [h20] at hblk'
          simp only [Bool.false_eq_true, if_false] at hblk'
          have hcl : w'.cell? ⟨w.heap.size + 1, q, none⟩ = some (.int .u32 (d : Nat)) := hblk'.cell (by rw [wordsOf_get t9, hd])
          simp [asked, Region.wanted, Oper.gives, execOp, Act.eval, Act.put, go_sem, hcl]
        case refine_21 =>
          intro D sp w' hD hW hdp ⟨hbx', hsz', hblk'⟩
          rw [hD] at hblk'
          simp only [Bool.false_eq_true, if_false] at hblk'
          have hcl : w'.cell? ⟨w.heap.size + 1, q, none⟩ = some (.int .u32 (d : Nat)) := hblk'.cell (by rw [wordsOf_get t9, hd])
          have hfr := hblk'.free q
          (with_reducible refine asked_skip (w1 := w'.setCell ⟨w.heap.size + 1, q, none⟩ (.int .u32 (d + x * B8 r : Nat))) ?_ ?_ ?_)
          · simp only [Region.wanted]
          · simp [execOp, Act.eval, Act.put, go_sem, hcl, hfr]
          · refine ⟨trivial, trivial, hbx'.below (B := w.heap.size + 1) ((Below.refl _ _).setCell (by simp) _) (Nat.le_refl _), by simpa using hsz', ?_⟩
            simp only [decide_true, Bool.or_true, if_true]
            rw [← ho1]
            exact hblk'.set _ _
        all_goals
          intro D sp w' hD hW hdp ⟨hbx', hsz', hblk'⟩
          have c1 := hci w' hbx'
          simp [asked, Region.wanted, Oper.gives, execOp, Act.eval, Act.put, go_sem, c1, t1, t2, t3, t4, t5, t6, t7, ty, hs1', hs3']
      · intro sp w' hsp ⟨hbx', hsz', hblk'⟩
        have hblk2 : Blk w' (w.heap.size + 1) 70 .u32 (wordsOf (V + B8 k * x) m) := hblk'
        clear hblk' hsp
        have HV : Hid (le (bs.reverse.take (k + 1)) = V + B8 k * x) := by
          have e := le_take_succ bs.reverse k (by simp; have := HL.out; omega)
          rw [hV, getD_rev (by have := HL.out; omega), ← HL.out, HJ.out, HX.out] at e
          exact e
        clear hV hq hr hd t1 t2 t3 t4 t5 hs1 hs1' hs3 hs3' ty ho1
        simp only [frameOf, Nat.reduceAdd]
        go_simp
        go_wp2
        go_roundw
        case rel => exact ⟨k + 1, by omega, by go_num, hbx', hsz', by rw [HV.out]; exact hblk2⟩
        case measure => simp [intOf]; omega
    · have hkn' : n ≤ k := by omega
      have hkl : k = bs.length := by have := HL.out; omega
      have hrow := hblk.row (n := m) (c := m) (by rw [wordsOf_length]) (Nat.le_refl _) (by omega)
      have hv : val (wordsOf (le (bs.reverse.take k)) m) = be bs := by
        rw [List.take_of_length_le (by simp; omega)]
        refine val_wordsOf_lt (Nat.lt_of_lt_of_le hb8.reverse.lt ?_)
        rw [← B8_four]
        exact B8_mono (by simp; omega)
      have HV := Lib.hid hv
      clear hv hkl
      go_wp2_with fail
      refine (trimmed_calls _ _ _ _ _ hrow (wordsOf_words _ _)).mono ?_
      rintro e w2 ⟨q, l, d, rfl, hn2, hb2, hp⟩
      have hbx2 := hbx.later hb2
      have c0 := hbx2.c0
      have f0 := hbx2.f0
      have hn' : New (w.heap.size + 1) q := by
        intro a ha
        rcases hp with rfl | rfl
        · cases ha
        · cases ha; simp
      go_wp2
      refine bodyPost_ret (v := .tuple #[.agg #[.slice q l d], .int .i64 0]) (by simp [results, Try.results20, go_sem, c0]) rfl ⟨q, l, d, rfl, ?_, ?_, hn'.mono (by omega)⟩
      · have := hn2.setCell (a := ⟨w.heap.size, 0, none⟩) (hn'.ne (show w.heap.size < w.heap.size + 1 by omega)) (.slice q l d)
        rw [HV.out] at this
        exact this
      · exact hbx2.bel.setCell (Nat.le_refl _) _

end Go.Proofs.Ytceihmiiapnmnaa
