/- Of long division: the walks of the shifts. -/
import Derived.Test.YtoleblefdmdbjaaDivE
namespace Go.Proofs.Ytoleblefdmdbjaa
open Go Go.RowKit Go.Proofs.Ytoleblefdmdbjaa.Flow

set_option maxHeartbeats 4000000 in
set_option maxRecDepth 100000 in
theorem shiftedUp_calls (w : World) (p : Option Addr) (n c : Nat) (ws : List Nat) (s : Nat) (h : Row w .u32 p n c ws) (hw : Words ws) (hn : n < 1000000) (hs : s < 32) :
    Calls Try.prog 78 #[.slice p n c, .int .i64 s] w fun e w' => e = .returned (.slice (some ⟨w.heap.size, 0, none⟩) (n + 1) (n + 1)) ∧ Blk w' w.heap.size 75 .u32 (wordsOf (val ws * 2 ^ s) (n + 1)) ∧ Below w.heap.size w w' := by
  have HL := Lib.hid h.len
  have hmk := make_u32i (i := (n : Int) + 1) (n + 1) (by omega) (by omega)
  obtain ⟨cs, hcs⟩ : ∃ cs, s + cs = 32 := ⟨32 - s, by omega⟩
  have hc1 : (32 : Int) - s = (cs : Nat) := by omega
  go_enter Try.func78, Try.ntmps78
  go_wp2
  go_loopw [14] (fun i wr => ∃ k : Nat, k ≤ n ∧ i = .int .i64 k ∧ Below w.heap.size w wr ∧ w.heap.size < wr.heap.size ∧ Blk wr w.heap.size 75 .u32 (wordsOf (val (ws.take k) * 2 ^ s) (n + 1))) (fun i _ => n - (intOf i).toNat)
  case atStart =>
    refine ⟨0, by omega, rfl, (Below.refl _ _).alloc (Nat.le_refl _) _, by simp, ?_⟩
    rw [List.take_zero, val, Nat.zero_mul, wordsOf_zero]
    exact Blk.zeros _ _ _ _
  case round =>
    obtain ⟨k, hk, rfl, hbw, hsz, hblk⟩ := hrel
    by_cases hkn : k < n
    · obtain ⟨b, off, rfl, hb, hc⟩ := h.pos (by omega)
      obtain ⟨x, hx⟩ : ∃ x, ws.getD k 0 = x := ⟨_, rfl⟩
      have hcx : wr.cell? ⟨b, off + k, none⟩ = some (.int .u32 (x : Nat)) := by
        rw [(bcell hbw).1 _ _ hb]
        exact Row.getAt hc (by have := HL.out; omega) hx
      have hx4 : x < 4294967296 := by rw [← hx]; exact hw.get _
      obtain ⟨V, hV⟩ : ∃ V, val (ws.take k) * 2 ^ s = V := ⟨_, rfl⟩
      have hVlt : V < B32 k * 2 ^ s := by
        have h9 := (hw.take k).lt
        rw [List.length_take, Nat.min_eq_left (by have := HL.out; omega)] at h9
        rw [← hV]
        exact Nat.mul_lt_mul_of_pos_right h9 (Nat.pow_pos (by omega))
      have HVN : Hid (val (ws.take (k + 1)) * 2 ^ s = V + B32 k * (x * 2 ^ s)) := Lib.hid (by
        rw [val_take_succ', hx, Nat.add_mul, hV, Nat.mul_assoc])
      rw [hV] at hblk
      obtain ⟨hd, hup⟩ := up_step (n := n + 1) hcs hVlt hx4 (by omega)
      have hj := shl_join hcs hd hx4
      obtain ⟨d, hdd⟩ : ∃ d, V / B32 k % 4294967296 = d := ⟨_, rfl⟩
      rw [hdd] at hd hup hj
      have hd4 : d < 4294967296 := by rw [← hdd]; exact Nat.mod_lt _ (by omega)
      have hget : (wordsOf V (n + 1))[k]? = some d := by rw [wordsOf_get (by omega), hdd]
      obtain ⟨Z, hZ⟩ : ∃ Z, (d + x * 2 ^ s) % 4294967296 = Z := ⟨_, rfl⟩
      rw [hZ] at hup hj
      have hpi : (x : Int) * 2 ^ s = ((x * 2 ^ s : Nat) : Int) := by simp
      have ts : IntKind.u32.wrap ((x : Int) * 2 ^ s) = ((x * 2 ^ s % 4294967296 : Nat) : Int) := by
        rw [hpi, IntKind.wrap_u32']; omega
      obtain ⟨y, hy⟩ : ∃ y, x * 2 ^ s % 4294967296 = y := ⟨_, rfl⟩
      have hy4 : y < 4294967296 := by rw [← hy]; exact Nat.mod_lt _ (by omega)
      rw [hy] at ts hj
      have tor : bits BinOp.or IntKind.u32 (d : Int) (y : Int) = (Z : Int) := by rw [u32_or_nat _ _ hd4 hy4, hj.1]
      have HUP := Lib.hid hup
      have HGET := Lib.hid hget
      clear hc hx hV hVlt hd hup hj hdd hget hZ hpi hy
      have k1 : (k : Int) < (n : Int) + 1 := by omega
      go_wp2
      refine wp_region_duties (by kernel_rfl) (by kernel_rfl)
        [some (.slice (some ⟨w.heap.size, 0, none⟩) (n + 1) (n + 1)), some (.int .i64 k), some (.pointer (some ⟨w.heap.size, k, none⟩)), some (.int .u32 d), some (.int .u32 x), some (.int .i64 s), some (.int .u32 y), some (.int .u32 Z), some (.pointer (some ⟨w.heap.size, k, none⟩)), none]
        [false, false, false, false, false, false, false, false, false, true] rfl
        (fun _ _ => True)
        (fun D w' => Below w.heap.size w w' ∧ w.heap.size < w'.heap.size ∧ Blk w' w.heap.size 75 .u32 (if D 9 then (wordsOf V (n + 1)).set k Z else wordsOf V (n + 1)))
        (fun _ _ _ => True)
        (fun _ _ _ _ h _ => h) ⟨hbw.trans (Below.refl _ _).drew, hsz, hblk⟩ ?_ ?_
      · simp only [Duties, Nat.reduceAdd]
        refine ⟨?_, ?_, ?_, ?_, ?_, ?_, ?_, ?_, ?_, ?_, trivial⟩
        case refine_4 =>
          intro D sp w' hD hW1 hdp ⟨hbw', hsz', hblk'⟩
          have h9 : D 9 = false := hW1 9 (List.mem_of_elem_eq_true (by kernel_rfl))
          rw [h9] at hblk'
          simp only [Bool.false_eq_true, if_false] at hblk'
          have hcl := hblk'.cell HGET.out
          simp [asked, Region.wanted, Oper.gives, execOp, Act.eval, Act.put, go_sem, hcl]
        case refine_10 =>
          intro D sp w' hD hW1 hdp ⟨hbw', hsz', hblk'⟩
          rw [hD] at hblk'
          simp only [Bool.false_eq_true, if_false] at hblk'
          have hcl := hblk'.cell HGET.out
          have hfr := hblk'.free k
          (with_reducible refine asked_skip (w1 := w'.setCell ⟨w.heap.size, k, none⟩ (.int .u32 Z)) ?_ ?_ ?_)
          · simp only [Region.wanted]
          · simp [execOp, Act.eval, Act.put, go_sem, hcl, hfr]
          · refine ⟨trivial, trivial, hbw'.setCell (by simp) _, by simpa using hsz', ?_⟩
            simp only [decide_true, Bool.or_true, if_true]
            exact hblk'.set _ _
        all_goals
          intro D sp w' hD hW1 hdp ⟨hbw', hsz', hblk'⟩
          simp [asked, Region.wanted, Oper.gives, execOp, Act.eval, Act.put, go_sem, k1, ts, tor]
      · intro sp w' hsp ⟨hbw', hsz', hblk'⟩
        have hblk2 : Blk w' w.heap.size 75 .u32 ((wordsOf V (n + 1)).set k Z) := hblk'
        clear hblk' hsp ts tor
        simp only [frameOf, Nat.reduceAdd]
        generalize sp 9 = u9 at *
        have hc2 : w'.cell? ⟨w.heap.size, k + 1, none⟩ = some (.int .u32 ((((wordsOf V (n + 1)).set k Z).getD (k + 1) 0 : Nat) : Int)) :=
          hblk2.cell (by rw [List.getD_eq_getElem?_getD]; simp [wordsOf_length, show k + 1 < n + 1 by omega])
        have hf2 := hblk2.free (k + 1)
        have hb3 := hblk2.set (k + 1) (x / 2 ^ cs)
        rw [HUP.out] at hb3
        have HB3 := Lib.hid hb3
        have HC2 := Lib.hid hblk2
        clear hb3 hblk2
        go_simp
        go_wp2
        go_roundw
        case rel =>
          refine ⟨k + 1, by omega, by go_num, hbw'.setCell (Nat.le_refl _) _, by simpa using hsz', ?_⟩
          have e : ((x : Int) / 2 ^ cs) = ((x / 2 ^ cs : Nat) : Int) := by simp [Int.natCast_ediv]
          rw [HVN.out, e]
          exact HB3.out
        case measure => simp [intOf]; omega
    · have hkn' : n ≤ k := by omega
      have e : Hid (val (ws.take k) = val ws) := Lib.hid (by rw [List.take_of_length_le (by have := HL.out; omega)])
      go_wp2
      go_ret
      rw [e.out] at hblk
      exact ⟨rfl, hblk, hbw⟩

end Go.Proofs.Ytoleblefdmdbjaa
