/- Of long division: words shifted down. -/
import Derived.Test.YtoleblefdmdbjaaDivF
namespace Go.Proofs.Ytoleblefdmdbjaa
open Go Go.RowKit Go.Proofs.Ytoleblefdmdbjaa.Flow

/-- One word more, shifted down: the first. -/
theorem down_first {x n s : Nat} (hx : x < 4294967296) (hn : 0 < n) : (wordsOf 0 n).set 0 (x / 2 ^ s) = wordsOf (x / 2 ^ s) n := by
  have h4 : x / 2 ^ s < 4294967296 := Nat.lt_of_le_of_lt (Nat.div_le_self _ _) hx
  refine eq_wordsOf (by simp [wordsOf_length]) ((wordsOf_words _ _).set _ h4) ?_
  have v := val_set (wordsOf 0 n) 0 (x / 2 ^ s) (by rw [wordsOf_length]; exact hn)
  rw [wordsOf_zero] at v ⊢
  rw [val_zeros, B32_zero] at v
  have e : (List.replicate n 0).getD 0 0 = 0 := by
    cases n with
    | zero => rfl
    | succ n => rfl
  rw [e] at v
  omega

theorem down_div {V k x s c : Nat} (h : s + c = 32) : (V + B32 (k + 1) * x) / 2 ^ s = V / 2 ^ s + B32 k * (x * 2 ^ c) := by
  have hs : 0 < 2 ^ s := Nat.pow_pos (by omega)
  have e : B32 (k + 1) * x = B32 k * (x * 2 ^ c) * 2 ^ s := by
    rw [B32_succ, ← pow_split h]
    ac_rfl
  rw [e, Nat.add_mul_div_right _ _ hs]

theorem down_lt {V k s c : Nat} (h : s + c = 32) (hV : V < B32 (k + 1)) : V / 2 ^ s < B32 k * 2 ^ c := by
  have hs : 0 < 2 ^ s := Nat.pow_pos (by omega)
  rw [Nat.div_lt_iff_lt_mul hs]
  rw [B32_succ, ← pow_split h] at hV
  have e : 2 ^ s * 2 ^ c * B32 k = B32 k * 2 ^ c * 2 ^ s := by ac_rfl
  rwa [e] at hV

set_option maxHeartbeats 4000000 in
set_option maxRecDepth 100000 in
theorem shiftedDown_calls (w : World) (p : Option Addr) (n c : Nat) (ws : List Nat) (s : Nat) (h : Row w .u32 p n c ws) (hw : Words ws) (hn : n < 1000000) (hs : s < 32) :
    Calls Try.prog 80 #[.slice p n c, .int .i64 s] w fun e w' => e = .returned (.slice (some ⟨w.heap.size, 0, none⟩) n n) ∧ Blk w' w.heap.size 75 .u32 (wordsOf (val ws / 2 ^ s) n) ∧ Below w.heap.size w w' := by
  have HL := Lib.hid h.len
  have hmk := make_u32 n (by omega)
  obtain ⟨cs, hcs⟩ : ∃ cs, s + cs = 32 := ⟨32 - s, by omega⟩
  have hcs' : cs + s = 32 := by omega
  have hc1 : (32 : Int) - s = (cs : Nat) := by omega
  go_enter Try.func80, Try.ntmps80
  go_wp2
  go_loopw [13] (fun i wr => ∃ k : Nat, k ≤ n ∧ i = .int .i64 k ∧ Below w.heap.size w wr ∧ w.heap.size < wr.heap.size ∧ Blk wr w.heap.size 75 .u32 (wordsOf (val (ws.take k) / 2 ^ s) n)) (fun i _ => n - (intOf i).toNat)
  case atStart =>
    refine ⟨0, by omega, rfl, (Below.refl _ _).alloc (Nat.le_refl _) _, by simp, ?_⟩
    rw [List.take_zero, val, Nat.zero_div, wordsOf_zero]
    exact Blk.zeros _ _ _ _
  case round =>
    obtain ⟨k, hk, rfl, hbw, hsz, hblk⟩ := hrel
    by_cases hkn : k < n
    · obtain ⟨b, off, rfl, hb, hc⟩ := h.pos (by omega)
      obtain ⟨x, hx⟩ : ∃ x, ws.getD k 0 = x := ⟨_, rfl⟩
      have hcx : wr.cell? ⟨b, off + k, none⟩ = some (.int .u32 (x : Nat)) := by
        rw [(bcell hbw).1 _ _ hb]
        exact Row.getAt hc (by have := HL.out; omega) hx
      have hx4 : x < 4294967296 := by rw [← hx]; exact hw.get _
      have hxs : ((x : Int) / 2 ^ s) = ((x / 2 ^ s : Nat) : Int) := by simp [Int.natCast_ediv]
      have HXS := Lib.hid hxs
      have HTK := Lib.hid (val_take_succ' ws k)
      rw [hx] at HTK
      obtain ⟨V, hV⟩ : ∃ V, val (ws.take k) / 2 ^ s = V := ⟨_, rfl⟩
      rw [hV] at hblk
      have hcl0 : ∃ z : Nat, (wordsOf V n)[k]? = some z := ⟨_, wordsOf_get hkn⟩
      obtain ⟨z0, hz0⟩ := hcl0
      have hcl1 : wr.cell? ⟨w.heap.size, k, none⟩ = some (.int .u32 (z0 : Nat)) := hblk.cell hz0
      have hfr1 := hblk.free k
      have hb1 := hblk.set k (x / 2 ^ s)
      rw [← hxs] at hb1
      cases k with
      | zero =>
        have hV0 : V = 0 := by rw [← hV, List.take_zero, val, Nat.zero_div]
        have HF : Hid ((wordsOf V n).set 0 (x / 2 ^ s) = wordsOf (val (ws.take 1) / 2 ^ s) n) := Lib.hid (by
          have e1 := HTK.out
          rw [List.take_zero, val, B32_zero, Nat.one_mul, Nat.zero_add] at e1
          rw [hV0, down_first hx4 hkn, e1]
          simp only [Nat.zero_add])
        have HB1 := Lib.hid hb1
        clear hc hx hV hV0 hz0 hb1 hxs
        rw [Nat.add_zero] at hcx
        go_wp2
        go_roundw
        case rel =>
          have := HB1.out
          rw [HF.out] at this
          exact ⟨1, by omega, by go_num, hbw.setCell (Nat.le_refl _) _, by simpa using hsz, this⟩
        case measure => simp [intOf]; omega
      | succ k =>
        have hVk : val (ws.take (k + 1)) < B32 (k + 1) := by
          have h9 := (hw.take (k + 1)).lt
          rwa [List.length_take, Nat.min_eq_left (by have := HL.out; omega)] at h9
        have hVlt := down_lt hcs hVk
        have hVN : Hid (val (ws.take (k + 1 + 1)) / 2 ^ s = V + B32 k * (x * 2 ^ cs)) := Lib.hid (by
          rw [HTK.out, down_div hcs, hV])
        rw [hV] at hVlt
        obtain ⟨hd, hup⟩ := up_step (n := n) hcs' hVlt hx4 (by omega)
        have hj := shl_join hcs' hd hx4
        obtain ⟨d, hdd⟩ : ∃ d, V / B32 k % 4294967296 = d := ⟨_, rfl⟩
        rw [hdd] at hd hup hj
        have hd4 : d < 4294967296 := by rw [← hdd]; exact Nat.mod_lt _ (by omega)
        have hget : ((wordsOf V n).set (k + 1) (x / 2 ^ s))[k]? = some d := by
          rw [List.getElem?_set_ne (by omega), wordsOf_get (by omega), hdd]
        obtain ⟨Z, hZ⟩ : ∃ Z, (d + x * 2 ^ cs) % 4294967296 = Z := ⟨_, rfl⟩
        rw [hZ] at hup hj
        rw [List.set_comm _ _ (by omega)] at hup
        have hpi : (x : Int) * 2 ^ cs = ((x * 2 ^ cs : Nat) : Int) := by simp
        have ts : IntKind.u32.wrap ((x : Int) * 2 ^ cs) = ((x * 2 ^ cs % 4294967296 : Nat) : Int) := by
          rw [hpi, IntKind.wrap_u32']; omega
        obtain ⟨y, hy⟩ : ∃ y, x * 2 ^ cs % 4294967296 = y := ⟨_, rfl⟩
        have hy4 : y < 4294967296 := by rw [← hy]; exact Nat.mod_lt _ (by omega)
        rw [hy] at ts hj
        have tor : bits BinOp.or IntKind.u32 (d : Int) (y : Int) = (Z : Int) := by rw [u32_or_nat _ _ hd4 hy4, hj.1]
        have HUP := Lib.hid hup
        have HGET := Lib.hid hget
        have HB1 := Lib.hid hb1
        clear hc hx hV hVlt hd hup hj hdd hget hZ hpi hy hVk hb1 hz0 hxs
        go_wp2
        have i1 : IntKind.i64.wrap (k : Int) = (k : Int) := IntWalk.i64_in _ (by omega)
        have i4 : IntKind.i64.wrap (cs : Int) = (cs : Int) := IntWalk.i64_in _ (by omega)
        have i2 : (k : Int) + 1 - 1 = k := by omega
        have i3 : (k : Int) < n := by omega
        refine wp_region_duties (by kernel_rfl) (by kernel_rfl)
          [some (.slice (some ⟨w.heap.size, 0, none⟩) n n), some (.int .i64 (k + 1 : Nat)), some (.int .i64 k), some (.pointer (some ⟨w.heap.size, k, none⟩)), some (.int .u32 d), some (.int .u32 x), some (.int .i64 s), some (.int .i64 cs), some (.int .u32 y), some (.int .u32 Z), some (.pointer (some ⟨w.heap.size, k, none⟩)), none]
          [false, false, false, false, false, false, false, false, false, false, false, true] rfl
          (fun _ _ => True)
          (fun D w' => Below w.heap.size w w' ∧ w.heap.size < w'.heap.size ∧ Blk w' w.heap.size 75 .u32 (if D 11 then ((wordsOf V n).set (k + 1) (x / 2 ^ s)).set k Z else (wordsOf V n).set (k + 1) (x / 2 ^ s)))
          (fun _ _ _ => True)
          (fun _ _ _ _ h _ => h) ⟨(hbw.setCell (Nat.le_refl _) _).trans (Below.refl _ _).drew, by simpa using hsz, HB1.out⟩ ?_ ?_
        · simp only [Duties, Nat.reduceAdd]
          refine ⟨?_, ?_, ?_, ?_, ?_, ?_, ?_, ?_, ?_, ?_, ?_, ?_, trivial⟩
          case refine_5 =>
            intro D sp w' hD hW1 hdp ⟨hbw', hsz', hblk'⟩
            have h9 : D 11 = false := hW1 11 (List.mem_of_elem_eq_true (by kernel_rfl))
            rw [h9] at hblk'
            simp only [Bool.false_eq_true, if_false] at hblk'
            have hcl := hblk'.cell HGET.out
            simp [asked, Region.wanted, Oper.gives, execOp, Act.eval, Act.put, go_sem, hcl]
          case refine_12 =>
            intro D sp w' hD hW1 hdp ⟨hbw', hsz', hblk'⟩
            rw [hD] at hblk'
            simp only [Bool.false_eq_true, if_false] at hblk'
            have hcl := hblk'.cell HGET.out
            have hfr := hblk'.free k
            (with_reducible refine asked_skip (w1 := w'.setCell ⟨w.heap.size, k, none⟩ (.int .u32 Z)) ?_ ?_ ?_)
            · simp only [Region.wanted]
            · simp [execOp, Act.eval, Act.put, go_sem, hcl, hfr]
            · refine ⟨trivial, trivial, hbw'.setCell (by simp) _, by simpa using hsz', ?_⟩
              simp only [decide_true, Bool.or_true, if_true]
              exact hblk'.set _ _
          all_goals
            intro D sp w' hD hW1 hdp ⟨hbw', hsz', hblk'⟩
            simp [asked, Region.wanted, Oper.gives, execOp, Act.eval, Act.put, go_sem, i1, i2, i3, i4, hc1, ts, tor]
        · intro sp w' hsp ⟨hbw', hsz', hblk'⟩
          have hblk2 : Blk w' w.heap.size 75 .u32 (((wordsOf V n).set (k + 1) (x / 2 ^ s)).set k Z) := hblk'
          clear hblk' hsp ts tor
          rw [HUP.out] at hblk2
          simp only [frameOf, Nat.reduceAdd]
          generalize sp 11 = u11 at *
          go_simp
          go_wp2
          go_roundw
          case rel => exact ⟨k + 1 + 1, by omega, by go_num, hbw', hsz', by rw [hVN.out]; exact hblk2⟩
          case measure => simp [intOf]; omega
    · have hkn' : n ≤ k := by omega
      have e : Hid (val (ws.take k) = val ws) := Lib.hid (by rw [List.take_of_length_le (by have := HL.out; omega)])
      go_wp2
      go_ret
      rw [e.out] at hblk
      exact ⟨rfl, hblk, hbw⟩

end Go.Proofs.Ytoleblefdmdbjaa
