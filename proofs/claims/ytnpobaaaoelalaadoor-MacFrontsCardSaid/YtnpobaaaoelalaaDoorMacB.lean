/- A key's block, and the two sums under a key. -/
import Derived.Test.YtnpobaaaoelalaaDoorMacM
import Derived.Test.YtnpobaaaoelalaaDoorShaI
import Derived.Test.YtnpobaaaoelalaaDoorOwn
namespace Go.Proofs.YtnpobaaaoelalaaDoor
open Go Go.RowKit Go.Proofs.YtnpobaaaoelalaaDoor.Flow

theorem slice_keyBlock (w : World) (b off : Nat) :
    (Instr.sliceAt 73 (.pointer (some ⟨b, off, none⟩)) none none none).run Tryd.prog w = .ok (.slice (some ⟨b, off, none⟩) 64 64) w := by
  have hlen : Tryd.prog.arrayLen 73 = 64 := by kernel_rfl
  rw [run_sliceAt_array_all w 73 ⟨b, off, none⟩ Tryd.underlying73, hlen]
  have hs : (sizeOf (Tryd.prog.elem 73)).run Tryd.prog w = .ok 1 w := by
    have : Tryd.prog.elem 73 = 5 := by kernel_rfl
    rw [this]
    simp [go_sem]
  rw [hs]
  simp [slicedAt, Addr.add]

theorem infoKey (b : List Nat) (h : b.length = 64) : (Tryd.prog.info? 73).map (·.size) = some (b.map fun (x : Nat) => Value.int .u8 x).toArray.size := by
  rw [show (b.map fun (x : Nat) => Value.int .u8 x).toArray.size = 64 by simp [h]]; kernel_rfl

/-- Bytes laid over noughts. -/
theorem splice_noughts {kk : List Nat} (_h : kk.length ≤ 64) :
    splice ((List.replicate 64 0).map fun (x : Nat) => Value.int .u8 x) 0 (kk.map fun (x : Nat) => Value.int .u8 x) = (kk ++ List.replicate (64 - kk.length) 0).map fun (x : Nat) => Value.int .u8 x := by
  unfold splice
  rw [List.take_zero, List.nil_append, List.length_map, Nat.zero_add, ← List.map_drop, List.drop_replicate, List.map_append]



/-- Where a row's bytes lie. -/
theorem rowin_src {w : World} {p : Option Addr} {n c : Nat} {bs : List Nat} (h : RowIn w .u8 p n c bs) (hn : 0 < n) : ∃ ad, p = some ad ∧ ad.block < w.heap.size ∧ ∀ (j : Nat) (v : Value), (bs.map fun (x : Nat) => Value.int .u8 (x : Int))[j]? = some v → w.cell? (ad.add j) = some v := by
  obtain ⟨b, off, rfl, hb, h3⟩ := (h.row hn).pos hn
  refine ⟨_, rfl, hb, fun j v hv => ?_⟩
  rw [List.getElem?_map] at hv
  obtain ⟨x, hx, rfl⟩ := Option.map_eq_some_iff.1 hv
  rw [add_plain]
  exact h3 j x hx

/-- Two boxes of noughts. -/
def box2 (w : World) : World := (w.alloc (.cells (zeros .u8 64) 73)).alloc (.cells (zeros .u8 64) 73)
theorem box2_below (w : World) : Below w.heap.size w (box2 w) := ((Below.refl _ _).alloc (Nat.le_refl _) _).alloc (by simp) _
theorem box2_new (w : World) : Blk (box2 w) (w.heap.size + 1) 73 .u8 (List.replicate 64 0) := by
  have := Blk.zeros (w.alloc (.cells (zeros .u8 64) 73)) 73 .u8 64
  rw [show (w.alloc (.cells (zeros .u8 64) 73)).heap.size = w.heap.size + 1 by simp] at this
  exact this
theorem box2_old (w : World) : Blk (box2 w) w.heap.size 73 .u8 (List.replicate 64 0) := (Blk.zeros w 73 .u8 64).alloc _

/-- What the copy wants: of a world, the key in it. -/
theorem copy_src {w : World} {p : Option Addr} {n c : Nat} {key : List Nat} (hr : RowIn w .u8 p n c key) :
    0 < (key.map fun (x : Nat) => Value.int .u8 (x : Int)).length → ∃ ad, p = some ad ∧ ∀ (j : Nat) (v : Value), (key.map fun (x : Nat) => Value.int .u8 (x : Int))[j]? = some v → w.cell? (ad.add j) = some v := fun h => by
  obtain ⟨ad, h1, _, h2⟩ := rowin_src hr (by have := hr.len; simpa [this] using h)
  exact ⟨ad, h1, h2⟩
theorem u8_one (key : List Nat) : ∀ v ∈ (key.map fun (x : Nat) => Value.int .u8 (x : Int)), v.oneCell' = true := fun v hv => by
  obtain ⟨x, _, rfl⟩ := List.mem_map.1 hv
  rfl


set_option maxHeartbeats 4000000 in
set_option maxRecDepth 100000 in
theorem block_calls (w : World) (p : Option Addr) (n c : Nat) (key : List Nat) (hT : Tabs w) (hr : RowIn w .u8 p n c key) (h8 : Bytes8 key) :
    Calls Tryd.prog 39 #[.slice p n c] w fun e w' => e = .returned (.agg ((kblock key).map fun (x : Nat) => Value.int .u8 (x : Int)).toArray) ∧ Below w.heap.size w w' := by
  have hm := hr.max
  have hcap := hr.cap
  have hsl := slice_keyBlock
  have HI := Lib.hid (infoKey (kblock key) (kblock_length key))
  have H1 := Lib.hid (ints_one .u8 (kblock key))
  have HS : Hid (((List.replicate 64 0).map fun (x : Nat) => Value.int .u8 x).toArray.size = ((kblock key).map fun (x : Nat) => Value.int .u8 x).toArray.size) := Lib.hid (by simp [kblock_length])
  have HSp : Hid (splice ((List.replicate 64 0).map fun (x : Nat) => Value.int .u8 x) 0 ((kkey key).map fun (x : Nat) => Value.int .u8 x) = (kblock key).map fun (x : Nat) => Value.int .u8 x) := Lib.hid (splice_noughts (kk := kkey key) (kkey_length key))
  have HG := Lib.hid (box2_new w)
  have HW := Lib.hid (box2_below w)
  have HO := Lib.hid (box2_old w)
  obtain ⟨Z, hZ⟩ : ∃ Z, ((List.replicate 64 0).map fun (x : Nat) => Value.int .u8 x) = Z := ⟨_, rfl⟩
  have HZ := Lib.hid hZ
  have HFit : Hid (0 + ((kkey key).map fun (x : Nat) => Value.int .u8 (x : Int)).length ≤ ((List.replicate 64 0).map fun (x : Nat) => Value.int .u8 (x : Int)).length) := Lib.hid (by have := kkey_length key; simp; omega)
  simp only [Blk, hZ] at HG HSp HFit HS HO
  clear hZ
  by_cases hn : n ≤ 64
  · have HKK : Hid (kkey key = key) := by
      show kkey key = _
      unfold kkey
      rw [if_neg (by have := hr.len; omega)]
    rw [HKK.out] at HSp HFit
    have HSrc : Hold _ := ⟨copy_src (hr.below (box2_below w))⟩
    have HN : Hid ((key.map fun (x : Nat) => Value.int .u8 (x : Int)).length = Nat.min n 64) := by
      show List.length _ = _
      rw [List.length_map, ← hr.len]
      exact (Nat.min_eq_left hn).symm
    generalize kblock key = B at *
    go_enter Tryd.func39, Tryd.ntmps39
    go_wp2_with (refine wpList_copy_splice rfl (.tmp 10) (.tmp 11) 25 25 rfl 5 Tryd.underlying25 (by kernel_rfl) (some ⟨w.heap.size + 1, 0, none⟩) p 64 64 n c rfl rfl (w.heap.size + 1) 0 Z 73 HG.out (key.map fun (x : Nat) => Value.int .u8 (x : Int)) HN.out (fun h => ⟨rfl, HSrc.out h⟩) HFit.out (u8_one key) (w.heap.size + 1) (box2 w) (Below.refl _ _) (Nat.le_refl _) ?_)
    intro w2 hg2 hb2
    have hg3 : Hid (Blk w2 (w.heap.size + 1) 73 .u8 B) := by
      show w2.heap[_]? = _
      rw [hg2.out, HSp.out]
    have ho3 : Hid (w2.heap[w.heap.size]? = some (.cells Z.toArray 73 (0, 0))) := (hb2.block w.heap.size (by omega)).trans HO.out
    have hb3 : Hid (Below w.heap.size w w2) := HW.out.trans (hb2.mono (by omega))
    clear hg2 hb2 HSp HFit HSrc HN HO HG HW
    go_wp2_with (first | (refine wpList_load_row rfl 73 _ rfl (w.heap.size + 1) rfl 73 (B.map fun (x : Nat) => Value.int .u8 x).toArray (0, 0) _ hg3.out Tryd.underlying73 rfl HI.out ?_) | (refine wpList_store_row rfl 73 _ _ rfl w.heap.size (B.map fun (x : Nat) => Value.int .u8 x).toArray rfl rfl 73 Z.toArray ho3.out HI.out HS.out H1.out ?_))
    have hend := setRow_heap w2 w.heap.size Z.toArray (B.map fun (x : Nat) => Value.int .u8 x).toArray 73 (0, 0) ho3.out
    exact bodyPost_ret (v := .agg (B.map fun (x : Nat) => Value.int .u8 x).toArray) (results_cell_row Tryd.results39 _ _ w.heap.size 73 _ (0, 0) _ rfl hend Tryd.underlying73 rfl HI.out) rfl ⟨rfl, below_setRow hb3.out (Nat.le_refl _) _⟩
  · have HKK : Hid (kkey key = sha key) := by
      show kkey key = _
      unfold kkey
      rw [if_pos (by have := hr.len; omega)]
    rw [HKK.out] at HSp HFit
    have hz : (box2 w).heap.size = w.heap.size + 1 + 1 := by simp [box2]
    have hP := parts1 (box2 w) ⟨p, n, c, key⟩ ⟨hr.below (box2_below w), h8⟩
    rw [hz] at hP
    have HP := Lib.hid hP
    clear hP
    have HT2 := Lib.hid (hT.below (box2_below w) hT.size)
    have HN : Hid (((sha key).map fun (x : Nat) => Value.int .u8 (x : Int)).length = Nat.min 32 64) := by
      show List.length _ = _
      rw [List.length_map, sha_length]; rfl
    generalize kblock key = B at *
    have HW1 : Hid (Below (box2 w).heap.size (box2 w) ((box2 w).alloc (.cells #[.slice p n c] 25))) := Lib.hid ((Below.refl _ _).alloc (Nat.le_refl _) _)
    go_enter Tryd.func39, Tryd.ntmps39
    go_wp2_with fail
    refine calls_at (w1 := (box2 w).alloc (.cells #[.slice p n c] 25)) (by kernel_rfl) ?_
    refine (sum_calls ((box2 w).alloc (.cells #[.slice p n c] 25)) (some ⟨w.heap.size + 1 + 1, 0, none⟩) 1 1 [⟨p, n, c, key⟩] (HT2.out.below HW1.out HT2.out.size) HP.out).mono ?_
    rintro e w1 ⟨q, rfl, hq, hb1, hk1⟩
    rw [whole_one] at hk1
    dsimp only at hk1
    have hb2 : Below (box2 w).heap.size (box2 w) w1 := HW1.out.trans (hb1.mono HW1.out.size)
    have hrow : RowIn w1 .u8 (some ⟨q, 0, none⟩) 32 32 (sha key) := ⟨(sha_length _).symm, Nat.le_refl _, by omega, fun _ => hk1.row (sha_length _).symm (Nat.le_refl _) (by omega)⟩
    have HSrc : Hold _ := ⟨copy_src hrow⟩
    have HG1 : Hid (w1.heap[w.heap.size + 1]? = some (.cells Z.toArray 73 (0, 0))) := (hb2.block (w.heap.size + 1) (by omega)).trans HG.out
    have HO1 : Hid (w1.heap[w.heap.size]? = some (.cells Z.toArray 73 (0, 0))) := (hb2.block w.heap.size (by omega)).trans HO.out
    have HW2 : Hid (Below w.heap.size w w1) := HW.out.trans (hb2.mono (by omega))
    clear hrow hk1 hb1 hb2 HG HO HW HP HT2 HW1 hq
    go_wp2_with (refine wpList_copy_splice rfl (.tmp 10) (.tmp 11) 25 25 rfl 5 Tryd.underlying25 (by kernel_rfl) (some ⟨w.heap.size + 1, 0, none⟩) (some ⟨q, 0, none⟩) 64 64 32 32 rfl rfl (w.heap.size + 1) 0 Z 73 HG1.out ((sha key).map fun (x : Nat) => Value.int .u8 (x : Int)) HN.out (fun h => ⟨rfl, HSrc.out h⟩) HFit.out (u8_one _) (w.heap.size + 1) w1 (Below.refl _ _) (Nat.le_refl _) ?_)
    intro w2 hg2 hb2
    have hg3 : Hid (Blk w2 (w.heap.size + 1) 73 .u8 B) := by
      show w2.heap[_]? = _
      rw [hg2.out, HSp.out]
    have ho3 : Hid (w2.heap[w.heap.size]? = some (.cells Z.toArray 73 (0, 0))) := (hb2.block w.heap.size (by omega)).trans HO1.out
    have hb3 : Hid (Below w.heap.size w w2) := HW2.out.trans (hb2.mono (by omega))
    clear hg2 hb2 HSp HFit HSrc HN HO1 HG1 HW2
    go_wp2_with (first | (refine wpList_load_row rfl 73 _ rfl (w.heap.size + 1) rfl 73 (B.map fun (x : Nat) => Value.int .u8 x).toArray (0, 0) _ hg3.out Tryd.underlying73 rfl HI.out ?_) | (refine wpList_store_row rfl 73 _ _ rfl w.heap.size (B.map fun (x : Nat) => Value.int .u8 x).toArray rfl rfl 73 Z.toArray ho3.out HI.out HS.out H1.out ?_))
    have hend := setRow_heap w2 w.heap.size Z.toArray (B.map fun (x : Nat) => Value.int .u8 x).toArray 73 (0, 0) ho3.out
    exact bodyPost_ret (v := .agg (B.map fun (x : Nat) => Value.int .u8 x).toArray) (results_cell_row Tryd.results39 _ _ w.heap.size 73 _ (0, 0) _ rfl hend Tryd.underlying73 rfl HI.out) rfl ⟨rfl, below_setRow hb3.out (Nat.le_refl _) _⟩
end Go.Proofs.YtnpobaaaoelalaaDoor
