/- A hash's copy, a new hash, its sum. -/
import Derived.Test.YtcbhgfiafamflaaGreatDoorShaA
namespace Go.Proofs.YtcbhgfiafamflaaGreatDoor
open Go Go.RowKit
set_option maxRecDepth 100000

/-- A new hash, in new memory. -/
def GivesHash (m : List Nat) (w : World) (e : Ending) (w' : World) : Prop := ∃ g, e = .returned (.pointer (some ⟨g, 0, none⟩)) ∧ w.heap.size ≤ g ∧ Below w.heap.size w w' ∧ HashAt w' g m

theorem HashAt.new {w : World} {g : Nat} (h : HBox w g hnull (List.replicate 64 0) 0) : HashAt w g [] :=
  ⟨List.replicate 64 0, by simp, fun x hx => by have := (List.mem_replicate.1 hx).2; omega, h, rfl⟩

def hzero : List Value := hcells (List.replicate 8 0) (List.replicate 64 0) 0
def hlen (L : Nat) : List Value := hcells (List.replicate 8 0) (List.replicate 64 0) L
theorem hlen_length (L : Nat) : (hlen L).length = 73 := rfl
theorem hzero_length : hzero.length = 73 := rfl
theorem zero_hash (w : World) : (zeroValue 144).run Tryz.prog w = .ok (.agg hzero.toArray) w := by
  have h : (Tryz.prog.info? 144).map (·.zero) = some (some (.agg hzero.toArray)) := by kernel_rfl
  cases hi : Tryz.prog.info? 144 with
  | none => rw [hi] at h; cases h
  | some i =>
    rw [hi] at h
    have hz : i.zero = some (.agg hzero.toArray) := by simpa using h
    simp [zeroValue, typeInfo, hi, hz]

set_option maxHeartbeats 2000000 in
set_option maxRecDepth 100000 in
theorem shanew_calls (w : World) (hT : Tabs w) : Calls Tryz.prog 62 #[] w (GivesHash [] w) := by
  have hz := zero_hash
  have hzl := hzero_length
  obtain ⟨t0, fr0, hf0⟩ := hT.first
  have hi8 : (Tryz.prog.info? 141).map (·.size) = some (hnull.map fun (x : Nat) => Value.int .u32 x).toArray.size := by
    rw [show (hnull.map fun (x : Nat) => Value.int .u32 x).toArray.size = 8 by rfl]; kernel_rfl
  go_enter Tryz.func62, Tryz.ntmps62
  go_wp2_with (refine wpList_load_row rfl 141 _ rfl 0 rfl t0 (hnull.map fun (x : Nat) => Value.int .u32 x).toArray fr0 _ hf0 Tryz.underlying141 rfl hi8 ?_)
  have hf : (List.foldl (fun (cs : Array Value) x => cs.setIfInBounds x.snd x.fst) hzero.toArray (hnull.map fun (x : Nat) => Value.int .u32 x).zipIdx) = (hcells hnull (List.replicate 64 0) 0).toArray := by kernel_rfl
  refine bodyPost_ret (v := .pointer (some ⟨w.heap.size, 0, none⟩)) (by simp [results, Tryz.results62, go_sem]) rfl ⟨_, rfl, Nat.le_refl _, (Below.refl _ _).alloc (Nat.le_refl _) _, HashAt.new ?_⟩
  rw [hf]
  exact heap_alloc_new w _

theorem slice_state (w : World) (b off : Nat) :
    (Instr.sliceAt 141 (.pointer (some ⟨b, off, none⟩)) none none none).run Tryz.prog w = .ok (.slice (some ⟨b, off, none⟩) 8 8) w := by
  have hlen : Tryz.prog.arrayLen 141 = 8 := by kernel_rfl
  rw [run_sliceAt_array_all w 141 ⟨b, off, none⟩ Tryz.underlying141, hlen]
  have hs : (sizeOf (Tryz.prog.elem 141)).run Tryz.prog w = .ok 1 w := by
    have : Tryz.prog.elem 141 = 77 := by kernel_rfl
    rw [this]
    simp [go_sem]
  rw [hs]
  simp [slicedAt, Addr.add]
theorem slice_block (w : World) (b off : Nat) :
    (Instr.sliceAt 142 (.pointer (some ⟨b, off, none⟩)) none none none).run Tryz.prog w = .ok (.slice (some ⟨b, off, none⟩) 64 64) w := by
  have hlen : Tryz.prog.arrayLen 142 = 64 := by kernel_rfl
  rw [run_sliceAt_array_all w 142 ⟨b, off, none⟩ Tryz.underlying142, hlen]
  have hs : (sizeOf (Tryz.prog.elem 142)).run Tryz.prog w = .ok 1 w := by
    have : Tryz.prog.elem 142 = 5 := by kernel_rfl
    rw [this]
    simp [go_sem]
  rw [hs]
  simp [slicedAt, Addr.add]

set_option maxHeartbeats 1000000 in
set_option maxRecDepth 100000 in
theorem copy_calls (w : World) (g : Nat) (m : List Nat) (hH : HashAt w g m) : Calls Tryz.prog 102 #[.pointer (some ⟨g, 0, none⟩)] w (GivesHash m w) := by
  obtain ⟨pend, q1, q2, q3, q4⟩ := hH.ex
  have hst8 := blocks_length m (m.length / 64)
  obtain ⟨st, hst⟩ : ∃ st, blocks m (m.length / 64) = st := ⟨_, rfl⟩
  obtain ⟨L, hL⟩ : ∃ L, m.length % 18446744073709551616 = L := ⟨_, rfl⟩
  have c72 := q3.cell (hcells_len hst8 q1)
  have HST := Lib.hid hst
  have HL := Lib.hid hL
  rw [hL] at c72 q3
  rw [hst] at q3 hst8
  have hlt := q3.lt
  have hz := zero_hash
  have hzl := hzero_length
  have HQ3 := Lib.hid q3
  have hcS : ∀ (j : Nat) (v : Value), (st.map fun (x : Nat) => Value.int .u32 x)[j]? = some v → w.cell? ((⟨g, 0, none⟩ : Addr).add j) = some v := fun j v hv => by
    rw [List.getElem?_map] at hv
    obtain ⟨x, hx, rfl⟩ := Option.map_eq_some_iff.1 hv
    have hj : j < 8 := by have := (List.getElem?_eq_some_iff.1 hx).1; omega
    rw [add_plain, Nat.zero_add]
    refine q3.cell ?_
    rw [hcells_state hst8 hj, List.getD_eq_getElem?_getD, hx]; rfl
  have hcP : ∀ (j : Nat) (v : Value), (pend.map fun (x : Nat) => Value.int .u8 x)[j]? = some v → w.cell? ((⟨g, 8, none⟩ : Addr).add j) = some v := fun j v hv => by
    rw [List.getElem?_map] at hv
    obtain ⟨x, hx, rfl⟩ := Option.map_eq_some_iff.1 hv
    have hj : j < 64 := by have := (List.getElem?_eq_some_iff.1 hx).1; omega
    rw [add_plain]
    refine q3.cell ?_
    rw [hcells_pend hst8 q1 hj, List.getD_eq_getElem?_getD, hx]; rfl
  have HS8 := Lib.hid hst8
  have HQ1 := Lib.hid q1
  have HCS := Lib.hid hcS
  have HCP := Lib.hid hcP
  have hOne : ∀ (k : IntKind) (xs : List Nat), ∀ v ∈ (xs.map fun (x : Nat) => Value.int k x), v.oneCell' = true := fun k xs v hv => by
    obtain ⟨x, _, rfl⟩ := List.mem_map.1 hv
    rfl
  have HON := Lib.hid hOne
  have hset : hzero.set 72 (.int .u64 (L : Nat)) = hlen L := hcells_set_len (by simp) (by simp)
  clear hL hst q3 hcS hcP hOne
  obtain ⟨csS, hcsS⟩ : ∃ cs, (st.map fun (x : Nat) => Value.int .u32 x) = cs := ⟨_, rfl⟩
  obtain ⟨csP, hcsP⟩ : ∃ cs, (pend.map fun (x : Nat) => Value.int .u8 x) = cs := ⟨_, rfl⟩
  have hlS : csS.length = 8 := by rw [← hcsS, List.length_map]; exact hst8
  have hlP : csP.length = 64 := by rw [← hcsP, List.length_map]; exact q1
  have HSP1 : Hid (splice (hlen L) 0 csS = hcells st (List.replicate 64 0) L) := by rw [← hcsS]; exact splice_state (by simp) hst8
  have HSP2 : Hid (splice (hcells st (List.replicate 64 0) L) 8 csP = hcells st pend L) := by
    rw [← hcsP]
    have h := splice_pend (st := st) (pend := List.replicate 64 0) (len := L) (xs := pend) (r := 0) hst8 (by simp [q1])
    refine h.trans ?_
    congr 1
    unfold splice
    rw [List.take_zero, List.nil_append, List.drop_of_length_le (by simp [q1]), List.append_nil]
  rw [hcsS] at HCS
  rw [hcsP] at HCP
  have HO1 : Hid (∀ v ∈ csS, v.oneCell' = true) := by rw [← hcsS]; exact HON.out _ _
  have HO2 : Hid (∀ v ∈ csP, v.oneCell' = true) := by rw [← hcsP]; exact HON.out _ _
  clear hcsS hcsP hst8 q1
  go_enter Tryz.func102, Tryz.ntmps102
  go_wp2
  have hn0 := heap_alloc_new w (.cells (hlen L).toArray 144)
  have hb0 : Below w.heap.size w (w.alloc (.cells (hlen L).toArray 144)) := (Below.refl _ _).alloc (Nat.le_refl _) _
  have hsz0 : w.heap.size < (w.alloc (.cells (hlen L).toArray 144)).heap.size := by simp
  generalize w.alloc (.cells (hlen L).toArray 144) = w1 at *
  have HN0 := Lib.hid hn0
  have hcS1 : ∀ (j : Nat) (v : Value), csS[j]? = some v → w1.cell? ((⟨g, 0, none⟩ : Addr).add j) = some v := fun j v hv => by
    have h := HCS.out j v hv
    rw [add_plain] at h ⊢
    rw [(bcell hb0).1 _ _ hlt]; exact h
  have HCS1 := Lib.hid hcS1
  have HF1 : Hid (0 + csS.length ≤ (hlen L).length) := by show 0 + csS.length ≤ (hlen L).length; rw [hlS, hlen_length]; omega
  have HM1 : Hid (csS.length = Nat.min 8 8) := hlS
  clear hcS1 hn0 hset
  have hsl1 := slice_state
  have hsl2 := slice_block
  go_region_law (refine step_copy_but rfl (.tmp 15) (.tmp 19) 31 31 rfl 77 Tryz.underlying31 (by kernel_rfl) (some ⟨w.heap.size, 0, none⟩) (some ⟨g, 0, none⟩) 8 8 8 8 (by simp [Act.eval, Act.put, go_sem]) (by simp [Act.eval, Act.put, go_sem]) w.heap.size 0 (hlen L) 144 HN0.out csS HM1.out (fun _ => ⟨rfl, _, rfl, HCS1.out⟩) HF1.out HO1.out ?_; intro w4 hg4 hb4)
  rw [HSP1.out] at hg4
  have hb5 : Below w.heap.size w w4 := hb0.trans ((hb4.of_drew).below (Nat.le_refl _) (Nat.le_of_lt hsz0))
  have hcP1 : ∀ (j : Nat) (v : Value), csP[j]? = some v → w4.cell? ((⟨g, 8, none⟩ : Addr).add j) = some v := fun j v hv => by
    have h := HCP.out j v hv
    rw [add_plain] at h ⊢
    rw [(bcell hb5).1 _ _ hlt]; exact h
  have HCP1 := Lib.hid hcP1
  have HB5 := Lib.hid hb5
  have HF2 : Hid (8 + csP.length ≤ (hcells st (List.replicate 64 0) L).length) := by show 8 + csP.length ≤ List.length _; rw [hlP, hcells_length HS8.out (by simp)]; omega
  have HM2 : Hid (csP.length = Nat.min 64 64) := hlP
  obtain ⟨cur, hcur⟩ : ∃ cur, hcells st (List.replicate 64 0) L = cur := ⟨_, rfl⟩
  rw [hcur] at hg4 HF2 HSP2
  have HC4 := hg4
  clear hcP1 hb5 hcur hg4 HN0 hb4 hb0 hsz0
  go_wp2
  have hs4 : w.heap.size < w4.heap.size := (Array.getElem?_eq_some_iff.1 HC4.out).1
  go_region_law (refine step_copy_but rfl (.tmp 24) (.tmp 28) 23 23 rfl 5 Tryz.underlying23 (by kernel_rfl) (some ⟨w.heap.size, 8, none⟩) (some ⟨g, 8, none⟩) 64 64 64 64 (by simp [Act.eval, Act.put, go_sem]) (by simp [Act.eval, Act.put, go_sem]) w.heap.size 8 cur 144 HC4.out csP HM2.out (fun _ => ⟨rfl, _, rfl, HCP1.out⟩) HF2.out HO2.out ?_; intro w6 hg6 hb6)
  rw [HSP2.out] at hg6
  have hb7 : Below w.heap.size w w6 := HB5.out.trans ((hb6.of_drew).below (Nat.le_refl _) (Nat.le_of_lt hs4))
  have HB7 := Lib.hid hb7
  clear hb6 hb7
  go_wp2
  go_ret
  refine ⟨_, rfl, Nat.le_refl _, HB7.out, ⟨pend, HQ1.out, q2, ?_, q4⟩⟩
  rw [HST.out, HL.out]
  exact hg6.out

/-- A slice in new memory that holds a sum. -/
def GivesSum (m : List Nat) (w : World) (e : Ending) (w' : World) : Prop := ∃ q, e = .returned (.slice (some ⟨q, 0, none⟩) 32 32) ∧ w.heap.size ≤ q ∧ Below w.heap.size w w' ∧ Blk w' q 5 .u8 (sha m)

set_option maxHeartbeats 2000000 in
set_option maxRecDepth 100000 in
theorem hsum_calls (w : World) (g : Nat) (m : List Nat) (hT : Tabs w) (hH : HashAt w g m) : Calls Tryz.prog 65 #[.pointer (some ⟨g, 0, none⟩)] w (GivesSum m w) := by
  have hlt := hH.lt
  obtain ⟨L, hL⟩ : ∃ L, m.length % 18446744073709551616 = L := ⟨_, rfl⟩
  have hL64 : L < 18446744073709551616 := by omega
  have HL := Lib.hid hL
  clear hL
  go_enter Tryz.func65, Tryz.ntmps65
  go_wp2_with fail
  refine (copy_calls w g m hH).mono ?_
  rintro e w1 ⟨q, rfl, hq, hb1, hh1⟩
  have hT1 := hT.below hb1 hT.size
  have c72 : w1.cell? ⟨g, 72, none⟩ = some (.int .u64 (L : Nat)) := by
    obtain ⟨pend, q1, _, q3, _⟩ := (hH.below hb1 hlt).ex
    have h := q3.cell (hcells_len (blocks_length m _) q1)
    rw [HL.out] at h
    exact h
  go_wp2_with fail
  refine (behind_calls w1 L hL64).mono ?_
  rintro e w2 ⟨rfl, hb2, hk2⟩
  have hh2 := hh1.below hb2 hh1.lt
  have hT2 := hT1.below hb2 hT1.size
  have hz12 := hb1.size
  have hz22 := hb2.size
  have hbl : behind L = behind m.length := by rw [← HL.out, behind_mod]
  rw [hbl] at hk2
  have hnl : noughts L + 9 = (behind m.length).length := by rw [← hbl, behind_length]
  have hrow : RowIn w2 .u8 (some ⟨w1.heap.size, 0, none⟩) (noughts L + 9) (noughts L + 9) (behind m.length) :=
    ⟨hnl, Nat.le_refl _, by have : noughts L < 64 := Nat.mod_lt _ (by omega); omega, fun _ => hk2.row hnl (Nat.le_refl _) (by have : noughts L < 64 := Nat.mod_lt _ (by omega); omega)⟩
  have hqlt := hh1.lt
  clear hbl hnl
  go_wp2_with fail
  refine (shaadd_calls w2 q m _ _ _ (behind m.length) hT2 hh2 (by have := hT.size; omega) hrow (behind_bytes _) (fun _ a ha => by cases ha; show w1.heap.size ≠ q; omega)).mono ?_
  rintro e w3 ⟨rfl, hb3, hh3⟩
  have hb13 : Below w.heap.size w w3 := (hb1.trans (hb2.mono hz12)).trans (hb3.below hq (by omega))
  obtain ⟨pend, q1, q2, q3, q4⟩ := hh3.ex
  have hz13 := hb13.size
  go_wp2_with fail
  refine (shabytes_calls w3 q _ pend _ (blocks_length _ _) (blocks_words _ _) q3).mono ?_
  rintro e w4 ⟨rfl, hb4, hk4⟩
  rw [List.length_append] at hk4
  go_wp2
  go_ret
  exact ⟨_, rfl, hz13, hb13.trans (hb4.mono hz13), hk4⟩
end Go.Proofs.YtcbhgfiafamflaaGreatDoor
